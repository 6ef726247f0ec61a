import PyProof.Rows.All
import Wide.All
import OpenK.AllK
import Wide.FinOn
import Lean
import PyProof.EqAt
import PyProof.EqKinds
import PyProof.TupleCall
import KE.KIntText
import KE.KRevSl
import PyProof.Rows.SeqMore
import PyProof.WalkInts
import PyProof.Rows.MinMaxN
import PyProof.ExcInit
import OpenK.KMake
import PyProof.InstStoreFacts
import PyProof.FString2
import PyProof.Rows.FStr
import PyProof.Rows.SetFrom
import PyProof.SeqRoads2
import PyProof.RangeFor
import PyProof.WalksMore
import PyProof.StrBlock2
import PyProof.Rows.SortShell
import PyProof.TupleOfSeq
import KE.KDictList
import KE.KDictOf
import PyProof.IsiH_tuple
import PyProof.Rows.RuleN_abs
import PyProof.Rows.Range3
import KE.KRevIter
import PyProof.StrLawsRepr
import PyProof.ReprStr
import PyProof.IsiH_list
import PyProof.Rows.TupDisplay
import PyProof.SetKind
import PyProof.SetScanFacts
import PyProof.CollectIter
import PyProof.Rows.SortStr
import PySem.Challenge.RW_chordbed_k42_states_as_they_come
set_option compiler.extract_closed false
set_option genSizeOf false
set_option genInjectivity false
set_option Elab.async false
set_option linter.all false
set_option maxRecDepth 100000
abbrev ax:=@if_pos
abbrev aE:=@if_neg
abbrev a4:=@decide_eq_true
abbrev a5:=@decide_eq_false
abbrev a6:=@of_decide_eq_true
abbrev a7:=@absurd
abbrev bg:=@List
abbrev b3:=@Option
abbrev b4:=@PySem.Heap.get?_push_of_some
abbrev cj:=@PySem.Heap.lt_size
abbrev ck:=@PySem.Heap.get?_push_size
abbrev cn:=@PySem.Heap.get?_update_other
abbrev cv:=@PySem.Heap.get?_update_self
abbrev da:=@PySem.Heap.size_push
abbrev dk:=@PySem.Heap.get?_none_of_le
abbrev dt:=@PySem.Obj.data_mapFields
abbrev dN:=@PySem.Obj.isFreed_of_fields
abbrev d0:=@Ne.symm
abbrev eg:=@congrArg
abbrev eh:=@beq_self_eq_true
open Lean in
def cvP:Nat→TSyntax `term→MacroM (TSyntax `rcasesPat)
 |0,_=>Macro.throwUnsupported
 |n+1,t=>let f:=fun (a:Array Term)=>do
   let l←(←a.mapM (cvP n)).mapM fun p=>`(Lean.Parser.Tactic.rcasesPatLo|$p:rcasesPat)
   `(rcasesPat|⟨$l,*⟩)
  match t with
  |`(⟨$a,*⟩)=>f a
  |`(($a,$b,*))=>f (#[a]++b.getElems)
  |`($i:ident)=>`(rcasesPat|$i:ident)
  |`(_)=>`(rcasesPat|_)
  |_=>Macro.throwUnsupported
local macro_rules|`(tactic|let $d:letDecl)=>`(tactic|have $d:letDecl)
local macro_rules|`(tactic|let $p:term:=$e)=>if p.raw.isIdent then Lean.Macro.throwUnsupported else do let q←cvP 99 p;`(tactic|obtain $q:rcasesPat:=$e)
local macro_rules|`(tactic|left)=>`(tactic|decide+kernel)|`(tactic|change $e)=>`(tactic|with_reducible exact $e)|`(tactic|specialize $e)=>`(tactic|with_reducible refine $e)
local macro_rules|`(def $i:declId $s:optDeclSig $v:declVal)=>if v.raw[1].isOfKind ``Lean.Parser.Term.byTactic then `(theorem $i:declId $(⟨Lean.mkNode ``Lean.Parser.Command.declSig #[s.raw[0],s.raw[1][0]]⟩):declSig $v:declVal) else `(noncomputable def $i:declId $s:optDeclSig $v:declVal)|`(abbrev $i:declId $s:optDeclSig $v:declVal)=>`(noncomputable abbrev $i:declId $s:optDeclSig $v:declVal)
local macro_rules|`(tactic|ext)=>`(tactic|decide)
local macro_rules|`(tactic|ext)=>`(tactic|omega)
local macro_rules|`(tactic|ext)=>`(tactic|lia)
local macro_rules|`(tactic|show $e)=>`(tactic|refine $e)
local macro_rules|`(tactic|ext $i:ident)=>`(tactic|cases $i:ident)
local macro_rules|`(tactic|ext $i:ident)=>`(tactic|unfold $i:ident)
local macro_rules|`(#[$a,*])=>`(⟨$a,*⟩)|`(#v[$a,*])=>`(List.toArray [$a,*])
local macro_rules|`(())=>`(by ext)
open Option renaming some->cL,none->VY,bind_eq_some_iff->W2,isSome_iff_exists->XA,isSome_map->Zk,map_eq_some_iff->ZK,isNone_iff_eq_none->abm,isSome_some->ac5,toList_none->ac8,getD_some->adz
open PySem.W renaming Frag->lD,nsIn->WC,findIn->W0,emptyDict->Xv,fnOf->Xw,keepIn->XF,mg_of->XN,instObj->X1,isFn->Yc,kia_one->Yz,specialIn->YG,cellsFrom_some->YH,plainGet->YQ,excIn->YX,codeIn->Y9,hasDictIn->Zh,methodCall_KW->ZO,lookIn->ZW,tailIn->Z1,plainGet_of->aab,callWith_K->aak,methodObj->aau,plainOver->aav,takerIn->aaO,makesIn->aaP,readsIn->aaS,findCls->aaT,nsOkIn->aa4,pyHash_slot->acu,tail_of_in->acG,handedIn->adf,OpenLaw->adA,typeIn->adK,kitOne->adL,clsIn->aei
open PySem renaming wpAny_bind->CL,Value->Ld,PyData->V3,Addr->V5,Shared->V7,wpAny_pure->Wb,sizeLine->We,starEach->Wn,NameKind->Wo,mainGlobals->Wr,Program->Ws,Expr->Ww,Around->WK,World->WO,wpAny_field->WQ,bootBuiltins->Xa,Builtin->Xe,FuncData->Xf,wpAny_setField->Xq,compareOp->Xs,sysModules->Xu,wpAny_truthy_bool->Xy,wpAny_seqItems->Xz,wpAny_holding->XH,binaryOp->XJ,mem_of_lookup->XM,Scope->XS,wpAny_newObj_type->XT,Stmt->XY,cellsFrom->X2,sizeLine_eq->X8,wpAny_loadPart_at->X9,wpAny_standAt->Yd,wpAny_callSpecial?_slot->Yh,wpAny_setField_rec->Ym,wpAny_passesOwn->Yt,swapsWith->Yu,wpAny_letGo->YA,wpAny_call_entry->YE,plainId_quiet->YJ,codeAny_builtin->YN,wpAny_Call_Name_kw->YS,DictEntry->YW,ExcBaseFacts->Y3,Comprehension->Za,codeAny_call_builtin->Zd,wpAny_execs_nil->Zj,wpAny_pyIter_list->Zm,wpAny_isSubtype_exc->Zn,call_meets->ZE,wpAny_rule->ZF,Keyword->ZS,wpAny_comprehension_free->Z0,GenState->aaa,BindsTo->aah,wpAny_call->aai,codeAny_mono->aaj,wpAny_pyIter_tuple->aax,ReadsAll->aaH,wpAny_updateSeq_pair->aaI,wpAny_tryCatch->aaJ,wpAny_onRaise->aaY,typeIs_int->aa2,tupleKind_room_in1->aa3,ZipApart->abi,call_meetsIn->abj,wpAny_Call_ofName->abk,eqIsQuiet_byValue->abl,plainObj_wpAny_Assign_Attribute->abt,PassesOwn->abC,Result->abE,wpAny_isInstance->abG,CmpOp->abW,wpAny_of_eq->abX,Within->ab5,pushCells_keeps->ab6,wpAny_updateSeq->ab8,OsState->acs,Code->acD,Reads->acE,IsZip->acF,wpAny_binaryOp_repeat_ref->ac6,Drawn->adx,Model->ady,wpAny_Assign_Subscript->adM,wpAny_typeOf->adN,wpAny_isTrue_Compare1->aeg,builtinLookup_eq_fast->aek,wpAny_notOrdered_dict->ael,Operator->aet,wpAny_mkInt->aey,wpAny_raiseNew_none->aeY,wpAny_Name->afk,wpAny_Constant_int->afl,wpAny_load->afn,wpAny_getItem_heap->afp,wpAny_setItem_heap->afq,wpAny_entryPlaceOf->afr,passOn->afs,BoolOp->aft,wpAny_assign_Name->af5,wpAny_Call_method->af6,wpAny_frameOf_fun->af7,OwnTail->af8,wpAny_dictEntries->af9,wpAny_pyHash_int->agz,wpAny_pyHash_str->agA,wpAny_execs_cons->agB,wpAny_lookBehind->agD,pastItsLine_dict->agE,noFill_tuple_add->agF,call->agH,wpAny_pyIter_zip->agJ,beq_builtin_none->agK,wpAny_specialOf->ahF,typeLookup_type->ahG,size_of_entries->ahJ,wpAny_Compare1->aiP,wpAny_loadPart->aiQ,refuseLoop_ref->aiX,HeapKind->aiY,intBits_le_64->akW,seq_tuple_add->akX,call_list_seq->akY,eval_ListComp->akZ,wpAny_attempt->ak0,wpAny_in_heap->ak1,strLen_append->ak2,wpAny_newList->ak3,ItemsOf->ak4
open Bool renaming and_eq_true->VZ,true->V0,false->V4,false_ne_true->Wv,or_eq_true->Xp,and_self->Yj,not_eq_true'->Yn,false_eq_true->YF,true_or->YM,false_or->Zz,true_and->ZA,false_and->aac,and_true->aay,or_true->aaN,noConfusion->aaZ,not_true->abZ,or_eq_false_iff->ada,eq_iff_iff->aew,bne_false->aeZ,or_false->afo
open List renaming length_map->V1,getElem?_eq_some_iff->V2,range->V6,length_append->V8,getElem?_eq_getElem->V9,replicate->Wd,mem_cons_of_mem->Wf,getElem?_map->Wg,getElem?_append_left->Wh,length_cons->Wi,length_range->Wj,mem_cons_self->Wk,map_cons->Wl,size_toArray->Wt,map_append->Wu,append_assoc->Wy,map_map->WB,mem_cons->WE,mem_of_getElem?->WG,mem_map->WH,mem_singleton->WI,append_nil->WL,getElem?_append_right->WN,mem_range->WX,lookup_cons->WY,find?_cons->WZ,isEmpty_iff->W4,getElem?_set_ne->W6,mem_append->W7,getElem?_set_self->Xb,mem_append_right->Xd,length_set->Xh,all_eq_true->Xj,replicate_succ->Xl,getElem?_set->Xm,length_replicate->Xt,map_congr_left->Xx,not_mem_nil->XB,nodup_cons->XI,length_take->XW,mem_filter->X3,lookup->X4,flatten_cons->X5,take_add_one->X6,getElem?_replicate->Ya,getElem_mem->Yb,length_nil->Yi,all_cons->Yk,prefix_refl->Yw,drop_eq_getElem_cons->Yx,nil_append->YD,map_nil->YK,drop_eq_nil_of_le->YL,nodup_append->YO,mem_iff_getElem?->YY,any_cons->Y2,mem_append_left->Y5,of_mem_zip->Y7,range_succ->Y8,mem_filterMap->Zg,pairwise_cons->Zi,pairwise_map->Zr,foldl_append->Zs,filter_cons->ZJ,take_length->ZL,foldl->ZT,take_of_length_le->ZU,foldl_cons->ZX,forIn_cons->ZZ,length_singleton->Z5,length_filter_le->Z6,contains_iff_mem->Z7,length->aad,nodup_nil->aae,take_zero->aaf,filterMap_cons->aas,contains_cons->aaF,any_eq_true->aa0,forIn_nil->abv,mem_of_find?_eq_some->abH,filterMap_cons_none->ab1,filterMap_cons_some->ab2,getElem?_cons_succ->ab7,getElem?_cons_zero->ab9,pairwise_lt_range->acx,mem_iff_getElem->ac7,getElem_toArray->ac9,set_cons_zero->adB,set_cons_succ->adC,prefix_append->adD,map_singleton->adE,zipIdx_cons->aeh,cons_append->aej,zipIdx_nil->aex,Nodup->ahK,set->ak6
open Nat renaming le_refl->Wa,le_of_ble_eq_true->Wc,lt_of_lt_of_le->Wx,ne_of_lt->Wz,le_trans->WU,zero_le->W8,zero_add->Xg,lt_irrefl->Xk,ne_of_gt->Xn,add_assoc->XG,le_of_eq->YR,lt_trans->YT,lt_succ_self->Y1,le_of_lt->Zc,le_of_succ_le->Zx,lt_succ_of_lt->Zy,add_sub_cancel_left->ZP,mul_le_mul->aal,lt_of_le_of_lt->aaG,lt_of_le_of_ne->aaK,add_comm->aaQ,lt_trichotomy->aaV,le_succ->abe,not_lt_zero->abq,min_le_right->aev,succ_mul->agG,sub_self->agL,lt_or_ge->agO,max_le->aiZ
open Option.some renaming inj->Wm
open Array renaming getElem?_eq_some_iff->WJ,length_toList->Xi,getElem?_setIfInBounds_self_of_lt->XD,getElem?_setIfInBounds_ne->YU,getElem?_toList->acv,find?_toList->ade,forIn_toList->adg,toList->afm
open PyProof.Rows renaming envOfC->WT,callWith_type1->YV,callWith_builtin1->ahE,kws_cons->ahH,kws_nil->ahI
open Int renaming toNat_natCast->Xo,le_refl->ZC,toNat_of_nonneg->aaw,ofNat->aa5,fdiv_eq_ediv_of_nonneg->abD,toNat->acw,emod_lt_of_pos->adO,le_antisymm->aeX,emod_nonneg->ae0,zero_add->agI
open PySem.F renaming excBase_ValueError->Yo,plainAttrs_dict->Zq,slot_dict_setdefault->aaU,slot_dict_getitem->abf,args_tuple_add_2->abh,slot_dict_values->abn,slot_list_append->abo,type_list_append->abp,entry_tuple_add->abu,slot_list_index->abw,plainAttrs_list->abx,slot_tuple_add->abF,slot_dict_pop->abY,slot_dict_len->ab0
open Nat.le renaming dest->Yr
open PySem.SeqAt renaming eqv_refl->ZG,compareEq_reads->aiR,compareNe_reads->aiS,in_list_reads->aiT,in_tuple_reads->aiU,notIn_list_reads->aiV,notIn_tuple_reads->aiW
open List.Pairwise renaming nil->ZY,filterMap->agM,filter->agN
open List.Perm renaming refl->aaR,swap->amS
open PySem.W.Looks renaming here->agC
open PySem.Within renaming cons->ahD
open List.Nodup renaming sublist->ak5
open PySem.IsL renaming update->amR
open List.cons renaming injEq->amT
abbrev W:=@rfl
abbrev G:=@List
abbrev z:=@Option
open Option renaming some->M,none->R
open Bool renaming true->P,false->I
open PySem renaming Addr->U,Value->B
namespace L2
open PySem PySem.Spec PyProof.Rows
abbrev cw:=Sum Int Str
def tD:cw->B->Bool
 |.inl k,v=>Ld.isInt k v
 |.inr x,v=>Ld.isStrOf x v
def Ub(w:WO):cw->Int
 |.inl k=>hashInt k
 |.inr x=>hashStr w x
theorem cF:∀{k:cw} {v:B},tD k v=P->(∃i t,k=Sum.inl i/\v=Ld.int i t)\/(∃x t,k=Sum.inr x/\v=Ld.str x t)
 |.inl i,v,h=>by let(t,e):=Ld.isInt_shape h;show .inl #[i,t,W,e]
 |.inr x,v,h=>by let(t,e):=Ld.isStrOf_shape h;show .inr #[x,t,W,e]
def BW(i:Int)(t:Tok):tD (.inl i) (.int i t)=P:=by simp[tD,Ld.isInt]
def C0(x:Str)(t:Tok):tD (.inr x) (.str x t)=P:=by simp[tD,Ld.isStrOf]
def Qh(a b:Int):decide ((Sum.inl a:cw)=Sum.inl b)=(a==b):=by
 by_cases e:a=b
 .subst e;simp
 .let h:¬(Sum.inl a:cw)=Sum.inl b:=λq=>e (Sum.inl.inj q);rw[a5 h];show(beq_eq_false_iff_ne.mpr e).symm
def Ob(a b:Str):decide ((Sum.inr a:cw)=Sum.inr b)=decide (a=b):=by
 by_cases e:a=b
 .subst e;simp
 .let h:¬(Sum.inr a:cw)=Sum.inr b:=λq=>e (Sum.inr.inj q);rw[a5 h,a5 e]
theorem Pc(a:Int)(b:Str):decide ((Sum.inl a:cw)=Sum.inr b)=I:=a5 (λq=>nomatch q)
theorem Pw(a:Str)(b:Int):decide ((Sum.inr a:cw)=Sum.inl b)=I:=a5 (λq=>nomatch q)
def cH(prog:Ws)(w:WO):PySem.KeyKind prog w cw where
 is:=tD
 hash:=Ub w
 inj:=λv a b m g=>by
  rcases cF m with⟨i,t,rfl,rfl⟩|⟨x,t,rfl,rfl⟩
  .rcases cF g with⟨j,u,rfl,e⟩|⟨y,u,rfl,e⟩
   .injection e with e1 _;rw[e1]
   .show nomatch e
  .rcases cF g with⟨j,u,rfl,e⟩|⟨y,u,rfl,e⟩
   .show nomatch e
   .injection e with e1 _;rw[e1]
 byValue:=λk v h=>by rcases cF h with⟨i,t,rfl,rfl⟩|⟨x,t,rfl,rfl⟩<;>rfl
 pyHash:=λf h=>by
  rcases cF f with⟨i,t,rfl,rfl⟩|⟨x,t,rfl,rfl⟩
  .show agz h
  .show agA h
 eqBool:=λl f h=>by
  rcases cF l with⟨i,t,rfl,rfl⟩|⟨x,t,rfl,rfl⟩
  .rcases cF f with⟨j,u,rfl,rfl⟩|⟨y,u,rfl,rfl⟩
   .rw[Qh]at h;show wpAny_eqBool_int h
   .rw[Pc]at h;show SeqAt.EqAt.int_str i t y u _ _ _ _ h
  .rcases cF f with⟨j,u,rfl,rfl⟩|⟨y,u,rfl,rfl⟩
   .rw[Pw]at h;show SeqAt.EqAt.str_int x t j u _ _ _ _ h
   .rw[Ob]at h;show wpAny_eqBool_str h
 «strs»:=λk x t v h=>by
  rcases cF h with⟨i,u,rfl,e⟩|⟨y,u,rfl,e⟩
  .show nomatch e
  .injection e with e1 _
   subst e1;ext v<;>rfl
theorem yh(prog:Ws)(w:WO)(i:Int)(t:Tok):(cH prog w).is (.inl i) (.int i t)=P:=BW i t
theorem ye(prog:Ws)(w:WO)(x:Str)(t:Tok):(cH prog w).is (.inr x) (.str x t)=P:=C0 x t
inductive V where
 |Yf|bl (b:Bool)|int (i:Int)|str (x:Str)|byt (b:Array UInt8)|flt (b:UInt64)|ref (a:U)|ty (n:String)
 deriving DecidableEq
def RelV:V->B->Prop
 |.Yf,u=>u=Ld.none
 |.bl b,u=>u=Ld.bool b
 |.int i,u=>∃t,u=Ld.int i t
 |.str x,u=>∃t,u=Ld.str x t
 |.byt b,u=>∃t,u=Ld.bytes b t
 |.flt b,u=>∃t,u=Ld.float b t
 |.ref a,u=>u=Ld.ref a
 |.ty n,u=>u=Ld.type n
abbrev Vals:G V->G B->Prop:=Paired RelV
theorem Vals.length(r:Vals xs us):xs.length=us.length:=Paired.length r
theorem Vals.get:∀{xs:G V} {us:G B} {i:Nat} {x:V},Vals xs us->xs[i]?=M x->∃u,us[i]?=M u/\RelV x u
 |_,_,_,_,.nil,e=>by simp at e
 |_,_,0,_,.cons r _,e=>by simp at e;subst e;show#[_,W,r]
 |_,_,i+1,x,.cons _ t,e=>by let(u,b,a):=Vals.get t (by simpa using e);show#[u,by simpa using b,a]
theorem Vals.append:∀{xs a:G V} {us ws:G B},Vals xs us->Vals a ws->Vals (xs++a) (us++ws)
 |_,_,_,_,.nil,s=>s
 |_,_,_,_,.cons r t,s=>.cons r (Vals.append t s)
def Zu:z V->z B->Prop
 |some v,M u=>RelV v u
 |none,R=>True
 |_,_=>False
def KV:G (o×V)->G (o×B)->Prop:=Paired λ(p:o×V) (q:o×B)=>p.1=q.1/\RelV p.2 q.2
def kV:cw->V
 |.inl i=>.int i
 |.inr x=>.str x
inductive HO where
 |lst (xs:G V)
 |tup (xs:G V)
 |dK (WA:G (cw×V))|dT (WA:G (G cw×V))
 |set (S:Int->Bool) (n:Nat)
 |ins (C dx:U) (fs:G (Str×V))
 |own (x:U)
 |xd (fs:G (Str×V))
 |met (f x:U)
 |rng (lo hi:Int)
 |frz (o:Obj) (u:HO)
 |tbl (ps:Array B)
 |ext (φ:Heap->Prop)
 |exw (φ:WO->Heap->Prop)
abbrev Hp:=U->z HO
def a8(H:Hp)(a:U)(o:HO):Hp:=λb=>if b=a then M o else H b
def aI:a8 H a o a=M o:=by ext a8;rw[ax W]
def aw(h:b≠a):a8 H a o b=H b:=by ext a8;rw[aE h]
def Tz{H:Hp}{a b:U}{o u:HO}(h:H a=M o)(c:H b=M u)(d:o≠u):a≠b:=by intro e;subst e;rw[h]at c;show d (Wm c)
def bE{H:Hp}(h:H a=M o)(c:H b=R):a≠b:=by intro e;subst e;rw[h]at c;ext c
def aa8(h:Heap)(a:U)(b:Array B):Prop:=∃o,h.get? a=M o/\(o.cls=.type "tuple"/\∃n,o.data=.seq b n)/\o.dict=R
theorem aa8.tup(x:aa8 h a items):IsTup h a items:=let#[o,e,c,_]:=x;#[o,e,c]
theorem aa8.lt(x:aa8 h a items):a<h.objs.size:=let#[_,e,_]:=x;cj e
theorem aa8.new(h:Heap)(xs:Array B):aa8 (h.push {cls:=.type "tuple",data:=.seq xs}) h.objs.size xs:=#[_,ck _ W,#[W,_,W],W]
section
variable(P:Ws)(w:WO)
def ObjOk(H:Hp)(h:Heap)(a:U):HO->Prop
 |.lst xs=>xs.length<=We/\∃(b:G B) (n:Nat),Vals xs b/\h.get? a=M {cls:=.type "list",data:=.seq b.toArray n}
 |.tup xs=>xs.length<=We/\∃b:G B,Vals xs b/\aa8 h a b.toArray
 |.dK j=>j.length<=We/\(a==Xu)=I/\∃m,KV j m/\h.DictOf (cH P w) a m
 |.dT j=>j.length<=We/\(a==Xu)=I/\∃xs:G (G cw×U×B),
   Paired (λ(p:G cw×V) (q:G cw×U×B)=>p.1=q.1/\H q.2.1=M (.tup (p.1.map kV))/\RelV p.2 q.2.2) j xs/\
   ∃o es A,h.get? a=M o/\o.ExactDict/\o.data=.dict es A/\es.toList=xs.map (entryOfKey (tupleKind (cH P w)))/\(xs.map (·.1)).Nodup
 |.set S n=>h.SetOf (intKind P w) a S n
 |.ins C l fs=>H l=M (.own a)/\fs.length<=1000/\l≠a/\h.get? a=M (X1 C l)/\
   ∃g,h.Ns1 l g/\(∀f,Zu (fs.lookup f) (g f))/\ab5 g (fs.map (·.1))
 |.own _=>∃o,h.get? a=M o
 |.xd fs=>∃g,h.Ns1 a g/\∀f,Zu (fs.lookup f) (g f)
 |.rng lo y=>∃t u v,h.get? a=M {cls:=.type "range",data:=.fields #v[.int lo t,.int y u,.int 1 v]}
 |.frz o u=>h.get? a=M o/\ObjOk H h a u
 |.tbl r=>h.get? a=M {cls:=.none,data:=.fields r}
 |.met f x=>h.get? a=M (aau (.ref f) (.ref x))
 |.ext e=>e h/\(∃o,h.get? a=M o)/\∀h1 i:Heap,e h1->(∀o,h1.get? a=M o->i.get? a=M o)->e i
 |.exw e=>e w h/\(∃o,h.get? a=M o)/\∀h1 i:Heap,e w h1->(∀o,h1.get? a=M o->i.get? a=M o)->e w i
def Z9(H:Hp)(h:Heap):Prop:=∀a o,H a=M o->ObjOk P w H h a o
end
section
variable{P:Ws}{w:WO}{H Z:Hp}{h h':Heap}{a:V5}{o:HO}
def ObjOk.lt(x:ObjOk P w H h a o):a<h.objs.size:=by
 cases o with
 |lst xs=>let(_,_,_,_,e):=x;show cj e
 |tup xs=>let(_,_,_,p):=x;show p.lt
 |dK i=>let(_,_,_,_,o,_,_,e,_):=x;show cj e
 |dT i=>let(_,_,_,_,o,_,_,e,_):=x;show cj e
 |set S n=>let(o,_,_,_,e,_):=x;show cj e
 |ins C m fs=>let(_,_,_,e,_):=x;show cj e
 |own y=>let(_,e):=x;show cj e
 |xd fs=>let(_,(_,_,_,e,_),_):=x;show cj e
 |rng lo l=>let(_,_,_,e):=x;show cj e
 |frz b u=>let(e,_):=x;show cj e
 |tbl j=>show cj (show h.get? a=M _ from x)
 |met f y=>show cj (show h.get? a=M _ from x)
 |ext g=>let(_,(_,e),_):=x;show cj e
 |exw g=>let(_,(_,e),_):=x;show cj e
theorem Paired.Zt:∀{d:bg α} {c:bg β},Paired F d c->(∀a b,F a b->e a b)->Paired e d c
 |_,_,.nil,_=>.nil
 |_,_,.cons r t,f=>.cons (f _ _ r) (Paired.Zt t f)
def ObjOk.Zw(x:ObjOk P w H h a o)(k:∀b u,(b=a\/H b=M (.own a))->h.get? b=M u->h'.get? b=M u)
  (F:∀b,H b=M (.own a)->Z b=M (.own a)) (E:∀b xs,H b=M (.tup xs)->Z b=M (.tup xs)):ObjOk P w Z h' a o:=by
 induction o with
 |lst xs=>let(z,A,n,r,e):=x;show#[z,A,n,r,k _ _ (.inl W) e]
 |tup xs=>let(z,A,r,g,e,c):=x;show#[z,A,r,g,k _ _ (.inl W) e,c]
 |dK N=>let(z,y,L,r,g,es,i,e,c):=x;show#[z,y,L,r,g,es,i,k _ _ (.inl W) e,c]
 |dT N=>let(z,y,xs,r,g,es,i,e,c):=x;show#[z,y,xs,Paired.Zt r λp q z=>#[z.1,E _ _ z.2.1,z.2.2],g,es,i,k _ _ (.inl W) e,c]
 |set S n=>let(g,es,i,t,e,c):=x;show#[g,es,i,t,k _ _ (.inl W) e,c]
 |ins C Q fs=>let(d,z,ne,e,m,(l,es,i,e2,c),r):=x;show#[F _ d,z,ne,k _ _ (.inl W) e,m,#[l,es,i,k _ _ (.inr d) e2,c],r]
 |own y=>let(g,e):=x;show#[g,k _ _ (.inl W) e]
 |xd fs=>let(m,(l,es,i,e,c),r):=x;show#[m,#[l,es,i,k _ _ (.inl W) e,c],r]
 |rng lo O=>let(t,u,v,e):=x;show#[t,u,v,k _ _ (.inl W) e]
 |frz g u B=>let(e,q):=x;show#[k _ _ (.inl W) e,B q]
 |tbl J=>let e:h.get? a=M {cls:=.none,data:=.fields J}:=x;show h'.get? a=M {cls:=.none,data:=.fields J};show k a _ (.inl W) e
 |met f y=>let e:h.get? a=M (aau (.ref f) (.ref y)):=x;show h'.get? a=M (aau (.ref f) (.ref y));show k a _ (.inl W) e
 |ext K=>let(p,(o,e),j):=x;show#[j _ _ p λo q=>k _ _ (.inl W) q,#[o,k _ _ (.inl W) e],j]
 |exw K=>let(p,(o,e),j):=x;show#[j _ _ p λo q=>k _ _ (.inl W) q,#[o,k _ _ (.inl W) e],j]
theorem Z9.lt(x:Z9 P w H h)(e:H a=M o):a<h.objs.size:=(x a o e).lt
def Z9.fresh(x:Z9 P w H h)(e:h.objs.size<=a):H a=R:=by
 cases q:H a with
 |none=>rfl
 |some u=>show a7 (Wx (x.lt q) e) (Xk _)
theorem Z9.kept(x:Z9 P w H h)(k:∀b u,h.get? b=M u->h'.get? b=M u):Z9 P w H h':=λa o e=>
 (x a o e).Zw (λb u _ q=>k b u q) (λ_ q=>q) λ_ _ q=>q
theorem Z9.laid(x:Z9 P w H h)(k:∀b u,h.get? b=M u->h'.get? b=M u)(g:h.objs.size<=a)(new:ObjOk P w (a8 H a o) h' a o):Z9 P w (a8 H a o) h':=λb u e=>by
 let i:=x.fresh g;by_cases f:b=a
 .subst f;rw[aI]at e;ext e;show new
 .rw[aw f]at e;show(x b u e).Zw (λc v _ q=>k c v q) (λc q=>by rw[aw (bE q i)];show q) λc xs q=>by rw[aw (bE q i)];show q
end
def Rd(H:Hp)(a:U)(u:HO):Prop:=H a=M u\/∃o,H a=M (.frz o u)
def Rd.ok(r:Rd H a u)(x:Z9 b w H h):ObjOk b w H h a u:=by
 rcases r with r|⟨o,r⟩
 .show x a u r
 .let(_,q):=x a _ r;show q
def R9:z HO->Prop
 |some (.lst _)=>True
 |some (.dK _)=>True
 |some (.dT _)=>True
 |some (.set _ _)=>True
 |some (.ins _ _ _)=>True
 |some (.ext _)=>True
 |some (.exw _)=>True
 |_=>False
section
variable{P:Ws}{w:WO}{H:Hp}{h h':Heap}{x e:V5}{Z:HO}
theorem Z9.write(ok:Z9 P w H h)(g:R9 (H x))(o:e=x\/H e=M (.own x))(k:∀b u,b≠e->h.get? b=M u->h'.get? b=M u)(l:∃u,h'.get? e=M u)
  (new:ObjOk P w (a8 H x Z) h' x Z):Z9 P w (a8 H x Z) h':=λb u q=>by
 let f:∀c y,H c=M (.own y)->c≠x:=λc y r z=>by subst z;rw[r]at g;show g
 let m:∀c xs,H c=M (.tup xs)->c≠x:=λc xs r z=>by subst z;rw[r]at g;show g
 by_cases j:b=x
 .subst j;rw[aI]at q;ext q;show new
 .rw[aw j]at q
  by_cases a:b=e
  .let n:H b=M (.own x):=by
    rcases o with z|z
    .show a7 (a.trans z) j
    .rw[a];show z
   rw[q]at n;ext n;let(v,p):=l;show#[v,by rw[a];show p]
  .show(ok b u q).Zw (λc v i r=>k c v ?_ r) (λc r=>by rw[aw (f c b r)];show r) λc xs r=>by rw[aw (m c xs r)];show r
   rcases i with rfl|i
   .show a
   .rintro rfl
    rcases o with z|z
    .show f c b i z
    .rw[i]at z;ext z;show j W
end
structure Un(fs ex:G U)(H H':Hp)(h h':Heap):Prop where
 keep:∀b o,h.get? b=M o->H b=R->b∉fs->b∉ex->h'.get? b=M o
 slot:∀b o,h.get? b=M o->H b=R->b∈fs->b∉ex->∃sl,h'.get? b=M {o with slots:=sl}
 free:∀b o,h.get? b=M o->H b=R->b∉ex->H' b=R
 there:∀b o,h.get? b=M o->b∉ex->∃o',h'.get? b=M o'
 aa6:∀b xs,H b=M (.tup xs)->H' b=M (.tup xs)
 aaX:∀b o u,H b=M (.frz o u)->H' b=M (.frz o u)
 abb:∀b ps,H b=M (.tbl ps)->∃more,H' b=M (.tbl (ps++more))
section
variable{fs X Z T:bg V5}{H S Q:Hp}{h Y O h':Heap}{a x e:V5}{o:HO}
def Un.any(u:Un fs Z H S h Y)(q:h.get? b=M ob)(n:H b=R)(f:b∉Z):∃c,Y.get? b=M {ob with slots:=c}:=by
 by_cases g:b∈fs
 .show u.slot b ob q n g f
 .show#[ob.slots,u.keep b ob q n g f]
theorem Un.kept(k:∀b u,h.get? b=M u->h'.get? b=M u):Un fs Z H H h h':=
 #[λb f q _ _ _=>k b f q,λb f q _ _ _=>#[f.slots,k b f q],λ_ _ _ n _=>n,λb f q _=>#[f,k b f q],λ_ _ q=>q,λ_ _ _ q=>q,λ_ g q=>#[#v[],by rw[q];simp]]
theorem Un.refl:Un fs Z H H h h:=Un.kept λ_ _ q=>q
theorem Un.laid(k:∀b u,h.get? b=M u->h'.get? b=M u)(f:h.objs.size<=a)(c:H a=R):Un fs Z H (a8 H a o) h h' where
 keep:=λb u q _ _ _=>k b u q
 slot:=λb u q _ _ _=>#[u.slots,k b u q]
 free:=λb u q n _=>by rw[aw (Wz (Wx (cj q) f))];show n
 there:=λb u q _=>#[u,k b u q]
 aa6:=λb xs q=>by rw[aw (bE q c)];show q
 aaX:=λb u xs q=>by rw[aw (bE q c)];show q
 abb:=λb g q=>#[#v[],by rw[aw (bE q c),q];simp]
def Un.write(g:R9 (H x))(p:e=x\/H e=M (.own x))(k:∀b u,b≠e->h.get? b=M u->h'.get? b=M u)(i:∃u,h'.get? e=M u):Un fs Z H (a8 H x o) h h':=by
 let j:∀b,H b=R->b≠x:=λb n z=>by subst z;rw[n]at g;show g
 let l:∀b,H b=R->b≠e:=λb n z=>by
  subst z;rcases p with r|r
  .show j b n r
  .rw[n]at r;ext r
 let hm:∀b u,H b=M u->¬R9 (M u)->b≠x:=λb u q m z=>by subst z;rw[q]at g;show m g
 show#[λb u q n _ _=>k b u (l b n) q,λb u q n _ _=>#[u.slots,k b u (l b n) q],λb u q n _=>by rw[aw (j b n)];show n,λb u q _=>?_,
  λb xs q=>by rw[aw (hm b _ q λz=>z)];show q,λb u xs q=>by rw[aw (hm b _ q λz=>z)];show q,λb t q=>#[#v[],by rw[aw (hm b _ q λz=>z),q];simp]]
 by_cases f:b=e
 .subst f;show i
 .show#[u,k b u f q]
end
def TN(h:Heap)(H:Hp):G U:=(V6 h.objs.size).filter λa=>(H a).isSome
def wb(h:Heap)(H:Hp):Heap:=PySem.W.hideAll h (TN h H)
theorem Dm(h:Heap)(H:Hp):(wb h H).objs.size=h.objs.size:=PySem.W.hideAll_size _ _
theorem Gv(e:h.get? b=M o)(n:H b=R):(wb h H).get? b=M o:=
 PySem.W.hideAll_get _ e λhm=>by let q:=(X3.mp hm).2;rw[n]at q;simp at q
def JN(e:(wb h H).get? b=M o):h.get? b=M o/\H b=R:=by
 let a:=PySem.W.of_hideAll (TN h H) e;show#[a,?_];cases q:H b with
 |none=>rfl
 |some x=>let hm:b∈TN h H:=X3.mpr #[WX.mpr (cj a),by simp[q]];let z:(wb h H).get? b=R:=PySem.W.hideAll_none (TN h H) hm;rw[z]at e;ext e
structure Mod(K:lD)(mg:Str->z B)(base:Heap):Prop where
 kin:K.In base
 glob:base.Ns Wr mg
 blt:∃mb,base.Ns builtinsNs mb/\∀x:Str,x≠ "__name__"->mb x=Xa x
 nolimit:base.NoLimit
structure Cx where
 prog:Ws
 w:WO
 K:lD
 mg:Str->z B
 base:Heap
 A:WK
 N:G Str
 s₀:V7
 H₀:Hp
 env:Env
 outer:G Env
 stack:G Env
 ex:G U
 fn:Str->Bool
 calm:Bool
 pn:G (U×Obj)
 xe:B->V7->Prop
def wx(l:G Env):G U:=l.filterMap (·.frame)
abbrev Cx.fs(X:Cx):G U:=wx X.outer
def TK(sc:XS)(x:Str):Prop:=sc.names.lookup x=M .local\/sc.names.lookup x=M .cell\/sc.names.lookup x=M .free
def Ro(sc:XS)(x:Str):Prop:=sc.names.lookup x=M .local\/sc.names.lookup x=M .cell
def T4(env:Env)(h:Heap)(m:Str->z B)(x:Str)(u:B):Prop:=
 (env.kindOf x=M .local/\m x=M u)\/((env.kindOf x=M .cell\/env.kindOf x=M .free)/\∃c,env.cells.lookup x=M c/\h.IsCell c (M u))
structure Cx.Ok(X:Cx):Prop where
 mod:Mod X.K X.mg X.base
 kind:X.env.scope.kind=.function
 glob:X.env.globals=Wr
 blt:X.env.builtins=builtinsNs
 above:X.s₀.heap.objs.size<=X.env.locals
 inj:∀x y c,X.env.cells.lookup x=M c->X.env.cells.lookup y=M c->x=y
 has:∀x,(X.env.kindOf x=M .cell\/X.env.kindOf x=M .free)->∃c,X.env.cells.lookup x=M c
 cab:∀x c,X.fn x=P->X.env.cells.lookup x=M c->X.s₀.heap.objs.size<=c
 hd:X.calm=P->X.A.handled=R
 frames:X.A.frames=M X.stack
 stk:X.stack=X.outer\/(X.stack=X.env::X.outer/\X.env.frame=M X.env.locals)
 exf:∀b∈X.ex,b≠X.env.locals/\∀x c,X.env.cells.lookup x=M c->c≠b
 bs:∀b o,X.base.get? b=M o->X.s₀.heap.get? b=M o/\X.H₀ b=R
 bsz:X.base.objs.size<=X.s₀.heap.objs.size
 ach:∀b o,X.base.get? b=M o->b∉X.ex
 acd:∀b∈X.ex,b∉X.fs
 aam:X.s₀.heap.FunFrames X.base X.outer
 frf:∀b∈X.fs,X.H₀ b=R
structure Inv(X:Cx)(pins:G (U×Obj))(σ:G (z V))(H:Hp)(s:V7):Prop where
 ok:X.Ok
 os:s.os=X.s₀.os
 bare:AllBare s.gens
 base:Un X.fs X.ex X.H₀ H X.s₀.heap s.heap
 loc:∃m,s.heap.Ns X.env.locals m/\∀(i:Nat) (x:Str) (v:V),X.N[i]?=M x->σ[i]?=M (M v)->TK X.env.scope x->∃u,RelV v u/\T4 X.env s.heap m x u
 cell:∀x c,X.env.cells.lookup x=M c->∃v,s.heap.IsCell c v
 free:H X.env.locals=R
 Y6:∀x c,X.env.cells.lookup x=M c->H c=R
 pin:∀p∈X.pn++pins,s.heap.get? p.1=M p.2/\H p.1=R/\p.1≠X.env.locals/\p.1∉X.fs/\∀v,p.2.data≠.cell v
 Xr:Z9 X.prog X.w H s.heap
 len:σ.length=X.N.length
section
variable{X:Cx}{Z:bg (V5×Obj)}{Y:bg (b3 V)}{H H':Hp}{s:V7}{h':Heap}
theorem Cx.Ok.ajG(ok:X.Ok)(e:X.base.get? b=M o):b∉X.fs:=λa=>by let:=(ok.aam.mem a).1;rw[e]at this;ext this
theorem Inv.bs(I:Inv X Z Y H s):∀b o,X.base.get? b=M o->s.heap.get? b=M o/\H b=R:=λb o e=>
 #[I.base.keep b o (I.ok.bs b o e).1 (I.ok.bs b o e).2 (I.ok.ajG e) (I.ok.ach b o e),I.base.free b o (I.ok.bs b o e).1 (I.ok.bs b o e).2 (I.ok.ach b o e)]
theorem Inv.bk(I:Inv X Z Y H s):∀b o,X.base.get? b=M o->s.heap.get? b=M o:=λb o e=>(I.bs b o e).1
theorem Inv.mod(I:Inv X Z Y H s):Mod X.K X.mg X.base:=I.ok.mod
theorem Inv.kIn(I:Inv X Z Y H s):X.K.In s.heap:=I.ok.mod.kin.keeps I.bk
theorem Inv.lt(I:Inv X Z Y H s):X.env.locals<s.heap.objs.size:=let#[_,a,_]:=I.loc;a.lt
theorem Inv.sz(I:Inv X Z Y H s):X.s₀.heap.objs.size<=s.heap.objs.size:=WU I.ok.above (Zc I.lt)
theorem Inv.ajQ(I:Inv X Z Y H s)(h:s.heap.objs.size<=a):a∉X.fs:=λe=>by let(_,o,b,_):=I.ok.aam.mem e;show a7 (Wx (cj b) (WU I.sz h)) (Xk _)
theorem Inv.cne(I:Inv X Z Y H s):∀x c,X.env.cells.lookup x=M c->c≠X.env.locals:=λx c e z=>by let(v,o,f,g):=I.cell x c e;let(m,(h,es,i,a,b,_),_):=I.loc;rw[z,a]at f;ext f;rw[b]at g;ext g
def Inv.aam(I:Inv X Z Y H s):s.heap.FunFrames X.base X.outer:=by
 let all:∀(l:G Env),(∀b∈wx l,b∈X.fs)->X.s₀.heap.FunFrames X.base l->s.heap.FunFrames X.base l:=by
  intro l
  induction l with
  |nil=>intro _ _;trivial
  |cons t r i=>intro h n;let(p,(L,o,a,v,m,q),j):=n;let g:=h L (by ext wx;rw[aas,a];show Wk);let(u,e):=I.base.slot L o m (I.ok.frf L g) g λz=>I.ok.acd L z g;show#[p,#[L,_,a,v,e,q],i (λb f=>h b (by ext wx;rw[aas,a];show Wf _ f)) j]
 show all X.outer (λ_ f=>f) I.ok.aam
def Inv.stack(I:Inv X Z Y H s):s.heap.FunFrames X.base X.stack:=by
 rcases I.ok.stk with e|⟨e,hf⟩
 .rw[e];show I.aam
 .rw[e];let(m,a,_):=I.loc;show .cons (by rw[I.ok.kind];decide) hf a ?_ I.aam;show dk (WU I.ok.bsz I.ok.above)
theorem Inv.aan(I:Inv X Z Y H s):∀b∈wx X.stack,b∈X.env.locals::X.fs:=λb a=>by
 rcases I.ok.stk with e|⟨e,hf⟩
 .rw[e]at a;show Wf _ a
 .rw[e]at a;unfold wx at a;rw[aas,hf]at a;show a
theorem Inv.aaC(I:Inv X Z Y H s):∀b∈wx X.stack,H b=R:=λb a=>by
 rcases WE.mp (I.aan b a)with e|a
 .rw[e];show I.free
 .let(_,o,f,_):=I.ok.aam.mem a;show I.base.free b o f (I.ok.frf b a) λz=>I.ok.acd b z a
def Inv.step{g':Array aaa}{T:Nat}{d':adx}{ch:bg U}(I:Inv X Z Y H s)
  (g:∀b∈ch,(b∈X.ex\/X.s₀.heap.objs.size<=b)/\b≠X.env.locals/\(∀x c,X.env.cells.lookup x=cL c->c≠b)/\∀p∈X.pn++Z,p.1≠b)
  (keep:∀b o,b≠X.env.locals->b∉X.fs->b∉ch->s.heap.get? b=cL o->H b=R->h'.get? b=cL o)
  (slot:∀b o,b≠X.env.locals->b∈X.fs->b∉ch->s.heap.get? b=cL o->H b=R->∃N,h'.get? b=cL {o with slots:=N}) (free:∀b o,b∉ch->s.heap.get? b=cL o->H b=R->H' b=R)
  (there:∀b o,b∉ch->s.heap.get? b=cL o->∃w,h'.get? b=cL w)
  (S:∀b xs,H b=cL (.tup xs)->H' b=cL (.tup xs)) (Q:∀b o u,H b=cL (.frz o u)->H' b=cL (.frz o u)) (O:∀b D,H b=cL (.tbl D)->∃more,H' b=cL (.tbl (D++more)))
  (ns:∀m,s.heap.Ns X.env.locals m->h'.Ns X.env.locals m) (Xr:Z9 X.prog X.w H' h') (M:AllBare g'):
  Inv X Z Y H' {s with heap:=h',gens:=g',drawn:=d',toks:=T}:=by
 let A:∀b o,X.s₀.heap.get? b=cL o->b≠X.env.locals:=λb o e=>Wz (Wx (cj e) I.ok.above);let j:∀b o,X.s₀.heap.get? b=cL o->b∉X.ex->b∉ch:=λb o e a t=>by
  rcases(g b t).1 with z|z
  .show a z
  .show a7 (Wx (cj e) z) (Xk _)
 let h:∀x c,X.env.cells.lookup x=cL c->∀v,s.heap.IsCell c v->h'.IsCell c v:=λx c e v #[o,y,C]=>by
  let f:c∉ch:=λz=>(g c z).2.2.1 x c e W;by_cases G:c∈X.fs
  .let(N,q):=slot c o (I.cne x c e) G f y (I.Y6 x c e);show#[_,q,C]
  .show#[o,keep c o (I.cne x c e) G f y (I.Y6 x c e),C]
 show#[I.ok,I.os,M,#[λb o e n t a=>?_,λb o e n t a=>?_,λb o e n a=>?_,λb o e a=>?_,λb xs e=>S b xs (I.base.aa6 b xs e),λb o xs e=>Q b o xs (I.base.aaX b o xs e),λb D e=>?_],?_,λx c e=>?_,?_,λx c e=>?_,λp F=>?_,Xr,I.len]
 .show keep b o (A b o e) t (j b o e a) (I.base.keep b o e n t a) (I.base.free b o e n a)
 .let(N,e1):=I.base.slot b o e n t a;let(B,e2):=slot b _ (A b o e) t (j b o e a) e1 (I.base.free b o e n a);show#[B,e2]
 .let(w,e1):=I.base.there b o e a;show free b w (j b o e a) e1 (I.base.free b o e n a)
 .let(w,e1):=I.base.there b o e a;show there b w (j b o e a) e1
 .let(K,e1):=I.base.abb b D e;let(J,e2):=O b _ e1;show#[K++J,by rw[e2,Array.append_assoc]]
 .let(m,hn,L):=I.loc
  show#[m,ns m hn,λi x v e1 e2 e3=>?_];let(u,r,l):=L i x v e1 e2 e3;show#[u,r,?_];rcases l with l|⟨k,c,e,z⟩
  .show .inl l
  .show .inr #[k,c,e,h x c e _ z]
 .let(v,z):=I.cell x c e;show#[v,h x c e v z]
 .let(m,(o,_,_,y,_),_):=I.loc;show free _ o (λz=>(g _ z).2.1 W) y I.free
 .let(v,o,y,C):=I.cell x c e;show free c o (λz=>(g c z).2.2.1 x c e W) y (I.Y6 x c e)
 .let(e,n,ne,E,d):=I.pin p F;let f:p.1∉ch:=λz=>(g p.1 z).2.2.2 p F W;show#[keep p.1 p.2 ne E f e n,free p.1 p.2 f e n,ne,E,d]
def Inv.un{t':Nat}(I:Inv X Z Y H s)(u:Un X.fs [] H H' s.heap h')(Xr:Z9 X.prog X.w H' h'):Inv X Z Y H' {s with heap:=h',toks:=t'}:=by let(m,(o,es,v,i,r),_):=id I.loc;let(p,l):=u.any i I.free (by simp);show I.step (g':=s.gens) (d':=s.drawn) (ch:=[]) (λ_ z=>nomatch z) (λb o _ f _ e n=>u.keep b o e n f (by simp)) (λb o _ f _ e n=>u.slot b o e n f (by simp)) (λb o _ e n=>u.free b o e n (by simp)) (λb o _ e=>u.there b o e (by simp)) u.aa6 u.aaX u.abb (λt hm=>by let(q,g,h,a,j):=hm;rw[i]at a;ext a;show#[_,g,h,l,j]) Xr I.bare
def Inv.call{g':Array aaa}{t':Nat}{d':adx}{ch:G U}(I:Inv X Z Y H s)(u:Un (wx X.stack) ch H H' s.heap h')(Xr:Z9 X.prog X.w H' h')(t:AllBare g')
  (g:∀b∈ch,(b∈X.ex\/X.s₀.heap.objs.size<=b)/\b≠X.env.locals/\(∀x c,X.env.cells.lookup x=M c->c≠b)/\∀p∈X.pn++Z,p.1≠b):
  Inv X Z Y H' {s with heap:=h',gens:=g',drawn:=d',toks:=t'}:=by
 let(m,(o,es,C,l,r),_):=id I.loc;let(y,h):=u.any l I.free λz=>(g _ z).2.1 W;show I.step (ch:=ch) g (λb o h v a e n=>u.keep b o e n (λz=>(WE.mp (I.aan b z)).elim h v) a) (λb o _ _ a e n=>u.any e n a) (λb o a e n=>u.free b o e n a) (λb o a e=>u.there b o e a) u.aa6 u.aaX u.abb (λB hm=>by let(A,i,j,f,q):=hm;rw[l]at f;ext f;show#[_,i,j,h,q]) Xr t
def Inv.turned{t':Nat}{a:U}(I:Inv X Z Y H s)(k:∀b o,b≠a->s.heap.get? b=M o->h'.get? b=M o)(d:H a=R)(h:a≠X.env.locals)
  (w:a∈X.ex\/X.s₀.heap.objs.size<=a) (t:∀x c,X.env.cells.lookup x=M c->c≠a) (l:∀p∈X.pn++Z,p.1≠a):Inv X Z Y H {s with heap:=h',toks:=t'}:=by
 let g:∀b u,H b=M u->b≠a:=λb u e z=>by rw[z,d]at e;ext e
 show I.step (g':=s.gens) (d':=s.drawn) (ch:=[a]) (λb j=>?_) (λb o _ _ f e _=>k b o (λz=>f (by simp[z])) e) (λb o _ _ f e _=>#[o.slots,k b o (λz=>f (by simp[z])) e]) (λ_ _ _ _ n=>n)
  (λb o f e=>#[o,k b o (λz=>f (by simp[z])) e]) (λ_ _ e=>e) (λ_ _ _ e=>e) (λb A e=>#[#v[],by rw[e];simp]) (λm hm=>?_) (λb u e=>?_) I.bare
 .let e:b=a:=by simpa using j
  subst e;show#[w,h,t,l]
 .let(o,es,y,i,r):=hm;show#[o,es,y,k _ o (d0 h) i,r]
 .show(I.Xr b u e).Zw (λc v f q=>k c v ?_ q) (λ_ q=>q) λ_ _ q=>q
  rcases f with z|z
  .rw[z];show g b u e
  .show g c _ z
theorem Inv.tok(I:Inv X Z Y H s)(t:Nat):Inv X Z Y H {s with toks:=t}:=I.un Un.refl I.Xr
theorem Inv.kept{t':Nat}(I:Inv X Z Y H s)(k:∀b u,s.heap.get? b=M u->h'.get? b=M u):Inv X Z Y H {s with heap:=h',toks:=t'}:=I.un (Un.kept k) (I.Xr.kept k)
theorem Inv.laid{a:U}{o:HO}{t':Nat}(I:Inv X Z Y H s)(k:∀b u,s.heap.get? b=M u->h'.get? b=M u)(e:s.heap.objs.size<=a)(new:ObjOk X.prog X.w (a8 H a o) h' a o):
  Inv X Z Y (a8 H a o) {s with heap:=h',toks:=t'}:=I.un (Un.laid k e (I.Xr.fresh e)) (I.Xr.laid k e new)
theorem Inv.write{x e:U}{o:HO}{t':Nat}(I:Inv X Z Y H s)(f:R9 (H x))(g:e=x\/H e=M (.own x))(k:∀b u,b≠e->s.heap.get? b=M u->h'.get? b=M u)(a:∃u,h'.get? e=M u)
  (new:ObjOk X.prog X.w (a8 H x o) h' x o):Inv X Z Y (a8 H x o) {s with heap:=h',toks:=t'}:=I.un (Un.write f g k a) (I.Xr.write f g k a new)
theorem Inv.abO(I:Inv X Z Y H s)(h:∀p∈agV,s.heap.get? p.1=M p.2/\H p.1=R/\p.1≠X.env.locals/\p.1∉X.fs/\∀v,p.2.data≠.cell v):Inv X agV Y H s:=
 #[I.ok,I.os,I.bare,I.base,I.loc,I.cell,I.free,I.Y6,λp a=>(W7.mp a).elim (λz=>I.pin p (Y5 _ z)) (h p),I.Xr,I.len]
def xo{N:G Str}(e:N.Nodup){i j:Nat}(a:N[i]?=M x)(b:N[j]?=M x):i=j:=by let(g,e1):=V2.mp a;let(f,e2):=V2.mp b;show(List.getElem_inj e).mp (e1.trans e2.symm)
def ue{M:ady}{A:WK}{E:B->V7->Prop}{i:Nat}{x:Str}{v:V}{u:B}{Q:Unit->V7->Prop}(I:Inv X Z Y H s)(hN:X.N.Nodup)(D:X.N[i]?=cL x)(l:Ro X.env.scope x)(r:RelV v u)
  (h:∀F,Inv X Z (Y.set i (cL v)) H F->(∃a,Heap.SameBut a s.heap F.heap/\(a=X.env.locals\/X.env.cells.lookup x=cL a))->Q ⟨⟩ F) (hf:X.fn x=P\/X.env.scope.names.lookup x=cL .local:=by first|show .inl W|show .inr W|assumption):wpAny M A (storeName X.env x u) Q E s:=by
 let(m,hn,hl):=id I.loc;let akp:(X.env.scope.kind==.class||(X.env.scope.kind==.module&&X.env.locals !=X.env.globals))=V4:=by rw[I.ok.kind];rfl
 let w:i<Y.length:=by rw[I.len];show(V2.mp D).1
 let cne:=I.cne;let tracked:∀{a:U} {h':Heap},(∃o,s.heap.get? a=cL o/\H a=R)->Heap.SameBut a s.heap h'->Z9 X.prog X.w H h':=λ{a h'} ha f b ob e=>by
  let(_,_,N):=ha;show(I.Xr b ob e).Zw (λc O g q=>(f.2 c ?_).trans q) (λ_ q=>q) λ_ _ q=>q;rintro rfl;rcases g with rfl|g
  .rw[N]at e;ext e
  .rw[N]at g;ext g
 rcases l with t|t
 .show wpAny_storeName_local t hn (λh' hn' f=>?_) akp
  let(oL,_,_,hoL,_):=id hn;show h _ #[I.ok,I.os,I.bare,#[λb o e n J l=>?_,λb o e n J l=>?_,I.base.free,λb o e l=>?_,I.base.aa6,I.base.aaX,I.base.abb],#[_,hn',λj y T e1 e2 e3=>?_],λy c e=>?_,I.free,I.Y6,λp hp=>?_,tracked #[oL,hoL,I.free] f,by simpa using I.len] #[_,f,.inl W]
  .show(f.2 b (Wz (Wx (cj e) I.ok.above))).trans (I.base.keep b o e n J l)
  .let(sl,e1):=I.base.slot b o e n J l;show#[sl,(f.2 b (Wz (Wx (cj e) I.ok.above))).trans e1]
  .let(o',e1):=I.base.there b o e l;show#[o',(f.2 b (Wz (Wx (cj e) I.ok.above))).trans e1]
  .by_cases hj:j=i
   .subst hj;rw[D]at e1;ext e1;rw[Xb w]at e2;ext e2;show#[u,r,.inl #[t,by simp]]
   .rw[W6 (d0 hj)]at e2
    let(u',r',q):=hl j y T e1 e2 e3;show#[u',r',?_];rcases q with⟨k,e⟩|⟨k,c,e,z⟩
    .show .inl #[k,?_];let:y≠x:=λe=>hj (xo hN e1 (e▸D));simp[this,e]
    .show .inr #[k,c,e,z.sameBut f (cne y c e)]
  .let(O,z):=I.cell y c e;show#[O,z.sameBut f (cne y c e)]
  .let(e,n,ne,nf,d):=I.pin p hp;show#[(f.2 p.1 ne).trans e,n,ne,nf,d]
 .let C:X.fn x=P:=by
   rcases hf with z|z
   .show z
   .rw[z]at t;ext t
  let(c,g):=I.ok.has x (.inl t);let(O,z):=I.cell x c g;show wpAny_storeName_cell I.ok.kind t g z (λh' L f=>?_);let(oc,K,akj):=id z;show h {s with heap:=h'} #[I.ok,I.os,I.bare,#[λb o e n J l=>?_,λb o e n J l=>?_,I.base.free,λb o e l=>?_,I.base.aa6,I.base.aaX,I.base.abb],#[m,hn.sameBut f (d0 (cne x c g)),λj y T e1 e2 e3=>?_],λy S e=>?_,I.free,I.Y6,λp hp=>?_,tracked #[oc,K,I.Y6 x c g] f,by simpa using I.len] #[c,f,.inr g]
  .show(f.2 b (Wz (Wx (cj e) (I.ok.cab x c C g)))).trans (I.base.keep b o e n J l)
  .let(sl,e1):=I.base.slot b o e n J l;show#[sl,(f.2 b (Wz (Wx (cj e) (I.ok.cab x c C g)))).trans e1]
  .let(o',e1):=I.base.there b o e l;show#[o',(f.2 b (Wz (Wx (cj e) (I.ok.cab x c C g)))).trans e1]
  .by_cases hj:j=i
   .subst hj;rw[D]at e1;ext e1;rw[Xb w]at e2;ext e2;show#[u,r,.inr #[.inl t,c,g,L]]
   .rw[W6 (d0 hj)]at e2
    let(u',r',q):=hl j y T e1 e2 e3;show#[u',r',?_];rcases q with q|⟨k,S,e,z'⟩
    .show .inl q
    .show .inr #[k,S,e,z'.sameBut f ?_];rintro rfl;show hj (xo hN e1 (I.ok.inj _ _ _ e g▸D))
  .by_cases hcc:S=c
   .subst hcc;show#[_,L]
   .let(w2,z2):=I.cell y S e;show#[w2,z2.sameBut f hcc]
  .let(e,n,ne,nf,d):=I.pin p hp;show#[(f.2 p.1 ?_).trans e,n,ne,nf,d];intro q;rw[q,K]at e;let q':oc=p.2:=Wm e;show d O (by rw[<-q'];show akj)
theorem xF{i:Nat}{v:V}{u:B}{Q:Unit->V7->Prop}(I:Inv X Z Y H s)(e:X.N.Nodup)(d:X.N[i]?=cL x)(c:Ro X.env.scope x)(r:RelV v u)
  (h:∀b,Inv X Z (Y.set i (cL v)) H b->Q ⟨⟩ b) (hf:X.fn x=P\/X.env.scope.names.lookup x=cL .local:=by first|show .inl W|show .inr W|assumption):wpAny a A (storeName X.env x u) Q E s:=
 ue I e d c r (λb f _=>h b f) hf
def Inv.acr{a:V7}{ch:G U}(I:Inv X Z Y H s)(h:a.os=s.os)(u:Un (wx X.stack) ch H H' s.heap a.heap)(Xr:Z9 X.prog X.w H' a.heap)(i:AllBare a.gens)
  (f:∀b∈ch,(b∈X.ex\/X.s₀.heap.objs.size<=b)/\b≠X.env.locals/\(∀x c,X.env.cells.lookup x=M c->c≠b)/\∀p∈X.pn++Z,p.1≠b):Inv X Z Y H' a:=by
 let(h',l,m,j,g):=a;let e:g=s.os:=h;subst e;show I.call (g':=l) (t':=j) (d':=m) u Xr i f
end
abbrev XK:=B->z U->Hp->Prop
abbrev St:=G (z V)
abbrev VK:=V->Hp->Prop
abbrev TE:=St->Hp->VK->Prop
abbrev TT:=St->Hp->(Bool->Hp->Prop)->Prop
abbrev TA:=St->Hp->(G V->Hp->Prop)->Prop
structure Ends where
 nx:St->Hp->Prop
 rt:VK
 bk:St->Hp->Prop:=λ_ _=>False
 ct:St->Hp->Prop:=λ_ _=>False
abbrev TS:=Ends->St->Hp->Prop
def EP(X:Cx)(a:G (U×Obj))(b:St)(Q:VK)(u:B)(e:V7):Prop:=∃v f,Inv X a b f e/\RelV v u/\Q v f
def TP(X:Cx)(a:G (U×Obj))(e:St)(Q:Bool->Hp->Prop)(b:Bool)(f:V7):Prop:=∃g,Inv X a e g f/\Q b g
def AP(X:Cx)(a:G (U×Obj))(b:St)(Q:G V->Hp->Prop)(us:G B)(e:V7):Prop:=∃f g,Inv X a b g e/\Vals f us/\Q f g
def SP(X:Cx)(a:G (U×Obj))(D:Ends)(f:Flow)(b:V7):Prop:=
 match f with
 |.next=>∃e g,Inv X a e g b/\D.nx e g
 |.brk=>∃e g,Inv X a e g b/\D.bk e g
 |.cont=>∃e g,Inv X a e g b/\D.ct e g
 |.ret u=>∃v e g,Inv X a e g b/\RelV v u/\D.rt v g
def PE(X:Cx)(e:Ww)(t:TE):Prop:=
 ∀(a:G (U×Obj)) (s:V7) (b:St) (H:Hp) (Q:VK),Inv X a b H s->t b H Q->wpAny (model X.prog X.w) X.A (eval e X.env) (EP X a b Q) X.xe s
def PT(X:Cx)(e:Ww)(t:TT):Prop:=
 ∀(a:G (U×Obj)) (s:V7) (b:St) (H:Hp) (Q:Bool->Hp->Prop),Inv X a b H s->t b H Q->wpAny (model X.prog X.w) X.A (isTrue e X.env (eval e X.env)) (TP X a b Q) X.xe s
def PW(X:Cx)(e:Ww)(t:TT):Prop:=
 ∀(b:Sem B) (a:G (U×Obj)) (s:V7) (f:St) (H:Hp) (Q:Bool->Hp->Prop),Inv X a f H s->t f H Q->wpAny (model X.prog X.w) X.A (isTrue e X.env b) (TP X a f Q) X.xe s
theorem PW.pt(h:PW X e t):PT X e t:=h _
def PA(X:Cx)(es:G Ww)(t:TA):Prop:=
 ∀(e:Pos) (a:G (U×Obj)) (s:V7) (b:St) (H:Hp) (Q:G V->Hp->Prop),Inv X a b H s->t b H Q->wpAny (model X.prog X.w) X.A (spliced (backTo e (Wn es X.env))) (AP X a b Q) X.xe s
def PS(X:Cx)(e:XY)(t:TS):Prop:=
 ∀(a:G (U×Obj)) (s:V7) (b:St) (H:Hp) (D:Ends),Inv X a b H s->t D b H->wpAny (model X.prog X.w) X.A (exec e X.env) (SP X a D) X.xe s
def PSs(X:Cx)(e:G XY)(t:TS):Prop:=
 ∀(a:G (U×Obj)) (s:V7) (b:St) (H:Hp) (D:Ends),Inv X a b H s->t D b H->wpAny (model X.prog X.w) X.A (execs e X.env) (SP X a D) X.xe s
theorem bT{α:Type}{t:Sem α}{Q b:α->V7->Prop}{M:ady}{A:WK}{E:B->V7->Prop}{s:V7}(h:wpAny M A t Q E s)(e:∀a s,Q a s->b a s):wpAny M A t b E s:=wpAny_mono h e λ_ _ x=>x
section
variable{X:Cx}
def pQ(i:Nat):TE:=λa H Q=>∃v,a[i]?=M (M v)/\Q v H
def tC(v:V):TE:=λ_ H Q=>Q v H
def D1(t:X.N[i]?=M x)(p:TK X.env.scope x)(hd:(x==("__debug__":Str))=V4:=by decide)(j:(x==("__classdict__":Str))=V4:=by decide):PE X (.Name x pos) (pQ i):=by
 intro f s o H Q I h;let(v,e,h):=h;let(m,w,q):=I.loc;let(u,r,l):=q i x v t e p;let b:EP X f o Q u s:=#[v,H,I,r,h];rcases l with⟨a,hm⟩|⟨a,c,n,g⟩
 .show afk (wpAny_loadName_local I.ok.kind a w hm b) hd
 .rcases a with a|a
  .show afk (wpAny_loadName_cell I.ok.kind a n g b) hd
  .show afk (wpAny_loadName_free I.ok.kind a n g b j) hd
theorem Fs{i j pos}:PE X (.Constant (.int i) j pos) (tC (.int i)):=λ_ _ _ H _ I h=>afl #[.int i,H,I.tok _,#[_,W],h]
theorem RU{b j pos}:PE X (.Constant (.bool b) j pos) (tC (.bl b)):=λ_ _ _ H _ I h=>Constant_bool #[.bl b,H,I,W,h]
theorem y0{j pos}:PE X (.Constant .none j pos) (tC .Yf):=λ_ _ _ H _ I h=>Constant_none #[.Yf,H,I,W,h]
theorem OO{x j pos}:PE X (.Constant (.str x) j pos) (tC (.str x)):=λ_ _ _ H _ I h=>Calls.Constant_str #[.str x,H,I.tok _,#[_,W],h]
def Gl(X:Cx)(x:Str):Prop:=X.env.kindOf x=M .globalImplicit
theorem kO(I:Inv X pins σ H s)(a:Gl X x)(hm:X.mg x=M u)(h:Q u s)
  (hd:(x==("__debug__":Str))=V4:=by decide):wpAny (model X.prog X.w) X.A (eval (.Name x pos) X.env) Q E s:=
 Calls.Name_function_global I.ok.kind a (Calls.loadGlobal_global (by rw[I.ok.glob];show I.mod.glob.keeps I.bk) hm h) hd
def oP(I:Inv X pins σ H s)(b:Gl X x)(hm:X.mg x=R)(a:Xa x=M u)(h:Q u s)
  (c:x≠ "__name__":=by decide) (hd:(x==("__debug__":Str))=V4:=by decide):wpAny (model X.prog X.w) X.A (eval (.Name x pos) X.env) Q E s:=by
 let(g,f,e):=I.mod.blt;show Calls.Name_function_global I.ok.kind b (Calls.loadGlobal_builtin (by rw[I.ok.glob];show I.mod.glob.keeps I.bk) hm (by rw[I.ok.blt];show f.keeps I.bk) ((e x c).trans a) h) hd
theorem JQ{x:Str}{v:V}{u:B}{a:Pos}(b:Gl X x)(hm:X.mg x=M u)(r:RelV v u)(hd:(x==("__debug__":Str))=V4:=by decide):PE X (.Name x a) (tC v):=
 λ_ _ _ H _ I h=>kO I b hm #[v,H,I,r,h] hd
theorem KY(b:Gl X x)(hm:X.mg x=R)(a:Xa x=M u)(r:RelV v u)(c:x≠ "__name__":=by decide)(hd:(x==("__debug__":Str))=V4:=by decide):PE X (.Name x pos) (tC v):=
 λ_ _ _ H _ I h=>oP I b hm a #[v,H,I,r,h] c hd
variable{a b:Ww}{Y Z:TE}{O:Pos}
def PC(X:Cx)(op:abW)(a b:Ww)(t:TE):Prop:=
 ∀(e:G (U×Obj)) (s:V7) (h:St) (H:Hp) (Q:VK),Inv X e h H s->t h H Q->
  wpAny (model X.prog X.w) X.A (eval a X.env) (λv g=>wpAny (model X.prog X.w) X.A (eval b X.env) (λu f=>wpAny (model X.prog X.w) X.A (Xs op v u) (EP X e h Q) X.xe f) X.xe g) X.xe s
def tB(t:TE):TT:=λe H Q=>t e H λx f=>∃c,x=.bl c/\Q c f
theorem zp(h:PC X op a b t)(i:behindInMarks op b=V4:=by first|show o _ () ()|rfl):PE X (.Compare a [op] [b] O) t:=λe s f H Q I g=>aiP (h e s f H Q I g) i
def yX(h:PC X op a b t)(f:behindInMarks op b=V4:=by first|show C _ () ()|rfl):PT X (.Compare a [op] [b] O) (tB t):=by intro e s g H Q I l;show aeg (bT (h e s g H _ I l) λv w f=>bT f λu r m=>bT m λc p a=>?_) f;let(x,o,n,i,j):=a;let(d,rfl,q):=j;ext i;show Xy #[o,n,q]
def OV{e:Ww}{t:TE}(h:PE X e t)(m:∀whole,isTrue e X.env whole=(do let v<-whole;standAt e.pos;holding [v] (truthy v)):=by intro _;rfl):PT X e (tB t):=by intro f s g H Q I l;show isTrue_plain (bT (h f s g H _ I l) λv p #[x,o,n,i,j]=>?_) (m _);let(d,rfl,q):=j;ext i;show Xy #[o,n,q]
variable{T S:TT}{U:bg Ww}
def Qe(t u:TT):TT:=λe H Q=>t e H λc f=>if c=P then u e f Q else Q I f
def Uo(t u:TT):TT:=λe H Q=>t e H λc f=>if c=P then Q P f else u e f Q
def IT(t:TT):TT:=λe H Q=>t e H λc f=>Q (!c) f
def Bu(d:PT X a T):PW X (.BoolOp .And [a] O) T:=by
 intro i f s g H Q I h;show isTrue_and (bT (d f s g H Q I h) λc j e=>?_);cases c with
 |true=>show isTrue_and_nil e
 |false=>show e
def F9(d:PT X a T):PW X (.BoolOp .Or [a] O) T:=by
 intro i f s g H Q I h;show isTrue_or (bT (d f s g H Q I h) λc j e=>?_);cases c with
 |false=>show isTrue_or_nil e
 |true=>show e
def Hj(d:PT X a T)(n:PW X (.BoolOp .And (b::U) O) S):PW X (.BoolOp .And (a::b::U) O) (Qe T S):=by
 intro l e s f H Q I h;show isTrue_and (bT (d e s f H _ I h) λc m a=>?_);let(j,i,g):=a;cases c with
 |true=>show n l e m f j Q i g
 |false=>show#[j,i,g]
def NP(d:PT X a T)(n:PW X (.BoolOp .Or (b::U) O) S):PW X (.BoolOp .Or (a::b::U) O) (Uo T S):=by
 intro l e s f H Q I h;show isTrue_or (bT (d e s f H _ I h) λc m a=>?_);let(j,i,g):=a;cases c with
 |true=>show#[j,i,g]
 |false=>show n l e m f j Q i g
def Qr(d:PT X a T):PT X (.UnaryOp .Not a O) (IT T):=by intro e s f H Q I h;show isTrue_not (d e s f H (λc g=>Q (!c) g) I h)
def Gj(Y Z:TE):TE:=λe H Q=>Y e H λx f=>∃c,x=.bl c/\if c=P then Z e f Q else Q (.bl I) f
theorem Ii{op}(h:PE X a t):PE X (.BoolOp op [a] O) t:=λe s f H Q I g=>BoolOp_one (h e s f H Q I g)
def zV(d:PE X a Y)(n:PE X (.BoolOp .And (b::U) O) Z):PE X (.BoolOp .And (a::b::U) O) (Gj Y Z):=by
 intro e s g H Q I h;show BoolOp_and (bT (d e s g H _ I h) λv l a=>?_);let(x,j,i,m,f):=a;let(c,rfl,f):=f;ext m;show Xy ?_;cases c with
 |true=>show n e l g j Q i f
 |false=>show#[.bl V4,j,i,W,f]
def TZ(t:TT)(Y Z:TE):TE:=λe H Q=>t e H λc f=>if c=P then Y e f Q else Z e f Q
def G3(m:PT X c T)(k:PE X a Y)(n:PE X b Z):PE X (.IfExp c a b O) (TZ T Y Z):=by
 intro e s f H Q I h;show wpAny_IfExp (bT (m e s f H _ I h) λd g a=>?_);let(l,j,i):=a;cases d with
 |true=>show k e g f l Q j i
 |false=>show n e g f l Q j i
end
def ZV(K:lD)(H:Hp)(a:U)(xs:G V):Prop:=
 Rd H a (.lst xs)\/
  ∃(o:Obj) (b:Array B) (n:Nat),K.lookup a=M o/\o.cls=.type "list"/\o.dict=R/\o.data=.seq b n/\b.size<=We/\Vals xs b.toList
def ZI(K:lD)(H:Hp)(a:U)(xs:G V):Prop:=
 Rd H a (.tup xs)\/
  ∃(o:Obj) (b:Array B) (n:Nat),K.lookup a=M o/\(o.cls=.type "tuple"/\o.dict=R)/\o.data=.seq b n/\b.size<=We/\Vals xs b.toList
def UA:B->z V
 |.none=>M .Yf
 |.bool b=>M (.bl b)
 |.int i _=>M (.int i)
 |.str x _=>M (.str x)
 |.bytes b _=>M (.byt b)
 |.float b _=>M (.flt b)
 |.ref a=>M (.ref a)
 |.type n=>M (.ty n)
 |_=>R
def RelV.abs(r:RelV x u):UA u=M x:=by
 cases x with
 |Yf=>ext r;rfl
 |bl _=>ext r;rfl
 |int _=>let(t,rfl):=r;rfl
 |str _=>let(t,rfl):=r;rfl
 |byt _=>let(t,rfl):=r;rfl
 |flt _=>let(t,rfl):=r;rfl
 |ref _=>ext r;rfl
 |ty _=>ext r;rfl
theorem RelV.inj(r:RelV x u)(q:RelV y u):x=y:=Wm (r.abs.symm.trans q.abs)
theorem Vals.inj:∀{xs a:G V} {us:G B},Vals xs us->Vals a us->xs=a
 |_,_,_,.nil,.nil=>rfl
 |_,_,_,.cons r t,.cons e b=>by rw[r.inj e,Vals.inj t b]
section
variable{X:Cx}{Z:bg (V5×Obj)}{Y:St}{H:Hp}{s:V7}{a:V5}{T U:bg V}
theorem ZV.of{K:lD}(h:H a=M (.lst T)):ZV K H a T:=.inl (.inl h)
theorem ZI.of{K:lD}(h:H a=M (.tup T)):ZI K H a T:=.inl (.inl h)
def Inv.list(I:Inv X Z Y H s)(h:ZV X.K H a T):∃b:G B,Vals T b/\PlainL s.heap a b.toArray/\T.length<=We:=by
 rcases h with h|⟨o,b,n,g,i,hd,f,j,r⟩
 .let(z,b,n,r,e):=h.ok I.Xr;show#[b,r,#[_,n,e,W,W,W],z]
 .show#[b.toList,r,#[o,n,I.kIn a o g,i,hd,by simpa using f],?_];let e:=r.length;simp only[Xi]at e;ext
def Inv.tuple(I:Inv X Z Y H s)(h:ZI X.K H a T):∃b:G B,Vals T b/\IsTup s.heap a b.toArray/\T.length<=We:=by
 rcases h with h|⟨o,b,n,g,i,f,j,r⟩
 .let(z,b,r,p):=h.ok I.Xr;show#[b,r,p.tup,z]
 .show#[b.toList,r,#[o,I.kIn a o g,i.1,n,by simpa using f],?_];let e:=r.length;simp only[Xi]at e;ext
def Inv.afB(I:Inv X Z Y H s)(h:ZI X.K H a T):∃b:G B,Vals T b/\aa8 s.heap a b.toArray/\T.length<=We:=by
 rcases h with h|⟨o,b,n,i,f,g,j,r⟩
 .let(z,b,r,p):=h.ok I.Xr;show#[b,r,p,z]
 .show#[b.toList,r,#[o,I.kIn a o i,#[f.1,n,by simpa using g],f.2],?_];let e:=r.length;simp only[Xi]at e;ext
def Inv.ad4(I:Inv X Z Y H s)(h:ZV X.K H a T)(c:ZV X.K H a U):T=U:=by
 let(j,r,(o,n,e,_,_,d),_):=I.list h;let(b,i,(l,m,f,_,_,g),_):=I.list c;rw[e]at f;ext f;rw[d]at g;injection g with d1 _;let:j=b:=by simpa using eg afm d1
 subst this;show r.inj i
def Inv.adp(I:Inv X Z Y H s)(h:ZI X.K H a T)(c:ZI X.K H a U):T=U:=by
 let(j,r,(o,e,_,n,d),_):=I.tuple h;let(b,i,(l,f,_,m,g),_):=I.tuple c;rw[e]at f;ext f;rw[d]at g;injection g with d1 _;let:j=b:=by simpa using eg afm d1
 subst this;show r.inj i
end
abbrev Cx.ZH(X:Cx)(E:B->V7->Prop):Cx:={X with xe:=E}
abbrev Cx.nox(X:Cx):Cx:=X.ZH λ_ _=>False
theorem Cx.Ok.ZH{X:Cx}(ok:X.Ok)(E:B->V7->Prop):(X.ZH E).Ok:=
 #[ok.mod,ok.kind,ok.glob,ok.blt,ok.above,ok.inj,ok.has,ok.cab,ok.hd,ok.frames,ok.stk,ok.exf,ok.bs,ok.bsz,ok.ach,ok.acd,ok.aam,ok.frf]
theorem Cx.Ok.Y4{X:Cx}(ok:(X.ZH E).Ok):X.Ok:=
 #[ok.mod,ok.kind,ok.glob,ok.blt,ok.above,ok.inj,ok.has,ok.cab,ok.hd,ok.frames,ok.stk,ok.exf,ok.bs,ok.bsz,ok.ach,ok.acd,ok.aam,ok.frf]
section
variable{X:Cx}{Z:bg (V5×Obj)}{Y:St}{H:Hp}{s:V7}{E:Ld->V7->Prop}
theorem Inv.ZH(I:Inv X Z Y H s)(E:B->V7->Prop):Inv (X.ZH E) Z Y H s:=#[I.ok.ZH E,I.os,I.bare,I.base,I.loc,I.cell,I.free,I.Y6,I.pin,I.Xr,I.len]
theorem Inv.Y4(I:Inv (X.ZH E) Z Y H s):Inv X Z Y H s:=#[I.ok.Y4,I.os,I.bare,I.base,I.loc,I.cell,I.free,I.Y6,I.pin,I.Xr,I.len]
def SP.Y4(h:SP (X.ZH E) Z D f s'):SP X Z D f s':=by
 cases f with
 |next=>let(a,b,I,q):=h;show#[a,b,I.Y4,q]
 |brk=>let(a,b,I,q):=h;show#[a,b,I.Y4,q]
 |cont=>let(a,b,I,q):=h;show#[a,b,I.Y4,q]
 |ret u=>let(v,a,b,I,r,q):=h;show#[v,a,b,I.Y4,r,q]
theorem PSs.nox{a:G XY}(h:PSs X.nox a t):PSs X a t:=λZ s Y H D I b=>
 wpAny_mono (h Z s Y H D (I.ZH _) b) (λ_ _ q=>q.Y4) λ_ _ z=>False.elim z
end
section
variable{X:Cx}{Y:XY}{Z:bg XY}{t u:TS}{e:Ww}{S:TE}{T:Pos}
def FY:TS:=λD a H=>D.nx a H
def F7(t u:TS):TS:=λD a H=>t {D with nx:=u D} a H
theorem Bw:PSs X [] FY:=λ_ _ a H _ I h=>Zj #[a,H,I,h]
def nF(l:PS X Y t)(j:PSs X Z u):PSs X (Y::Z) (F7 t u):=by
 intro a s g H D I h;show agB (bT (l a s g H {D with nx:=u D} I h) λf i q=>?_);cases f with
 |next=>let(b,n,m,q):=q;show j a i b n D m q
 |ret v=>show q
 |brk=>show q
 |cont=>show q
def mQ(g:PS X Y t):PSs X [Y] t:=by
 intro a s b H D I h;show agB (bT (g a s b H D I h) λf i q=>?_);cases f with
 |next=>show Zj q
 |ret v=>show q
 |brk=>show q
 |cont=>show q
def Inv.quiet{a:G (U×Obj)}{b:St}{H:Hp}{s:V7}(I:Inv X a b H s):interactive X.env=V4:=by simp[interactive,I.ok.kind]
def xx(S:TE):TS:=λD a H=>S a H λ_ b=>D.nx a b
def AQ(i:PE X e S)(g:Yu e R T.line X.env=pure V4:=by rfl):PS X (.Expr e T) (xx S):=by intro a s b H D I h;show wpAny_Expr_any (bT (i a s b H _ I h) λv m #[x,l,j,n,f]=>#[b,l,j,f]) I.quiet g
def ML(S:TE):TS:=λD a H=>S a H D.rt
def Gb(i:PE X e S):PS X (.Return (M e) T) (ML S):=by intro a s b H D I h;show wpAny_Return_some (bT (i a s b H _ I h) λv m #[x,l,j,f,g]=>#[x,b,l,j,f,g])
def Nh:TS:=λD _ H=>D.rt .Yf H
theorem Jv:PS X (.Return R T) Nh:=λ_ _ a H _ I h=>wpAny_Return_none #[.Yf,a,H,I,W,h]
def IV(c:TT)(t u:TS):TS:=λD a H=>c a H λb f=>if b=P then t D a f else u D a f
def RZ(n:PT X c C)(k:PSs X a t)(o:PSs X b u):PS X (.If c a b T) (IV C t u):=by
 intro f s g H D I h;show wpAny_If (bT (n f s g H _ I h) λd i a=>?_);let(m,l,j):=a;cases d with
 |true=>show k f i g m D l j
 |false=>show o f i g m D l j
end
abbrev TG:=V->St->Hp->(St->Hp->Prop)->Prop
abbrev zx:=G V->St->Hp->(St->Hp->Prop)->Prop
def PG(X:Cx)(a:Ww)(t:TG):Prop:=
 ∀(b:G (U×Obj)) (s:V7) (e:St) (H:Hp) (v:V) (u:B) (Q:St->Hp->Prop),Inv X b e H s->RelV v u->t v e H Q->
  wpAny (model X.prog X.w) X.A (assign a X.env u) (λ_ f=>∃g h,Inv X b g h f/\Q g h) X.xe s
def SJ(X:Cx)(f:G Ww)(t:zx):Prop:=
 ∀(a:G (U×Obj)) (s:V7) (b:St) (H:Hp) (i:G V) (e:G B) (Q:St->Hp->Prop),Inv X a b H s->Vals i e->t i b H Q->
  wpAny (model X.prog X.w) X.A (assignInOrder ((assignEach f X.env).map (·.2)) e) (λ_ g=>∃h j,Inv X a h j g/\Q h j) X.xe s
abbrev Vv:=V->V->Hp->VK->Prop
def Ve(X:Cx)(op:aet)(t:Vv):Prop:=
 ∀(a:G (U×Obj)) (s:V7) (b:St) (H:Hp) (x y:V) (v u:B) (Q:VK),Inv X a b H s->RelV x v->RelV y u->t x y H Q->
  wpAny (model X.prog X.w) X.A (inplaceOp op v u) (EP X a b Q) X.xe s
section
variable{X:Cx}{Z:Pos}
def mI(i:Nat):TG:=λv a H Q=>Q (a.set i (M v)) H
def L8(c:X.N.Nodup)(b:X.N[i]?=M x)(a:Ro X.env.scope x)(hf:X.fn x=P\/X.env.scope.names.lookup x=M .local:=by first|show .inl W|show .inr W|assumption):PG X (.Name x Z) (mI i):=by intro pins s σ H v u Q I r h;show af5 (xF I c b a r (λf e=>#[_,H,e,h]) hf)
def KR:zx:=λb a H Q=>b=[]/\Q a H
def A7(t:TG)(u:zx):zx:=λf b H Q=>∃v r,f=v::r/\t v b H λa e=>u r a e Q
def Jr:SJ X [] KR:=by intro a s b H g f Q I r h;let(e,h):=h;subst e;ext r;show assignInOrder_nil #[b,H,I,h]
def HQ(n:PG X e t)(m:SJ X es u)
  (l:(assignEach (e::es) X.env).map (·.2)=assign e X.env::(assignEach es X.env).map (·.2):=by rfl):SJ X (e::es) (A7 t u):=by
 intro a s f H y w Q I r h;let(v,q,e1,h):=h;subst e1;cases r with
 |cons r i=>rw[l];show assignInOrder_cons (bT (n a s f H _ _ _ I r h) λ_ g a=>?_);let(b,p,o,j):=a;show m a g b p _ _ Q o i j
def Ln(K:lD)(n:Nat)(t:zx):TG:=λv b H Q=>∃a xs,v=.ref a/\ZI K H a xs/\xs.length=n/\t xs b H Q
def Pa(q:X.calm=P)(h:SJ X es t)
  (c:(assignEach es X.env).length=n:=by rfl) (cV:(assignEach es X.env).findIdx? (·.1)=R:=by rfl):PG X (.Tuple es k Z) (Ln X.K n t):=by
 intro f s i H v u Q I r g;let(a,xs,e1,m,p,g):=g;subst e1;ext r;let(A,C,l,y):=I.tuple m;show assign_Tuple_tuple (I.ok.hd q) l (by simp[c,<-p,C.length]) cV λz j=>?_;let w:=I.kept (t':=s.toks) λb o e=>j b o (Wz (cj e)) e;show h f _ i H xs _ Q w (by simpa using C) g
def zX(c:TE)(g:TG):TS:=λD a H=>c a H λx b=>g x a b D.nx
def qA{i:Nat}{x:Str}{e:Ww}{a:TE}{pos':Pos}(j:X.N.Nodup)(g:X.N[i]?=M x)(c:Ro X.env.scope x)(he:PE X e a)(d:Yu e (M (.Name x pos')) Z.line X.env=pure V4:=by rfl)(hf:X.fn x=P\/X.env.scope.names.lookup x=M .local:=by first|show .inl W|show .inr W|assumption):
  PS X (.Assign [.Name x pos'] e Z) (zX a (mI i)):=by
 intro pins s σ H D I h;show wpAny_Assign_Name (bT (he pins s σ H _ I h) λv s1 a=>?_) d;let(y,H1,m,b,f):=a;show xF m j g c b (λs2 l=>#[_,H1,l,f]) hf
end
section
variable{X:Cx}{Z:Pos}
def Il(c:TT)(d:TS):TS:=λD a H=>∃W:Nat->St->Hp->Prop,(∃m,W m a H)/\∀m a H,W m a H->
 c a H λb e=>if b=P then∃N:St->Hp->Prop,(∀f h,N f h->∃g,g<m/\W g f h)/\d {D with nx:=N,ct:=N,bk:=D.nx} a e else D.nx a e
def DK(r:abC (model X.prog X.w) X.A X.env X.xe)(L:PT X c tc)(M:PSs X body tb):PS X (.While c body [] Z) (Il tc tb):=by
 intro e s B H D I h;let(W,(K,E),turn):=h;show wpAny_While (codeAny_whileLoop (λn J=>∃w A,Inv X e w A J/\W n w A) ?_ K #[B,H,I,E]);rintro n G ⟨g,z,O,C⟩;show Yt r (bT (L e G g z _ O (turn n g z C)) λb F a=>?_);let(y,u,l):=a;cases b with
 |true=>
  let(N,t,l):=l;rw[ax rfl];show Yt r (bT (M e F g y _ u l) λf P j=>?_);cases f with
  |next=>let(a,i,q,o):=j;let(p,hm,m):=t a i o;show#[p,hm,a,i,q,m]
  |cont=>let(a,i,q,o):=j;let(p,hm,m):=t a i o;show#[p,hm,a,i,q,m]
  |brk=>show j
  |ret v=>show j
 |false=>rw[aE Wv];show Zj #[g,y,u,l]
end
structure It where
 go:Nat->Hp->Prop
 yld:Nat->Hp->V->Hp->Prop
 stop:Nat->Hp->Prop
def ox(X:Cx)(a:G (U×Obj))(H:Hp)(b:U):Prop:=
 H b=R/\b≠X.env.locals/\b∉X.fs/\(b∈X.ex\/X.s₀.heap.objs.size<=b)/\(∀x c,X.env.cells.lookup x=M c->c≠b)/\∀p∈X.pn++a,p.1≠b
def Inv.abJ(I:Inv X pins σ H s)(a:s.heap.objs.size<=b)(d:H' b=R):ox X pins H' b:=by
 show#[d,Xn (Wx I.lt a),I.ajQ a,.inr (WU I.sz a),λx c e z=>?_,λp f z=>?_]
 .let(v,q):=I.cell x c e;show a7 (Wx q.lt (by rw[z];show a)) (Xk _)
 .show a7 (Wx (cj (I.pin p f).1) (by rw[z];show a)) (Xk _)
structure Turn(P:Ws)(w:WO)(K:lD)(tg:Ww)(J:It)(fp:G U)(it:U)(tn:Nat->Heap->Prop):Prop where
 mem:it∈fp
 obj:∀i h,tn i h->∀b∈fp,∃o,h.get? b=M o/\∀v,o.data≠.cell v
 keep:∀i h h',tn i h->(∀b∈fp,∀o,h.get? b=M o->h'.get? b=M o)->tn i h'
 item:∀(X:Cx),X.prog=P->X.w=w->X.K=K->X.calm=V0->∀(i:Nat) (pins:G (U×Obj)) (s:V7) (σ:St) (H:Hp) (E:B->V7->Prop),Inv X pins σ H s->(∀b∈fp,ox X pins H b)->tn i s.heap->J.go i H->
  wpAny (model P w) X.A (pyNext (.ref it)) (λr s1=>∃u,r=M u/\
   wpAny (model P w) X.A (letOwnedTupleGo tg (.ref it) u) (λ_ s2=>∃x H',Inv X pins σ H' s2/\RelV x u/\J.yld i H x H'/\tn (i+1) s2.heap/\∀b∈fp,H' b=R) E s1) E s
 done:∀(X:Cx),X.prog=P->X.w=w->X.K=K->X.calm=V0->∀(i:Nat) (pins:G (U×Obj)) (s:V7) (σ:St) (H:Hp) (E:B->V7->Prop),Inv X pins σ H s->(∀b∈fp,ox X pins H b)->tn i s.heap->J.stop i H->
  wpAny (model P w) X.A (pyNext (.ref it)) (λr s1=>r=R/\Inv X pins σ H s1) E s
 self:∀(A:WK) (i:Nat) (s:V7) (Q:B->V7->Prop) (E:B->V7->Prop),tn i s.heap->Q (.ref it) s->wpAny (model P w) A (pyIter (.ref it)) Q E s
abbrev TI:=St->Hp->(It->Hp->Prop)->Prop
def UJ(X:Cx)(a:G (U×Obj))(l:St)(m:Ww)(R:It->Hp->Prop)(e:B)(h:V7):Prop:=
 ∃(i:U) (j:G U) (g:Nat->Heap->Prop) (J:It) (f:Hp),e=.ref i/\Inv X a l f h/\Turn X.prog X.w X.K m J j i g/\g 0 h.heap/\(∀b∈j,ox X a f b)/\R J f
def PI(X:Cx)(g b:Ww)(f:TI):Prop:=
 ∀(a:G (U×Obj)) (s:V7) (e:St) (H:Hp) (R:It->Hp->Prop),Inv X a e H s->f e H R->
  wpAny (model X.prog X.w) X.A (eval b X.env) (λv h=>wpAny (model X.prog X.w) X.A (pyIter v) (UJ X a e g R) X.xe h) X.xe s
def D7{M:ady}{A:WK}{E:B->V7->Prop}{s:V7}{b:Ww}{e:U}{u:B}{o:Obj}{n:String}{c:Array B}{Q:Unit->V7->Prop}(f:s.heap.get? e=cL o)(g:o.cls=.type n)(hd:o.data=.fields c)
  (d:["enumerate","zip","dict_itemiterator","dict_reverseitemiterator","odict_iterator","itertools.zip_longest","itertools.pairwise"].contains n=I) (a:Q ⟨⟩ s):wpAny M A (letOwnedTupleGo b (.ref e) u) Q E s:=by
 ext letOwnedTupleGo;ext b<;>first
  |show Wb a
  |(ext u<;>first
    |show Wb a
    |(show CL (afn f ?_)
      rw[g,hd];show wpAny M A (if(["enumerate","zip","dict_itemiterator","dict_reverseitemiterator","odict_iterator","itertools.zip_longest","itertools.pairwise"].contains n&&c[0]? ==cL (rawInt _))=P then _ else _) Q E s;rw[aE (by intro h;rw[d,aac]at h;ext h)];show Wb a))
def Uf(K:lD)(a:U):It:=
 #[λi H=>∃xs x,ZV K H a xs/\xs[i]?=M x,λi H x b=>b=H/\∀xs,ZV K H a xs->xs[i]?=M x,λi H=>∃xs,ZV K H a xs/\xs.length<=i]
def Ua(K:lD)(a:U):It:=
 #[λi H=>∃xs x,ZI K H a xs/\xs[i]?=M x,λi H x b=>b=H/\∀xs,ZI K H a xs->xs[i]?=M x,λi H=>∃xs,ZI K H a xs/\xs.length<=i]
def TQ(lo:Int)(n:Nat):It:=#[λi _=>i<n,λi H x a=>a=H/\x=.int (lo+i),λi _=>n<=i]
theorem C7{K:lD}(a g:V5):Turn Pz0 w K tg (Uf K a) [g] g (λi h=>h.IsListIter g a i) where
 mem:=by simp
 obj:=λi h f b j=>by
  let e:b=g:=by simpa using j
  subst e;let(o,e,c,d):=f;show#[o,e,λv z=>by rw[d]at z;ext z]
 keep:=λi h N f k=>f.at λo e=>k g (by simp) o e
 item:=by intro X A t B M i m s O H E I q f y;subst A t B;let(xs,x,n,r):=y;let(W3,rv,p,S):=I.list n;let(u,U,R):=rv.get r;let(L,J,Y,G,F,C):=q g (by simp);show wpAny_pyNext_list_item f p.isList (by simpa using U) λN l Q=>?_;let I1:=I.turned (t':=s.toks) (λb o j e=>(Q.2 b j).trans e) L J G F C;let(o,e,c,d):=id l;show#[u,W,D7 e c d () #[x,H,I1,R,#[W,λys T=>by rw[I.ad4 T n];show r],l,λb j=>(q b j).1]]
 done:=by intro X A t B M i m s O H E I q f y;subst A t B;let(xs,n,r):=y;let(W3,rv,p,S):=I.list n;let(L,J,Y,G,F,C):=q g (by simp);let hl:=rv.length;show wpAny_pyNext_list_end (I.ok.hd M) f p.isList (by simp;ext) λN Z=>#[W,I.turned (λb o j e=>Z b o j e) L J G F C]
 self:=λ_ _ _ _ _ f h=>wpAny_pyIter_listiter f h
theorem zl{K:lD}(a g:V5):Turn Pz0 w K tg (Ua K a) [g] g (λi h=>h.IsTupleIter g a i) where
 mem:=by simp
 obj:=λi h f b j=>by
  let e:b=g:=by simpa using j
  subst e;let(o,e,c,d):=f;show#[o,e,λv z=>by rw[d]at z;ext z]
 keep:=λi h O f k=>f.at λo e=>k g (by simp) o e
 item:=by intro X A t B N i m s Q H E I q f y;subst A t B;let(xs,x,n,r):=y;let(M,rv,p,T):=I.tuple n;let(u,Y,S):=rv.get r;let(L,J,Z,G,F,C):=q g (by simp);show wpAny_pyNext_tuple_item f (show s.heap.IsTuple a M.toArray from p) (by simpa using Y) λO l R=>?_;let I1:=I.turned (t':=s.toks) (λb o j e=>(R.2 b j).trans e) L J G F C;let(o,e,c,d):=id l;show#[u,W,D7 e c d () #[x,H,I1,S,#[W,λys U=>by rw[I.adp U n];show r],l,λb j=>(q b j).1]]
 done:=by intro X A t B N i m s Q H E I q f y;subst A t B;let(xs,n,r):=y;let(M,rv,p,T):=I.tuple n;let(L,J,Z,G,F,C):=q g (by simp);let hl:=rv.length;show wpAny_pyNext_tuple_end (I.ok.hd N) f (show s.heap.IsTuple a M.toArray from p) (by simp;ext) λO eb=>#[W,I.turned (λb o j e=>eb b o j e) L J G F C]
 self:=λ_ _ _ _ _ f h=>wpAny_pyIter_tupleiter f h
theorem zU{K:lD}(g:U)(lo:Int)(n:Nat):Turn Y w K tg (TQ lo n) [g] g (λi h=>IsRangeIter h g (lo+(i:Nat)*1) ((n:Int) - (i:Nat)) 1) where
 mem:=by simp
 obj:=λi h a b j=>by
  let e:b=g:=by simpa using j
  subst e;show#[_,a,λv z=>by let M:=z;ext M]
 keep:=λi h A a k=>k g (by simp) _ a
 item:=by intro X u p y r i f s L H E I m a q;subst u p y;let(J,G,R,F,C,B):=m g (by simp);let W:=Walks.range (prog:=X.prog) (w:=X.w) (I.ok.hd r) g lo 1 n;show W.item i s _ _ q a λv A N Q l O=>?_;let(t,rfl):=Q;let T:Inv X f L H {s with heap:=A,toks:=N}:=I.turned (λb o j e=>O b o (by simpa using j) e) J G F C B;show#[_,rfl,D7 l rfl rfl () #[.int (lo+i),H,T,#[t,?_],#[rfl,rfl],l,λb j=>(m b j).1]];rw[Int.mul_one]
 done:=by intro X u p y r i f s L H E I m a q;subst u p y;let(J,G,R,F,C,B):=m g (by simp);show wpAny_pyNext_range_end (I.ok.hd r) a (by let:n<=i:=q;ext) λA S=>#[rfl,I.turned (λb o j e=>S b o j e) J G F C B]
 self:=λ_ _ _ _ _ a h=>wpAny_pyIter_rangeiter a h
section
variable{X:Cx}{Z:Ww}
def Fc{a:G (U×Obj)}{f:St}{H:Hp}{s:V7}{R:It->Hp->Prop}{E:B->V7->Prop}{lo c:Int}{t u v:Tok}{g:Nat}(I:Inv X a f H s)(n: -(2^62)<=lo)(m:lo<2^62)(l: -(2^62)<=c)(j:c<2^62)
  (q:R (TQ lo (c - lo).toNat) H):wpAny (model X.prog X.w) X.A (pyIter (.ref s.heap.objs.size)) (UJ X a f Z R) E {s with heap:=s.heap.push {cls:=.type "range",data:=.fields #v[.int lo t,.int c u,.int 1 v]},toks:=g}:=by
 show wpAny_pyIter_range (IsRange.new ..) (small_one n m l j) ?_;let h:Inv X a f H {s with heap:=s.heap.push {cls:=.type "range",data:=.fields #v[.int lo t,.int c u,.int 1 v]},toks:=g}:=I.kept λb o e=>b4 _ e;show#[(s.heap.push {cls:=.type "range",data:=.fields #v[.int lo t,.int c u,.int 1 v]}).objs.size,[(s.heap.push {cls:=.type "range",data:=.fields #v[.int lo t,.int c u,.int 1 v]}).objs.size],_,_,H,W,
  h.kept (t':=g) λb o e=>b4 _ e,zU _ lo (c - lo).toNat,?_,λb i=>?_,q]
 .let e1:lo+((0:Nat):Int)*1=lo:=by simp
  let e2:(((c - lo).toNat:Nat):Int) - ((0:Nat):Int)=Xe.Range.rangeSize lo c 1:=by rw[rangeSize_one];split<;>ext
  show IsRangeIter _ _ (lo+((0:Nat):Int)*1) ((((c - lo).toNat:Nat):Int) - ((0:Nat):Int)) 1;rw[e1,e2];show ck _ W
 .let e:b=(s.heap.push {cls:=.type "range",data:=.fields #v[.int lo t,.int c u,.int 1 v]}).objs.size:=by simpa using i
  subst e;show h.abJ (Wa _) (h.Xr.fresh (Wa _))
def Hu(c:TA):TI:=λa H R=>c a H λe b=>∃j:Int,e=[.int j]/\ -(2^62)<=j/\j<2^62/\R (TQ 0 j.toNat) b
def uw(o:Gl X "range")(hm:X.mg "range"=VY)(c:PA X [a] C)(n:Wn [a] X.env=[(V4,eval a X.env)]:=by rfl):PI X Z (.Call (.Name "range" p) [a] [] pos) (Hu C):=by
 intro b s g H R I h;show Call_ (oP I o hm boot_range (YV (bT (c pos b s g H _ I h) λv w #[A,y,u,l,f]=>?_) n W));let(j,e,f,m,q):=f;subst e;cases l with
 |cons r i=>ext i;let(t,rfl):=r;show call_range_1 (Fc u () () f m (by simpa using q))
def My(e:TI)(g:TG)(c:TS):TS:=λD a H=>e a H λJ h=>∃W:Nat->Nat->St->Hp->Prop,(∃m,W 0 m a h)/\∀i m a H,W i m a H->
 (J.stop i H/\D.nx a H)\/(J.go i H/\∃N:St->Hp->Prop,(∀j l,N j l->∃n,n<m/\W (i+1) n j l)/\∀x l,J.yld i H x l->g x a l λb f=>c {D with nx:=N,ct:=N,bk:=D.nx} b f)
def ra(a:G U)(h:Heap):G (U×Obj):=a.filterMap λb=>(h.get? b).map λo=>(b,o)
theorem jo(a:b∈C)(e:h.get? b=M o):(b,o)∈ra C h:=Zg.mpr #[b,a,by rw[e];rfl]
def Da(a:p∈ra C h):p.1∈C/\h.get? p.1=M p.2:=by
 let(b,f,e):=Zg.mp a;cases q:h.get? b with
 |none=>rw[q]at e;ext e
 |some o=>rw[q]at e;let g:=Wm e;subst g;show#[f,q]
theorem Inv.pinned(I:Inv X pins σ H s)(i:∀b∈fp,ox X pins H b)(h:∀b∈fp,∃o,s.heap.get? b=M o/\∀v,o.data≠.cell v):Inv X (pins++ra fp s.heap) σ H s:=
 I.abO λp g=>(W7.mp g).elim (λz=>I.pin p (Xd _ z)) λz=>by let(a,e):=Da z;let(m,l,j,_):=i p.1 a;let(o,f,d):=h p.1 a;rw[e]at f;ext f;show#[e,m,l,j,d]
theorem Inv.aaE(I:Inv X (pins++pl) σ H s):Inv X pins σ H s:=I.abO λp a=>I.pin p (Xd _ (Y5 _ a))
def Q6(L:abC (model X.prog X.w) X.A X.env X.xe)(c:X.calm=V0)(V:PI X Z iter wi)(hg:PG X Z g)(p:PSs X body tb)
  (k:∀x,foldedSetIterable iter X.env x=pure x:=by intro _;rfl):PS X (.For Z iter body [] pos) (My wi g tb):=by
 intro j s σ H D I h;show wpAny_For (bT (V j s σ H _ I h) λv s1 h1=>bT h1 λitv s2 h2=>?_) k;let(it,O,tn,J,H2,e,I2,T,R,f2,W,(m0,w0),turn):=h2;subst e;let E:∀{z:Hp},(∀b∈O,z b=VY)->∀b∈O,ox X j z b:=λhn b p=>#[hn b p,(f2 b p).2];show codeAny_forLoop_any (λn s'=>∃i A z,Inv X j A z s'/\tn i s'.heap/\(∀b∈O,z b=VY)/\W i n A z) ?_ m0 #[0,σ,H2,I2,R,λb p=>(f2 b p).1,w0];rintro n s3 ⟨i,l,P,I3,G,M,w3⟩;rcases turn i n l P w3 with⟨F,qn⟩|⟨go,N,hN,step⟩
 .show Yt L (bT (T.done X rfl rfl rfl c i j s3 l P X.xe I3 (E M) G F) λr s4 #[w,I4]=>?_);subst w;show Zj #[l,P,I4,qn]
 .show Yt L (bT (T.item X rfl rfl rfl c i j s3 l P X.xe I3 (E M) G go) λr s4 #[u,w,h4]=>?_)
  subst w;show Yt L (bT h4 λ_ s5 a=>?_);let(x,H5,I5,r5,y5,C,Y):=a;let I5':=I5.pinned (E Y) (T.obj _ _ C);show Yt L (bT (hg _ s5 l H5 x u _ I5' r5 (step x H5 y5)) λ_ s6 a=>?_);let(Q,H6,I6,q6):=a;show Yt L (bT (p _ s6 Q H6 _ I6 q6) λf S B=>?_);let q:∀{a:St} {y:Hp},Inv X (j++ra O s5.heap) a y S->N a y->∃m,m<n/\∃i A z,Inv X j A z S/\tn i S.heap/\(∀b∈O,z b=VY)/\W i m A z:=λ{a y} t K=>by let(m',hm,w7):=hN a y K;show#[m',hm,i+1,a,y,t.aaE,T.keep _ _ _ C λb p o e=>(t.pin (b,o) (Xd _ (Xd _ (jo p e)))).1,λb p=>?_,w7];let(o,e,d):=T.obj _ _ C b p;show(t.pin (b,o) (Xd _ (Xd _ (jo p e)))).2.1
  cases f with
  |next=>let(a,y,t,K):=B;show q t K
  |cont=>let(a,y,t,K):=B;show q t K
  |brk=>let(a,y,t,B):=B;show#[a,y,t.aaE,B]
  |ret v=>let(x7,a,y,t,r7,B):=B;show#[x7,a,y,t.aaE,r7,B]
end
abbrev R2:=V->V->Hp->VK->Prop
def OpR(X:Cx)(f:B->B->Sem B)(r:R2):Prop:=
 ∀(a:G (U×Obj)) (s:V7) (b:St) (H:Hp) (x y:V) (v u:B) (Q:VK),Inv X a b H s->RelV x v->RelV y u->r x y H Q->
  wpAny (model X.prog X.w) X.A (f v u) (EP X a b Q) X.xe s
def Uc(X:Cx)(f:B->Sem B)(r:V->Hp->VK->Prop):Prop:=
 ∀(a:G (U×Obj)) (s:V7) (b:St) (H:Hp) (x:V) (v:B) (Q:VK),Inv X a b H s->RelV x v->r x H Q->
  wpAny (model X.prog X.w) X.A (f v) (EP X a b Q) X.xe s
def Yg(X:Cx)(f:B)(r:G V->Hp->VK->Prop):Prop:=
 ∀(a:G (U×Obj)) (s:V7) (b:St) (H:Hp) (xs:G V) (e:G B) (Q:VK),Inv X a b H s->Vals xs e->r xs H Q->
  wpAny (model X.prog X.w) X.A (call f e) (EP X a b Q) X.xe s
def IC(r:R2)(d c:TE):TE:=λa H Q=>d a H λx e=>c a e λy b=>r x y b Q
def UI(r:V->Hp->VK->Prop)(c:TE):TE:=λa H Q=>c a H λx b=>r x b Q
def rI(C:Int->Int->Prop)(g:Int->Int->V):R2:=λx y H Q=>∃i j,x=.int i/\y=.int j/\C i j/\Q (g i j) H
def wy(g:Int->Int->V):R2:=λx y H Q=>∃i j,x=.int i/\y=.int j/\Q (g i j) H
def rU(g:Int->V):V->Hp->VK->Prop:=λx H Q=>∃i,x=.int i/\Q (g i) H
section
variable{X:Cx}{a b c:Ww}{Z Y S:TE}{T:Pos}
def N5(r:PE X a Z)(n:PE X b Y){R:V->V->Hp->Prop}(I:Inv X pins σ H s)
  (h:Z σ H λx H1=>Y σ H1 λy d=>R x y d) {f:B->B->Sem B}
  (m:∀v u s2 x y d,Inv X pins σ d s2->RelV x v->RelV y u->R x y d->wpAny (model X.prog X.w) X.A (f v u) Q X.xe s2):
  wpAny (model X.prog X.w) X.A (eval a X.env) (λv q=>wpAny (model X.prog X.w) X.A (eval b X.env) (λu k=>wpAny (model X.prog X.w) X.A (f v u) Q X.xe k) X.xe q) X.xe s:=by
 show bT (r pins s σ H _ I h) λv e a=>?_;let(x,H1,p,i,l):=a;show bT (n pins e σ H1 _ p l) λu s2 a=>?_;let(y,d,o,g,j):=a;show m v u s2 x y d o i g j
def Tl(l:OpR X (XJ op) r)(d:PE X a Z)(m:PE X b Y):PE X (.BinOp a op b T) (IC r Z Y):=by intro e s f H Q I h;show wpAny_BinOp (N5 d m I h λv u g x y o n j i q=>l e g f o x y v u Q n j i q)
def Sh(l:Uc X (unaryOp op) r)(d:PE X a Z):PE X (.UnaryOp op a T) (UI r Z):=by intro e s f H Q I h;show UnaryOp_ (bT (d e s f H _ I h) λv g #[x,n,m,i,j]=>l e g f n x v Q m i j)
def Ry{g:Int->Int->Int}
  (e:∀(i j:Int) (t u:Tok) (s:V7) (Q:B->V7->Prop) (E:B->V7->Prop),C i j->Q (.int (g i j) s.toks) {s with toks:=s.toks+1}->wpAny (model X.prog X.w) X.A (f (.int i t) (.int j u)) Q E s):
  OpR X f (rI C λi j=>.int (g i j)):=by
 intro l s r H x y v u Q I o n h;let(i,j,rfl,rfl,p,q):=h;let(t,rfl):=o;let(m,rfl):=n;show e i j t m s _ _ p #[.int (g i j),H,I.tok _,#[_,W],q]
def P7{g:Int->Int->Int}
  (e:∀(i j:Int) (t u:Tok) (s:V7) (Q:B->V7->Prop) (E:B->V7->Prop),Q (.int (g i j) s.toks) {s with toks:=s.toks+1}->wpAny (model X.prog X.w) X.A (f (.int i t) (.int j u)) Q E s):
  OpR X f (wy λi j=>.int (g i j)):=by
 intro l s p H x y v u Q I o n h;let(i,j,rfl,rfl,q):=h;let(t,rfl):=o;let(m,rfl):=n;show e i j t m s _ _ #[.int (g i j),H,I.tok _,#[_,W],q]
def KI{g:Int->Int->Bool}
  (e:∀(i j:Int) (t u:Tok) (s:V7) (Q:B->V7->Prop) (E:B->V7->Prop),Q (.bool (g i j)) s->wpAny (model X.prog X.w) X.A (f (.int i t) (.int j u)) Q E s):
  OpR X f (wy λi j=>.bl (g i j)):=by
 intro l s p H x y v u Q I o n h;let(i,j,rfl,rfl,q):=h;let(t,rfl):=o;let(m,rfl):=n;show e i j t m s _ _ #[.bl (g i j),H,I,W,q]
def GF(i j:Int):Prop:=0<=j/\j<=1000000/\i.natAbs<2^64
def aeN(i j:Int):Prop:=(-(2^64)<i/\i<2^64)\/(-(2^64)<j/\j<2^64)
def aeN.ok(h:aeN i j):IntMulOk i j:=by
 rcases h with⟨f,e⟩|⟨f,e⟩
 .show .of_left (akW f e)
 .show .of_right (akW f e)
def two_pow_nn(k:Nat):(0:Int)<=2^k:=by rw[two_pow_cast];show Int.natCast_nonneg _
theorem P3:OpR X (XJ .Add) (wy λi j=>.int (i+j)):=P7 λ_ _ _ _ _ _ _ q=>add_int q
theorem Qf:OpR X (XJ .Sub) (wy λi j=>.int (i - j)):=P7 λ_ _ _ _ _ _ _ q=>sub_int q
theorem QZ:OpR X (XJ .Mult) (rI aeN λi j=>.int (i*j)):=Ry λ_ _ _ _ _ _ _ e q=>mul_int q e.ok
theorem Rj:OpR X (XJ .Mod) (rI (λ_ j=>0<j) λi j=>.int (i % j)):=Ry λi j _ _ _ _ _ e q=>by let f:(0:Int)<j:=e;show mod_int' () (by rw[Int.fmod_eq_emod_of_nonneg i ()];show q)
theorem Ot:OpR X (XJ .Pow) (rI GF λi j=>.int (i^j.toNat)):=Ry λ_ _ _ _ _ _ _ e q=>pow_int_small e.1 e.2.1 e.2.2 q
theorem QS:OpR X (XJ .LShift) (rI GF λi j=>.int (i*2^j.toNat)):=Ry λ_ _ _ _ _ _ _ e q=>lshift_int_small e.1 e.2.1 e.2.2 q
theorem QX:OpR X (XJ .RShift) (rI (λ_ j=>0<=j) λi j=>.int (i/2^j.toNat)):=Ry λi j _ _ _ _ _ e q=>
 rshift_int e (by rw[abD i (two_pow_nn _)];show q)
theorem QH:OpR X (XJ .BitAnd) (wy λi j=>.int (Xe.bitAnd i j)):=P7 λ_ _ _ _ _ _ _ q=>and_int q
def Vk{g:Int->Int}
  (e:∀(i:Int) (t:Tok) (s:V7) (Q:B->V7->Prop) (E:B->V7->Prop),Q (.int (g i) s.toks) {s with toks:=s.toks+1}->wpAny (model X.prog X.w) X.A (f (.int i t)) Q E s):
  Uc X f (rU λi=>.int (g i)):=by
 intro j s m H x v Q I l h;let(i,rfl,q):=h;let(t,rfl):=l;show e i t s _ _ #[.int (g i),H,I.tok _,#[_,W],q]
theorem PU:Uc X (unaryOp .USub) (rU λi=>.int (-i)):=Vk λ_ _ _ _ _ q=>neg_int q
end
section
variable{X:Cx}{a b c:Ww}{Y Z U:TE}{pos:Pos}
def Gr(I:Inv X pins σ H s)(q:Q (.bl k) H)(e:k=o):EP X pins σ Q (.bool o) s:=by subst e;show#[.bl k,H,I,W,q]
theorem To:OpR X (Xs .Lt) (wy λi j=>.bl (decide (i<j))):=KI λ_ _ _ _ _ _ _ q=>lt_int q
theorem Tj:OpR X (Xs .LtE) (wy λi j=>.bl (decide (i<=j))):=KI λ_ _ _ _ _ _ _ q=>le_int q
theorem Tc:OpR X (Xs .Gt) (wy λi j=>.bl (decide (j<i))):=KI λ_ _ _ _ _ _ _ q=>gt_int q
theorem SU:OpR X (Xs .GtE) (wy λi j=>.bl (decide (j<=i))):=KI λ_ _ _ _ _ _ _ q=>ge_int q
def OA:OpR X (Xs .Is) (λx y H Q=>y=.Yf/\Q (.bl (decide (x=.Yf))) H):=by
 intro f s i H x y v u Q I e g h;let(rfl,q):=h;ext g;show is_none_gen (Gr I q ?_);ext x<;>first
  |(ext e;rfl)
  |(let(t,rfl):=e;rfl)
def Mf:OpR X (Xs .IsNot) (λx y H Q=>y=.Yf/\Q (.bl (!decide (x=.Yf))) H):=by
 intro f s i H x y v u Q I e g h;let(rfl,q):=h;ext g;show isnot_none_gen (Gr I q ?_);ext x<;>first
  |(ext e;rfl)
  |(let(t,rfl):=e;rfl)
def JJ{op:abW}{r:R2}(l:OpR X (Xs op) r)(d:PE X a Y)(m:PE X b Z)(hm:behindInMarks op b=V4):PE X (.Compare a [op] [b] pos) (IC r Y Z):=by intro e s f H Q I h;show aiP (N5 d m I h λv u g x y o n j i q=>l e g f o x y v u Q n j i q) hm
def t7(t:TE):TT:=λe H Q=>t e H λx f=>∃k,x=.bl k/\Q k f
def Lo(t:OpR X (Xs op) r)(d:PE X a Y)(w:PE X b Z)(hm:behindInMarks op b=V4):PT X (.Compare a [op] [b] pos) (t7 (IC r Y Z)):=by
 intro f s g H Q I h;show aeg (bT (d f s g H _ I h) λv j #[x,G,C,n,q]=>bT (w f j g G _ C q) λu i #[y,F,K,m,p]=>
  bT (t f i g F x y v u _ K n m p) λc J a=>?_) hm;let(z,E,A,l,k,e,o):=a
 subst e;ext l;show Xy #[E,A,o]
def yO(r d:R2)(Y Z U:TE):TE:=λe H Q=>Y e H λx j=>Z e j λy i=>r x y i λz f=>∃k,z=.bl k/\
 (if k=P then U e f λg h=>d y g h Q else Q (.bl I) f)
def Hn(K:OpR X (Xs op) r)(i:OpR X (Xs op') r')(D:PE X a Y)(M:PE X b Z)(L:PE X c U)
  (hm:lastMarks [op,op'] [b,c]=V4:=by with_unfolding_all rfl):PE X (.Compare a [op,op'] [b,c] pos) (yO r r' Y Z U):=by
 intro f s g H Q I h;show Compare_chain (bT (D f s g H _ I h) λv A #[x,T,Pz0,E,J]=>chain_link (bT (M f A g T _ Pz0 J) λu w #[y,S,O,j,G]=>
  bT (K f w g S x y v u _ O E j G) λd t a=>?_)) hm;let(z,n,m,C,k,e,l):=a
 subst e;ext C;show Xy ?_;cases k with
 |false=>show ite_ff #[.bl V4,n,m,W,l]
 |true=>show ite_tt (chain_last (bT (L f t g n _ m l) λp q #[o,R1,N,Bz0,F]=>i f q g R1 y o u p Q N j Bz0 F))
def Gu(N:OpR X (Xs op) r)(i:OpR X (Xs op') r')(D:PE X a Y)(P:PE X b Z)(O:PE X c U)
  (hm:lastMarks [op,op'] [b,c]=V4:=by with_unfolding_all rfl):PT X (.Compare a [op,op'] [b,c] pos) (t7 (yO r r' Y Z U)):=by
 intro f s g H Q I h;show isTrue_chain (bT (D f s g H _ I h) λv A #[x,H1,I1,F,L]=>test_link (bT (P f A g H1 _ I1 L) λu w #[y,H2,I2,j,K]=>
  bT (N f w g H2 x y v u _ I2 F j K) λd t a=>?_)) hm;let(z,n,m,E,k,e,l):=a
 subst e;ext E;show Xy ?_;cases k with
 |false=>let(k',R,M):=l;ext R;show ite_ff #[n,m,M]
 |true=>show ite_tt (test_last (bT (O f t g n _ m l) λp q #[o,H4,T,C,J]=>bT (i f q g H4 y o u p _ T j C J) λd' s5 a=>?_));let(z2,H5,S,Bz0,k2,e2,G):=a;subst e2;ext Bz0;show Xy #[H5,S,G]
def wm:(We:Nat)<2^63:=by rw[X8];decide
def jE(r:Vals [x] us):∃u,us=[u]/\RelV x u:=by
 cases r with
 |cons f e=>ext e;show#[_,W,f]
def Aa(r:Vals [x,y] us):∃u d,us=[u,d]/\RelV x u/\RelV y d:=by
 cases r with
 |cons h g=>
  cases g with
  |cons f e=>ext e;show#[_,_,W,h,f]
def C5(g:X.calm=P):Yg X (.builtin "max") (λxs H Q=>∃i j,xs=[.int i,.int j]/\Q (.int (if j>i then j else i)) H):=by
 intro f s l H xs n Q I r h;let(i,j,rfl,q):=h;let(u,m,rfl,(t,rfl),(p,rfl)):=Aa r;show max_two_ints (I.ok.hd g) λv o k=>#[_,H,I.kept k,?_,q];by_cases e:j>i
 .rw[ax e,ax e];show#[_,W]
 .rw[aE e,aE e];show#[_,W]
def Mu(K:lD)(x:V)(H:Hp)(n:Nat):Prop:=
 match x with
 |.str y=>y.length<=We/\n=y.length
 |.byt y=>y.size<=We/\n=y.size
 |.ref p=>(∃xs,ZV K H p xs/\n=xs.length)\/∃xs,ZI K H p xs/\n=xs.length
 |_=>False
def xP:Yg X (.builtin "len") (λxs H Q=>∃x n,xs=[x]/\Mu X.K x H n/\Q (.int n) H):=by
 intro m s z H xs A Q I r h;let(x,n,rfl,e,q):=h;let(u,rfl,i):=jE r;let C:=wm;let B:=X8;cases x with
 |str y=>let(t,rfl):=i;let(v,g):=e;subst g;show len_str () #[.int _,H,I.tok _,#[_,W],q]
 |byt y=>let(t,rfl):=i;let(v,g):=e;subst g;show PySem.W.len_bytes () #[.int _,H,I.tok _,#[_,W],q]
 |ref p=>
  ext i;let g:=e;rcases g with⟨xs,l,g⟩|⟨xs,l,g⟩
  .subst g;let(w,j,pl,o):=I.list l;let f:=j.length;show Calls.call_len_list pl.isList (by simp only[Wt];ext) #[.int xs.length,H,I.tok _,#[_,by simp only[Wt];rw[f]],q]
  .subst g;let(w,j,pl,o):=I.tuple l;let f:=j.length;show len_tuple pl (by simp only[Wt];ext) #[.int xs.length,H,I.tok _,#[_,by simp only[Wt];rw[f]],q]
 |_=>show(show False from e).elim
end
structure acH(h:Heap)(x dx C:U)(mA:Str->z B):Prop where
 obj:h.get? x=M (X1 C dx)
 ns:h.Ns1 dx mA
 ne:dx≠x
def B9{h:Heap}(n:h.Ns1 J C):∃c,h.get? J=M c/\∀name,ZW name c=M (C name):=by
 let(o,es,m,g,j,i,_,hm):=n;show#[o,g,λname=>?_];let e:=hm name;unfold nsFind findBy at e;rw[<-ade]at e;ext ZW;rw[j];dsimp only;split
 .rename_i y q;rw[q]at e;show eg M e
 .rename_i q
  rw[q]at e;let a:es.toList.any (·.refKey)=I:=by rw[List.any_eq_false];intro y f;let(z,t,b):=i y (Array.mem_toList_iff.mp f);simp[YW.refKey,b]
  let l:¬es.toList.any (·.refKey)=P:=by rw[a];show Wv
  rw[aE l];show eg M e
theorem acH.look(I:acH h x dx C mA):∃a,PySem.W.InstAt h x (X1 C dx) C (M a)/\∀name,ZW name a=M (mA name):=
 let#[a,b,e]:=B9 I.ns
 #[a,#[I.obj,W,W,b],e]
section
variable{T:Ws}{w:WO}{A:WK}{E:Ld->V7->Prop}{s:V7}{K:lD}{x S C f:V5}{Z:Str->b3 Ld}{Y:Str}{v:Ld}
def J5(X:K.In s.heap)(I:acH s.heap x S C Z)(i:YQ K C Y=P)(g:Zh K C=P)
  (c:W0 K (.ref C) Y=M R) (b:Z Y=M v) (a:adf v=P) (h:Q v {s with toks:=s.toks+1}):
  wpAny (model T w) A (getAttr (.ref x) Y expr) Q E s:=by
 let(j,J,e):=I.look;show PySem.W.get_value X J (aab i).1 (PySem.W.findObj_own g c W (by rw[e,b])) a h
def GU(X:K.In s.heap)(I:acH s.heap x S C Z)(a:YQ K C Y=P)
  (j:W0 K (.ref C) Y=M (M (.ref f))) (g:Yc K (.ref f)=P) (e:Z Y=R) (h:Q (.ref f,[.ref x]) s):
  wpAny (model T w) A (getMethod (.ref x) Y pl) Q E s:=by
 let(b,J,i):=I.look;show PySem.W.method_fn X J (aab a).1 (aab a).2 j (beq_iff_eq.mp g) (by show(ZW Y b).map (·.isSome)=M V4;rw[i,e];rfl) h
def KO(X:K.In s.heap)(I:acH s.heap x S C Z)
  (p:W0 K (.ref C) "__setattr__"=M (M (.builtin "object.__setattr__"))) (q:aav K C=P) (o:aaO K C Y=M R) (r:Zh K C=P)
  (n:ab5 Z ns) (d:ns.length<=We)
  (h:∀c,acH c x S C (λy=>if y=Y then M v else Z y)->Heap.SameBut S s.heap c->Q ⟨⟩ {s with heap:=c,toks:=s.toks+2}):
  wpAny (model T w) A (setAttr (.ref x) Y v) Q E s:=by
 let(B,J,G):=I.look;show PySem.W.set_plain X J p (PySem.W.osa_open X J q o λb=>?_);let(H,t,j):=PySem.W.any_some r;let m:=I.obj;show CL (Wb (CL (CL (aiQ m (CL (agC (PySem.W.looks_clsIn X t) ?_))))));rw[j];show Wb (CL (Wb (CL ?_)));show wpAny_nsSet1 I.ns λc e a=>?_;let(F,u,z,g,i,l):=e.count (ahD Y v n);show CL (agD g (by rw[i];show agE (WU l (by rw[Wi];ext))) ?_);show Wb (h _ #[(a.2 _ (d0 I.ne)).trans I.obj,e,I.ne] a)
def Ei{R:abE->V7->Prop}{c:G B}{b:G (Str×B)}(X:K.In s.heap)(hm:aaP K C=P)
  (k:W0 K (.ref C) "__init__"=M (M (.ref f))) (e:adK K (.ref f)=M (.type "function"))
  (h:codeAny (model T w) (A.under (.builtin "type.__call__" #[.ref C::c,b])) (.call (.ref f) #[.ref (s.heap.objs.size+1)::c,b]) (PySem.W.InitBack (s.heap.objs.size+1) R)
   {s with heap:=(s.heap.push Xv).push (X1 C s.heap.objs.size)}):
  codeAny (model T w) A (.call (.ref C) #[c,b]) R s:=by
 let(j,g,d,t,i):=s;show PySem.W.make_core (PySem.W.makes_of X hm) (PySem.W.looks_findIn X k) (λa=>PySem.W.bind_fn X a e) (.inl W) h
end
def iW(f:Str)(v:V):G (Str×V)->G (Str×V)
 |[]=>[(f,v)]
 |(g,x)::r=>if g=f then(g,v)::r else(g,x)::iW f v r
theorem oQ(f g:Str)(v:V):∀fs:G (Str×V),(iW f v fs).lookup g=if g=f then M v else fs.lookup g
 |[]=>by
  show X4 g [(f,v)]=_;by_cases h:g=f
  .let a:=beq_iff_eq.mpr h;simp only[X4,a,ax h]
  .let a:=beq_eq_false_iff_ne.mpr h;simp only[X4,a,aE h]
 |(k,x)::r=>by
  let i:=oQ f g v r;rw[show iW f v ((k,x)::r)=(if k=f then(k,v)::r else(k,x)::iW f v r)from rfl];by_cases b:k=f
  .rw[ax b]
   by_cases h:g=k
   .let a:=beq_iff_eq.mpr h;simp only[X4,a,ax (h.trans b)]
   .let a:=beq_eq_false_iff_ne.mpr h;simp only[X4,a,aE (λe:g=f=>h (e.trans b.symm))]
  .rw[aE b]
   by_cases h:g=k
   .let a:=beq_iff_eq.mpr h;simp only[X4,a,aE (λe:g=f=>b (h.symm.trans e))]
   .let a:=beq_eq_false_iff_ne.mpr h;simp only[X4,a];show i
theorem oz(f:Str)(v:V):∀fs:G (Str×V),f∈(iW f v fs).map (·.1)/\∀g,g∈fs.map (·.1)->g∈(iW f v fs).map (·.1)
 |[]=>#[by simp[iW],λg h=>by simp at h]
 |(k,x)::r=>by
  let(i,b):=oz f v r;rw[show iW f v ((k,x)::r)=(if k=f then(k,v)::r else(k,x)::iW f v r)from rfl];by_cases a:k=f
  .rw[ax a];subst a;show#[by simp,λg h=>by simpa using h]
  .rw[aE a]
   show#[?_,λg h=>?_]
   .rw[Wl];show Wf _ i
   .rw[Wl]at h⊢
    rcases WE.mp h with e|e
    .show WE.mpr (.inl e)
    .show Wf _ (b g e)
theorem oV(f:Str)(v:V):∀fs:G (Str×V),(iW f v fs).length<=fs.length+1
 |[]=>by simp[iW]
 |(k,x)::r=>by
  let b:=oV f v r;rw[show iW f v ((k,x)::r)=(if k=f then(k,v)::r else(k,x)::iW f v r)from rfl];by_cases a:k=f
  .rw[ax a,Wi,Wi];ext
  .rw[aE a,Wi,Wi];ext
def Zu.some_of(r:Zu (M v) o):∃u,o=M u/\RelV v u:=by
 cases o with
 |none=>show(show False from r).elim
 |some u=>show#[u,W,r]
def Zu.none_of(r:Zu R o):o=R:=by
 cases o with
 |none=>rfl
 |some u=>show(show False from r).elim
def B1(r:RelV v u):adf u=P:=by
 cases v with
 |Yf=>cases(show u=Ld.none from r);rfl
 |bl b=>cases(show u=Ld.bool b from r);rfl
 |int i=>let(t,e):=(show∃t,u=Ld.int i t from r);ext e;rfl
 |str x=>let(t,e):=(show∃t,u=Ld.str x t from r);ext e;rfl
 |byt b=>let(t,e):=(show∃t,u=Ld.bytes b t from r);ext e;rfl
 |flt b=>let(t,e):=(show∃t,u=Ld.float b t from r);ext e;rfl
 |ref a=>cases(show u=Ld.ref a from r);rfl
 |ty n=>cases(show u=Ld.type n from r);rfl
section
variable{P:Ws}{w:WO}{H X:Hp}{h T:Heap}{a C Z:V5}{fs Y:bg (Str×V)}
def vP(Xr:Z9 P w H h)(e:H a=M (.ins C Z fs)):∃c,acH h a Z C c/\(∀f,Zu (fs.lookup f) (c f))/\ab5 c (fs.map (·.1))/\fs.length<=1000/\H Z=M (.own a):=by let(d,z,ne,b,c,n,r,q):=(show ObjOk P w H h a (.ins C Z fs)from Xr a _ e);show#[c,#[b,n,ne],r,q,z,d]
end
structure Cls(K:lD)(C:U):Prop where
 pg:YQ K C Str.empty=P
 hd:Zh K C=P
 po:aav K C=P
 sa:W0 K (.ref C) "__setattr__"=M (M (.builtin "object.__setattr__"))
theorem Cls.get{K:lD}(c:Cls K C)(f:Str):YQ K C f=P:=c.pg
def Zl(K:lD)(C:U)(f:Str):Prop:=W0 K (.ref C) f=M R
def Zl.agU{K:lD}(n:Zl K C f):aaO K C f=M R:=by ext aaO;rw[show W0 K (.ref C) f=M R from n];rfl
structure Con(K:lD)(C:U)(f:Str)(v:V)(u:B):Prop where
 at_:W0 K (.ref C) f=M (M u)
 rel:RelV v u
 get:YG K u "__get__"=M R
 cp:PySem.W.copiedNames.contains f=I
structure Meth(K:lD)(C:U)(m:Str)(f:U):Prop where
 at_:W0 K (.ref C) m=M (M (.ref f))
 fn:Yc K (.ref f)=P
 kp:XF K (.ref f)=P
section
variable{X:Cx}{Z:bg (V5×Obj)}{Y:St}{H:Hp}{s:V7}{a C T:V5}{fs:bg (Str×V)}{f:Str}{v:V}{A:WK}{E:Ld->V7->Prop}
def yy(I:Inv X Z Y H s)(e:H a=M (.ins C T fs))(c:Cls X.K C)(n:Zl X.K C f)(l:fs.lookup f=M v)
  (h:∀u d,Inv X Z Y H d->RelV v u->Q u d):wpAny (model X.prog X.w) A (getAttr (.ref a) f b) Q E s:=by
 let(j,O,r,_,_,_):=vP I.Xr e;let(u,i,g):=Zu.some_of (by rw[<-l];show r f);show J5 I.kIn O (c.get f) c.hd n i (B1 g) (h u _ (I.tok _) g)
def qX(I:Inv X Z Y H s)(e:H a=M (.ins C T fs))(c:Cls X.K C)(k:Meth X.K C m g)(l:fs.lookup m=R)
  (h:Q (.ref g,[.ref a]) s):wpAny (model X.prog X.w) A (getMethod (.ref a) m pl) Q E s:=by
 let(b,O,r,_,_,_):=vP I.Xr e;let i:=Zu.none_of (by rw[<-l];show r m);show GU I.kIn O (c.get m) k.at_ k.fn i h
def yV(I:Inv X Z Y H s)(e:H a=cL (.ins C T fs))(c:Cls X.K C)(n:Zl X.K C f)(M:fs.length<1000)(t:RelV y u)
  (h:∀d,Inv X Z Y (a8 H a (.ins C T (iW f y fs))) d->Q ⟨⟩ d):wpAny (model X.prog X.w) A (setAttr (.ref a) f u) Q E s:=by
 let(l,O,r,j,_,m):=vP I.Xr e;let B:(fs.map (·.1)).length<=We:=by rw[V1,X8];ext
 show KO I.kIn O c.sa c.po n.agU c.hd j B λL i p=>h _ ?_;let G:∃o,L.get? T=cL o:=let#[o,_,_,w,_]:=i.ns;#[o,w]
 show I.write (by rw[e];show True.intro) (.inr m) (λb q J z=>(p.2 b J).trans z) G ?_;show#[by rw[aw O.ne];show m,?_,O.ne,i.obj,_,i.ns,λg=>?_,λg F=>?_]
 .let:=oV f y fs;ext
 .show Zu ((iW f y fs).lookup g) (if g=f then cL u else l g)
  rw[oQ];by_cases q:g=f
  .rw[ax q,ax q];show t
  .rw[aE q,aE q];show r g
 .by_cases q:g=f
  .rw[q];show(oz f y fs).1
  .show(oz f y fs).2 g (j g λz=>F ?_);show(if g=f then cL u else l g)=R;rw[aE q];show z
def Inv.made(I:Inv X Z Y H s):Inv X Z Y (a8 (a8 H s.heap.objs.size (.own (s.heap.objs.size+1))) (s.heap.objs.size+1) (.ins C s.heap.objs.size []))
  {s with heap:=(s.heap.push Xv).push (X1 C s.heap.objs.size)}:=by
 let e1:(s.heap.push Xv).get? s.heap.objs.size=M Xv:=ck s.heap W;let e2:((s.heap.push Xv).push (X1 C s.heap.objs.size)).get? (s.heap.objs.size+1)=M (X1 C s.heap.objs.size):=by let:=ck (s.heap.push Xv) (o:=X1 C s.heap.objs.size) W;rwa [da]at this
 let e3:(s.heap.push Xv).Ns s.heap.objs.size (λ_=>R):=#[Xv,#v[],_,e1,W,(λe h=>a7 h (by simp)),λ_=>W];let i:=I.laid (a:=s.heap.objs.size) (o:=.own (s.heap.objs.size+1)) (h':=s.heap.push Xv) (t':=s.toks) (λb u q=>b4 _ q) (Wa _) #[_,e1];show i.laid (a:=s.heap.objs.size+1) (o:=.ins C s.heap.objs.size []) (t':=s.toks) (λb u q=>b4 _ q) (YR (da _ _)) ?_;let ne:s.heap.objs.size≠s.heap.objs.size+1:=Wz (Y1 _);show#[by rw[aw ne,aI],W8 _,ne,e2,λ_=>R,(Heap.Ns1.of_empty e3).at λo q=>b4 _ q,λ_=>True.intro,λy g=>a7 W g]
theorem K5{prog:Ws}{w:WO}{env:Env}{e:Ww}{f:Str}{b:Pos}{s:V7}{Q:B->V7->Prop}(g:attributeBase e f env (eval e env)=eval e env)
  (h:wpAny (model prog w) A (eval e env) (λo c=>wpAny (model prog w) A (getAttr o f P) Q E c) E s):wpAny (model prog w) A (eval (.Attribute e f b) env) Q E s:=
 Attribute_any_ h (by rw[arm_eval_Attribute,g])
end
def OE(K:lD)(c:TE)(f:Str):TE:=λe H Q=>c e H λx b=>∃a C g fs v,x=.ref a/\b a=M (.ins C g fs)/\Cls K C/\Zl K C f/\fs.lookup f=M v/\Q v b
def Q8(K:lD)(c g:TE)(f:Str):TS:=λD b H=>g b H λy h=>c b h λx e=>∃a C i fs,x=.ref a/\e a=M (.ins C i fs)/\Cls K C/\Zl K C f/\fs.length<1000/\
 D.nx b (a8 e a (.ins C i (iW f y fs)))
section
variable{X:Cx}{o e Z:Ww}{f:Str}{T Y O:Pos}{U S:TE}
def Og(m:PE X e U)(p:attributeBase e f X.env (eval e X.env)=eval e X.env):PE X (.Attribute e f T) (OE X.K U f):=by intro b s g H Q I h;show K5 p (bT (m b s g H _ I h) λu E a=>?_);let(x,z,y,i,a,C,J,fs,v,r,t,c,n,l,q):=a;subst r;obtain rfl:=i;show yy y t c n l λA B w j=>#[v,z,w,j,q]
def Qx(d:PE X o U)(r:PE X Z S)(t:Yu Z (M (.Attribute o f Y)) T.line X.env=pure V4):PS X (.Assign [.Attribute o f Y] Z T) (Q8 X.K U S f):=by intro b s g H D I h;show abt (bT (r b s g H _ I h) λu i #[y,E,K,j,q]=>bT (d b i g E _ K q) λJ G a=>?_) t;let(x,L,A,m,a,C,N,fs,v,w,c,n,l,p):=a;subst v;obtain rfl:=m;show yV A w c n l j λF z=>#[g,_,z,p]
end
section
variable{X:Cx}{Z:bg (V5×Obj)}{Y:St}{H:Hp}{s:V7}{A:WK}{E:Ld->V7->Prop}{Q:Ld->V7->Prop}{c:Ld}{b:Bool}
inductive aa7(K:lD)(H:Hp):V->B->Prop where
 |Yf:aa7 K H .Yf (.type "NoneType")
 |bl (x:Bool):aa7 K H (.bl x) (.type "bool")
 |int (i:Int):aa7 K H (.int i) (.type "int")
 |str (x:Str):aa7 K H (.str x) (.type "str")
 |flt (x:UInt64):aa7 K H (.flt x) (.type "float")
 |lst {a:U} {xs:G V} (e:H a=M (.lst xs)):aa7 K H (.ref a) (.type "list")
 |frz {a:U} {o:Obj} {xs:G V} (e:H a=M (.frz o (.lst xs))):aa7 K H (.ref a) (.type "list")
 |tup {a:U} {xs:G V} (e:H a=M (.tup xs)):aa7 K H (.ref a) (.type "tuple")
 |dK {a:U} {WA:G (cw×V)} (e:H a=M (.dK WA)):aa7 K H (.ref a) (.type "dict")
 |dT {a:U} {WA:G (G cw×V)} (e:H a=M (.dT WA)):aa7 K H (.ref a) (.type "dict")
 |ins {a C dx:U} {fs:G (Str×V)} (e:H a=M (.ins C dx fs)) (cl:Cls K C) (ha:W0 K (.ref C) "__class__"=M (M (.builtin "object.__class__")))
   (hn:YG K (.builtin "object.__class__") "__get__"=M (M (.builtin "getset_descriptor.__get__"))) (htk:PySem.W.takesIn K (.builtin "object.__class__")=M P)
   (hm:PySem.W.mroIn K C (.type "object")=M P):aa7 K H (.ref a) (.ref C)
end
structure X0(k:Nat)(A:WK):Prop where
 hd:A.handled=R
 dp:A.depth+3*k+5<recursionLimit
 un:A.units+16*k+200<cLine
theorem X0.mono(r:X0 k A)(h:j<=k):X0 j A:=#[r.hd,by let:=r.dp;ext,by let:=r.un;ext]
theorem X0.deeper(r:X0 (k+1) A)(env:Env):X0 k (A.deeper env):=
 #[r.hd,by let:=r.dp;show A.depth+1+3*k+5<_;ext,by let:=r.un;show A.units+3+16*k+200<_;ext]
def yx{A:WK}:(A.under (.builtin "type.__call__" #[.ref C::us,kw])).depth=A.depth+1:=by
 first|rfl|simp[WK.under,acD.weight,acD.isCreation,acD.isGuard,acD.isCaller,acD.frames,acD.isFrame,guardIds]
def zc{A:WK}:(A.under (.builtin "type.__call__" #[.ref C::us,kw])).units=A.units+1:=by
 first|rfl|simp[WK.under,acD.cUnits,acD.frames,acD.isFrame]
theorem X0.make(r:X0 (k+1) A)(C:U)(us:G B)(a:G (Str×B)):X0 k (A.under (.builtin "type.__call__" #[.ref C::us,a])):=
 #[r.hd,by let:=r.dp;rw[yx];ext,by let:=r.un;rw[zc];ext]
def X0.depth(r:X0 k A):A.depth<recursionLimit:=by let:=r.dp;ext
def X0.units(r:X0 k A):A.units+64<cLine:=by let:=r.un;ext
def g6:TA:=λ_ H Q=>Q [] H
def d6(c:TE)(b:TA):TA:=λa H Q=>c a H λx f=>b a f λxs e=>Q (x::xs) e
section
variable{X:Cx}{e:Ww}{es:bg Ww}{Y:TE}{t:TA}{Z:Pos}
theorem gX:PA X [] g6:=λ_ _ _ _ H Q I h=>Calls.spliced_nil #[[],H,I,.nil,h]
def dI(c:PE X e Y)(n:PA X es t)(m:Wn (e::es) X.env=(V4,eval e X.env)::Wn es X.env:=by rfl):PA X (e::es) (d6 Y t):=by intro Z a s b H Q I h;rw[m];show Calls.spliced_cons (bT (c a s b H _ I h) λu f a=>?_);let(x,r,p,i,l):=a;show bT (n Z a f b r _ p l) λv w #[xs,q,o,g,j]=>#[x::xs,q,o,.cons i g,j]
def Lh(t:TA):TE:=λb H Q=>t b H λxs a=>xs.length<=We/\∀p,a p=R->Q (.ref p) (a8 a p (.tup xs))
def Q1(t:TA):TE:=λb H Q=>t b H λxs a=>xs.length<=We/\∀p,a p=R->Q (.ref p) (a8 a p (.lst xs))
def N6{c}(h:PA X es t):PE X (.Tuple es c Z) (Lh t):=by intro a s i H Q I l;show wpAny_Tuple_spliced (bT (h Z a s i H _ I l) λj f #[xs,n,g,r,z,q]=>#[by rw[<-r.length];show z,?_]);let m:=g.Xr.fresh (Wa _);show#[.ref f.heap.objs.size,a8 n f.heap.objs.size (.tup xs),g.laid (λb u e=>b4 _ e) (Wa _) ?_,W,q _ m];show#[z,j,r,#[_,ck _ W,#[W,_,W],W]]
def On(h:PA X es t):PE X (.List es Z) (Q1 t):=by intro a s i H Q I l;show wpAny_List_spliced (bT (h Z a s i H _ I l) λj f #[xs,n,g,r,z,q]=>#[by rw[<-r.length];show z,?_]);let m:=g.Xr.fresh (Wa _);show#[.ref f.heap.objs.size,a8 n f.heap.objs.size (.lst xs),g.laid (λb u e=>b4 _ e) (Wa _) ?_,W,q _ m];show#[z,j,0,r,ck _ W]
end
abbrev Sp:=G V->Hp->VK->XK->Prop
abbrev u6:=G Env->Hp->V7->XK->B->V7->Prop
structure Env0(P:Ws)(w:WO)(K:lD)(mg:Str->z B)(base:Heap)(A:WK)(outer:G Env)(s:V7)(H:Hp):Prop where
 frames:A.frames=M outer
 mod:Mod K mg base
 bs:∀b o,base.get? b=M o->s.heap.get? b=M o/\H b=R
 bsz:base.objs.size<=s.heap.objs.size
 aam:s.heap.FunFrames base outer
 frf:∀b∈wx outer,H b=R
 Xr:Z9 P w H s.heap
 bare:AllBare s.gens
def CE(outer:G Env)(P:Ws)(w:WO)(H:Hp)(s:V7)(Q:VK)(u:B)(a:V7):Prop:=
 ∃v b,a.os=s.os/\AllBare a.gens/\Un (wx outer) [] H b s.heap a.heap/\Z9 P w b a.heap/\RelV v u/\Q v b
def CR(b:u6)(outer:G Env)(P:Ws)(w:WO)(H:Hp)(s:V7)(Q:VK)(E:XK)(r:abE)(a:V7):Prop:=
 match r with
 |.ok (.ret u)=>CE outer P w H s Q u a
 |.ok _=>False
 |.error e=>b outer H s E e a
structure FnOk(P:Ws)(w:WO)(K:lD)(mg:Str->z B)(base:Heap)(CX:u6)(k:Nat)(f:U)(fd:Xf)(ps:G Str)(sp:Sp):Prop where
 len:∀vs H Q E,sp vs H Q E->vs.length=ps.length
 run:∀(A:WK) (outer:G Env) (s:V7) (H:Hp) (args:Args) (us:G B) (vs:G V) (Q:VK) (E:XK),X0 k A->Env0 P w K mg base A outer s H->aah s fd args (ps.zip us)->Vals vs us->sp vs H Q E->
  codeAny (model P w) A (.call (.ref f) args) (CR CX outer P w H s Q E) s
theorem FnOk.imp{P:Ws}{w:WO}{K:lD}{p:Str->z B}{base:Heap}{g:u6}{k:Nat}{f:U}{fd:Xf}{d:G Str}{sp b:Sp}(F:FnOk P w K p base g k f fd d sp)
  (h:∀c H Q E,b c H Q E->sp c H Q E):FnOk P w K p base g k f fd d b:=
 #[λc H Q E q=>F.len c H Q E (h _ _ _ _ q),λA a s H e i c Q E m n o j l=>F.run A a s H e i c Q E m n o j (h _ _ _ _ l)]
theorem Env0.make{K:lD}(e:Env0 b w K mg base A outer s H)(C:U)(us:G B)(a:G (Str×B)):
  Env0 b w K mg base (A.under (.builtin "type.__call__" #[.ref C::us,a])) outer s H:=#[by first|show e.frames|(simpa [WK.under,acD.envs,acD.isFrame,pushEnvs]using e.frames),e.mod,e.bs,e.bsz,e.aam,e.frf,e.Xr,e.bare]
section
variable{X:Cx}{Z:bg (V5×Obj)}{Y:St}{H:Hp}{s U:V7}
theorem Inv.afx(I:Inv X Z Y H s):Env0 X.prog X.w X.K X.mg X.base X.A X.stack s H:=
 #[I.ok.frames,I.ok.mod,I.bs,WU I.ok.bsz I.sz,I.stack,I.aaC,I.Xr,I.bare]
def Inv.after{Q:VK}{u:B}(I:Inv X Z Y H s)(h:CE X.stack X.prog X.w H s Q u U):EP X Z Y Q u U:=by let(v,j,f,a,un,Xr,r,q):=h;let(i,g,d,t,e):=U;obtain rfl:e=s.os:=f;show#[v,j,I.call (h':=i) (g':=g) (d':=d) (t':=t) (ch:=[]) un Xr a (λb z=>a7 z (by simp)),r,q]
end
def kF(sp:Sp)(b:G V)(E:XK)(t:TA):TE:=λa H Q=>t a H λf e=>sp (f++b) e Q E
def tZ(C:U)(m:Str)(sp:Sp)(f:G V)(E:XK)(c:TE)(t:TA):TE:=λb H Q=>c b H λx e=>∃a i fs,x=.ref a/\e a=M (.ins C i fs)/\fs.lookup m=R/\
 t b e λh g=>sp (x::(h++f)) g Q E
def wT(C:U)(sp:Sp)(e:G V)(E:XK)(t:TA):TE:=λb H Q=>t b H λh a=>∀x g,a x=R->a g=R->g≠x->
 sp (.ref x::(h++e)) (a8 (a8 a g (.own x)) x (.ins C g [])) (λv f=>v=.Yf/\Q (.ref x) f) E
def Binds(K:lD)(fd:Xf)(b:G Str)(ds:G B):Prop:=
 ∀(s:V7) (a:G B),K.In s.heap->(a++ds).length=b.length->aah s fd #[a,[]] (b.zip (a++ds))
theorem Binds.all{K:lD}{fd:Xf}{b:G Str}(h:∀us:G B,us.length=b.length->bindArgs fd #[us,[]]=pure (b.zip us)):Binds K fd b []:=λs us _ a=>by rw[WL]at a⊢;show .of_eq (h us a)
def dG(g:u6)(X:Cx)(E:XK):Prop:=∀(a:G (U×Obj)) (f:St) (H:Hp) (s:V7) (e:B) (b:V7),Inv X a f H s->g X.stack H s E e b->X.xe e b
section
variable{X:Cx}{U:u6}{k:Nat}{f C:V5}{fd:Xf}{ps:bg Str}{sp:Sp}{Y:bg V}{ds:bg Ld}{E:XK}{x m:Str}{p A Z:Pos}{e o:Ww}{es:bg Ww}{T:TE}{t:TA}
def ze{a:G (V5×Obj)}{g:St}{H:Hp}{s:V7}{Q:VK}{us:G B}{vs:G V}(F:FnOk X.prog X.w X.K X.mg X.base U k f fd ps sp)(n:X0 k X.A)(v:Binds X.K fd ps ds)(hd:Vals Y ds)(l:dG U X E)
  (I:Inv X a g H s) (r:Vals vs us) (h:sp (vs++Y) H Q E):wpAny (model X.prog X.w) X.A (call (.ref f) us) (EP X a g Q) X.xe s:=by
 let i:Vals (vs++Y) (us++ds):=r.append hd;let q:(us++ds).length=ps.length:=by rw[<-i.length];show F.len _ _ _ _ h
 show aai (aaj (F.run X.A X.stack s H #[us,[]] (us++ds) (vs++Y) Q E n I.afx (v s us I.kIn q) i h) λr j b=>?_);cases r with
 |error e=>show l a g H s e j I b
 |ok y=>
  cases y with
  |ret u=>show I.after b
  |next=>show False.elim b
  |brk=>show False.elim b
  |cont=>show False.elim b
def Bs(F:FnOk X.prog X.w X.K X.mg X.base U k f fd ps sp)(n:X0 k X.A)(v:Gl X x)(hm:X.mg x=M (.ref f))(u:XF X.K (.ref f)=P)(z:Binds X.K fd ps ds)(hd:Vals Y ds)(l:dG U X E)
  (c:PA X (e::es) t) (g:(x==("__debug__":Str))=V4:=by decide) (y:Wn (e::es) X.env=(V4,eval e X.env)::Wn es X.env:=by rfl) (b:(backTo A (Wn es X.env)).any (·.1)=V4:=by rfl):
  PE X (.Call (.Name x p) (e::es) [] A) (kF sp Y E t):=by
 intro a s j H Q I h;show YS (kO I v hm ?_ g);show aak I.ok.mod.kin u (bT (c A a s j H _ I h) λB G #[w,J,i,r,q]=>#[i.kIn,?_]) y b;show ze F n z hd l i r q
def MC{pl:Sem Bool}(L:PE X o T)(c:Cls X.K C)(hm:Meth X.K C m f)(F:FnOk X.prog X.w X.K X.mg X.base U k f fd ps sp)(J:X0 k X.A)(M:Binds X.K fd ps ds)(hd:Vals Y ds)(B:dG U X E)(d:PA X (e::es) t)
  (cV:Wn (e::es) X.env=(V4,eval e X.env)::Wn es X.env:=by rfl) (g:(backTo A (Wn es X.env)).any (·.1)=V4:=by rfl)
  (G:eval (.Call (.Attribute o m Z) (e::es) [] A) X.env=(do
   let ov<-eval o X.env
   standAt Z.atName
   let(f,first)<-holding [ov] (getMethod ov m pl)
   callWith A f first (backTo A (Wn (e::es) X.env)) (backToKw A (keywordEach [] X.env))):=by rfl):
  PE X (.Call (.Attribute o m Z) (e::es) [] A) (tZ C m sp Y E T t):=by
 intro b s i H Q I h;show ZO (pl:=pl) (bT (L b s i H _ I h) λu v a=>?_) G;let(x,w,n,y,a,dx,fs,N,O,l,q):=a;subst N;obtain rfl:u=Ld.ref a:=y;show qX n O c hm l ?_;show aak (first:=[.ref a]) (h₀:=X.base) I.ok.mod.kin hm.kp (bT (d A b v i w _ n q) λus R #[K,S,j,r,z]=>#[j.kIn,?_]) cV g;show ze (us:=.ref a::us) (vs:=.ref a::K) F J M hd B j (.cons W r) z
def Gw{pl:Sem Bool}(y:PE X o T)(c:Cls X.K C)(hm:Meth X.K C m f)(F:FnOk X.prog X.w X.K X.mg X.base U k f fd ps sp)(v:X0 k X.A)(z:Binds X.K fd ps ds)(hd:Vals Y ds)(n:dG U X E)
  (r:eval (.Call (.Attribute o m Z) [] [] A) X.env=(do
   let ov<-eval o X.env
   standAt Z.atName
   let(f,first)<-holding [ov] (getMethod ov m pl)
   callWith A f first (backTo A (Wn [] X.env)) (backToKw A (keywordEach [] X.env))):=by rfl):
  PE X (.Call (.Attribute o m Z) [] [] A) (tZ C m sp Y E T g6):=by
 intro b s i H Q I h;show ZO (pl:=pl) (bT (y b s i H _ I h) λu J a=>?_) r;let(x,L,g,j,a,K,fs,w,G,l,q):=a;subst w;obtain rfl:u=Ld.ref a:=j;show qX g G c hm l ?_;show PySem.W.callWith_K0 (first:=[.ref a]) g.kIn hm.kp (ze (us:=[.ref a]) (vs:=[.ref a]) F v z hd n g (.cons W .nil) q)
structure Mk(K:lD)(C f:V5):Prop where
 makes:aaP K C=P
 init:W0 K (.ref C) "__init__"=M (M (.ref f))
 fn:Yc K (.ref f)=P
 kp:XF K (.ref C)=P
def Ey(M:Mk X.K C f)(F:FnOk X.prog X.w X.K X.mg X.base U k f fd ps sp)(q:X0 (k+1) X.A)(z:Binds X.K fd ps ds)(hd:Vals Y ds)
  (n:dG U X E) (I:Inv X pins σ H s) (r:Vals vs us)
  (h:∀x c,H x=R->H c=R->c≠x->sp (.ref x::(vs++Y)) (a8 (a8 H c (.own x)) x (.ins C c [])) (λv d=>v=.Yf/\Q (.ref x) d) E):
  wpAny (model X.prog X.w) X.A (call (.ref C) us) (EP X pins σ Q) X.xe s:=by
 let i:=h (s.heap.objs.size+1) s.heap.objs.size (I.Xr.fresh (abe _)) (I.Xr.fresh (Wa _)) (Wz (Y1 _));let b:=Inv.made (C:=C) I;let g:Vals (V.ref (s.heap.objs.size+1)::(vs++Y)) (Ld.ref (s.heap.objs.size+1)::(us++ds)):=.cons W (r.append hd);let y:(Ld.ref (s.heap.objs.size+1)::us++ds).length=ps.length:=by let e:=g.length;rw[F.len _ _ _ _ i]at e;show e.symm
 show aai (Ei I.kIn M.makes M.init (beq_iff_eq.mp M.fn) (aaj (F.run _ X.stack _ _ #[Ld.ref (s.heap.objs.size+1)::us,[]] (Ld.ref (s.heap.objs.size+1)::(us++ds)) _ _ E (q.make C us [])
  (b.afx.make C us []) (z _ (Ld.ref (s.heap.objs.size+1)::us) b.kIn y) g i) λr j a=>?_))
 cases r with
 |error e=>show n pins σ _ _ e j b a
 |ok B=>
  cases B with
  |ret u=>let(v,J,G,w,ev,l):=b.after a;subst ev;show#[w,#[V.ref (s.heap.objs.size+1),J,G,W,l]]
  |next=>show False.elim a
  |brk=>show False.elim a
  |cont=>show False.elim a
def MD(M:Mk X.K C f)(F:FnOk X.prog X.w X.K X.mg X.base U k f fd ps sp)(n:X0 (k+1) X.A)(u:Gl X x)(hm:X.mg x=cL (.ref C))(y:Binds X.K fd ps ds)(hd:Vals Y ds)(l:dG U X E)
  (c:PA X (e::es) t) (g:(x==("__debug__":Str))=V4:=by decide) (v:Wn (e::es) X.env=(V4,eval e X.env)::Wn es X.env:=by rfl) (b:(backTo A (Wn es X.env)).any (·.1)=V4:=by rfl):
  PE X (.Call (.Name x p) (e::es) [] A) (wT C sp Y E t):=by
 intro a s j H Q I h;show YS (kO I u hm ?_ g);show aak I.ok.mod.kin M.kp (bT (c A a s j H _ I h) λz B #[w,G,i,r,q]=>#[i.kIn,?_]) v b;show Ey M F n y hd l i r q
end
section
variable{X:Cx}{Q:u6}{k:Nat}{f C:V5}{fd:Xf}{ps ks:bg Str}{O:Sp}{E:XK}{x m:Str}{p Y Z T:Pos}{e o:Ww}{es:bg Ww}{S:bg ZS}{N L:TE}{t J:TA}{H:b3 Str}
structure akx(K:lD)(fd:Xf)(ps ks:G Str)(g:G B->G B->G B)(gV:G V->G V->G V):Prop where
 to:∀(s:V7) (us ws:G B),K.In s.heap->(g us ws).length=ps.length->aah s fd #[us,ks.zip ws] (ps.zip (g us ws))
 rel:∀{vs:G V} {us:G B} {zs:G V} {ws:G B},Vals vs us->Vals zs ws->Vals (gV vs zs) (g us ws)
variable{g:bg Ld->bg Ld->bg Ld}{K:bg V->bg V->bg V}
end
structure Ye(N P:G Str)(sc:XS):Prop where
 kind:sc.kind=.function
 co:sc.isCoroutine=I
 gen:sc.isGenerator=I
 nd:N.Nodup
 pre:N.take P.length=P
 par:∀x∈P,sc.names.lookup x=M .local\/sc.names.lookup x=M .cell
 afv:∀y∈sc.names,y.2≠.free
theorem sZ{a:Str->z Wo}:∀{binds:G (Str×B)} {m:Str->z B},(∀v,(x,v)∉binds)->bindL a binds m x=m x
 |[],_,_=>rfl
 |(n,v)::r,m,h=>by
  ext bindL;rw[sZ λw b=>h w (Wf _ b)];split
  .let:x≠n:=by rintro rfl;show h v Wk
   simp[this]
  .rfl
theorem tV{a:Str->z Wo}:∀{binds:G (Str×B)} {m:Str->z B},(∀v,(x,v)∉binds)->bindC a binds m x=m x
 |[],_,_=>rfl
 |(n,v)::r,m,h=>by
  ext bindC;rw[tV λw b=>h w (Wf _ b)];split
  .rfl
  .let:x≠n:=by rintro rfl;show h v Wk
   simp[this]
theorem t9{kindOf:Str->z Wo}:∀{a:G Str} {b:G B} {i:Nat} {m:Str->z B},a.Nodup->a[i]?=M x->b[i]?=M v->kindOf x=M .local->
  bindL kindOf (a.zip b) m x=M v
 |[],_,_,_,_,h,_,_=>by simp at h
 |_::_,[],_,_,_,_,h,_=>by simp at h
 |p::a,w::b,0,m,nd,h1,e,f=>by simp at h1 e;subst h1;subst e;show bindL kindOf ((p,w)::a.zip b) m p=_;ext bindL;rw[sZ λv g=>(XI.mp nd).1 (Y7 g).1,ax f];simp
 |p::a,w::b,i+1,m,nd,h1,e,f=>by ext bindL;show t9 (XI.mp nd).2 (by simpa using h1) (by simpa using e) f
theorem tE{kindOf:Str->z Wo}:∀{a:G Str} {b:G B} {i:Nat} {m:Str->z B},a.Nodup->a[i]?=M x->b[i]?=M v->kindOf x≠M .local->
  bindC kindOf (a.zip b) m x=M v
 |[],_,_,_,_,h,_,_=>by simp at h
 |_::_,[],_,_,_,_,h,_=>by simp at h
 |p::a,w::b,0,m,nd,h1,e,f=>by simp at h1 e;subst h1;subst e;show bindC kindOf ((p,w)::a.zip b) m p=_;ext bindC;rw[tV λv g=>(XI.mp nd).1 (Y7 g).1,aE f];simp
 |p::a,w::b,i+1,m,nd,h1,e,f=>by ext bindC;show tE (XI.mp nd).2 (by simpa using h1) (by simpa using e) f
def start(N:G Str)(a:G V):St:=a.map M++Wd (N.length - a.length) R
def eF(i:u6)(P:Ws)(w:WO)(K:lD)(c:Str->z B)(base:Heap)(N:G Str)(b:Str)(a:XS)(f:U)(h:B)(A:WK)(outer:G Env)(s:V7)(H:Hp)(E:XK):Cx where
 prog:=P
 w:=w
 K:=K
 mg:=c
 base:=base
 A:=A.deeper (envOfC b a s.heap.objs.size f h)
 N:=N
 s₀:=s
 H₀:=H
 env:=envOfC b a s.heap.objs.size f h
 outer:=outer
 stack:=envOfC b a s.heap.objs.size f h::outer
 ex:=[]
 calm:=V0
 fn:=λ_=>V0
 pn:=[]
 xe:=λe j=>wpAny (model P w) (A.deeper (envOfC b a s.heap.objs.size f h)) (leaving (envOfC b a s.heap.objs.size f h) e) (λ_ g=>i outer H s E e g) (λl g=>i outer H s E l g) j
def wC{sc:XS}(h:sc.names.lookup x=M .cell):∃c,(X2 n sc.names []).lookup x=M c:=by let q:=YH sc.names n [] (.inl h);show XA.mp q
def B4{K:lD}
  (S:Ye N ps scope) (hd:A.handled=R) (e0:Env0 J w K mg base A outer s H) (G:vs.length=ps.length) (r:Vals vs us)
  (x:InCallC s s.heap.objs.size (bindL (envOfC qual scope s.heap.objs.size f cd).kindOf (ps.zip us) λ_=>R) (X2 (s.heap.objs.size+1) scope.names []) (bindC (envOfC qual scope s.heap.objs.size f cd).kindOf (ps.zip us) λ_=>R) s1):
  Inv (eF CX J w K mg base N qual scope f cd A outer s H E) [] (start N vs) H s1:=by
 let C:ps.length<=N.length:=by let:=eg aad S.pre;rw[XW]at this;ext
 let(o,F,rfl,B):=x.done;let j:∀b:U,b∉(eF CX J w K mg base N qual scope f cd A outer s H E).ex:=λb z=>a7 (show b∈([]:bg U)from z) (by simp);show#[#[e0.mod,S.kind,W,W,Wa _,λy z c o g=>?_,λy l=>?_,λy c _ h=>?_,λ_=>hd,WK.frames_deeper e0.frames,.inr #[W,W],λb z=>a7 z (j b),e0.bs,e0.bsz,λb _ _=>j b,λb z=>a7 z (j b),e0.aam,e0.frf],
  W,e0.bare,Un.kept B,#[_,x.toInCall.ns,λi y v o g I=>?_],λy c h=>#[_,x.cell y c h],e0.Xr.fresh (Wa _),λy c h=>?_,λp n=>a7 (show p∈([]:bg (U×Obj))from n) (by simp),e0.Xr.kept B,?_]
 .show name_of_addr x.apart (XM o) (XM g)
 .let l:=l
  rcases l with l|l
  .show wC l
  .show a7 W (S.afv _ (XM l))
 .show Zc (x.above y c (XM h))
 .let L:i<vs.length:=by
   unfold start at g;by_cases L:i<vs.length
   .show L
   .rw[WN (by simpa using L)]at g;rw[Ya]at g;split at g<;>ext g
  let Q:vs[i]?=M v:=by
   unfold start at g;rw[Wh (by simpa using L),Wg]at g;cases e:vs[i]? with
   |none=>rw[e]at g;ext g
   |some a=>rw[e]at g;ext g;rfl
  let(u,t,O):=r.get Q;let n:ps[i]?=M y:=by rw[<-S.pre,List.getElem?_take_of_lt ()];show o
  let m:ps.Nodup:=by rw[<-S.pre];show S.nd.sublist (List.take_sublist _ _)
  show#[u,O,?_];rcases S.par y (WG n)with k|k
  .show .inl #[k,t9 m n t k]
  .let(c,e):=wC k;show .inr #[.inl k,c,e,?_];let q:=x.cell y c e;rw[tE m n t (by show scope.names.lookup y≠_;rw[k];decide)]at q;show q
 .show e0.Xr.fresh (Zc (x.above y c (XM h)))
 .ext start;show _=N.length;rw[V8,V1,Xt];ext
def EZ{m:u6}{P:Ws}{w:WO}{K:lD}{l:Str->z B}{base:Heap}{k:Nat}{f:U}{name qual:Str}{params:Arguments}{body:G XY}{scope:XS}{O kV doc pm g ct Y:B}{an X:z U}
  {D:Array (z B)} {N j:G Str} {sp:Sp} (Z:K.lookup f=M #[Y,X,.func (Xw name qual params body scope O kV doc pm an g ct),D]) (F:Y9 K g qual=V0) (S:Ye N j scope)
  (len:∀c H Q E,sp c H Q E->c.length=j.length)
  (Y0:∀(A:WK) (outer:G Env) (s:V7) (H:Hp) (c:G V) (Q:VK) (E:XK),X0 k (A.deeper (envOfC qual scope s.heap.objs.size f g))->sp c H Q E->
   ∃t,PSs (eF m P w K l base N qual scope f g A outer s H E) body t/\t {nx:=λ_ d=>Q .Yf d,rt:=Q} (start N c) H):
  FnOk P w K l base m (k+1) f (Xw name qual params body scope O kV doc pm an g ct) j sp:=by
 show#[len,λA outer s H args us c Q E L e0 hb r i=>?_];let hl:=len _ _ _ _ i;let T:K.In s.heap:=e0.mod.kin.keeps λb o e=>(e0.bs b o e).1;let lim:s.heap.NoLimit:=e0.mod.nolimit.keeps λb o e=>(e0.bs b o e).1;let YZ:∀y∈j.zip us,scope.names.lookup y.1=M .local\/(scope.names.lookup y.1=M .cell/\((X2 (s.heap.objs.size+1) scope.names []).lookup y.1).isSome=V0):=λ#[n,v] hy=>by
  rcases S.par n (Y7 hy).1 with q|q
  .show .inl q
  .show .inr #[q,YH _ _ _ (.inl q)]
 show codeAny_call_function L.depth (T _ _ Z) W S.co S.gen W (PySem.W.codeRec_of T F) (hb _ _ _ _ ?_);show wpAny_newFunctionEnv_cells S.kind YZ λenv he s1 x=>?_;subst he;show#[lim.keeps x.toInCall.keep,codeAny_func ?_];let(t,ht,hq):=Y0 A outer s H c Q E (L.deeper _) i;let I:Inv (eF m P w K l base N qual scope f g A outer s H E) [] (start N c) H s1:=B4 S L.hd e0 hl r x;show wpAny_mono (ht [] s1 (start N c) H _ I hq) (λfl p h=>?_) λe p h=>h
 let fin:∀{a:St} {d:Hp} {v:V} {u:B},Inv (eF m P w K l base N qual scope f g A outer s H E) [] a d p->RelV v u->Q v d->CE outer P w H s Q u p:=
  λ{a d v u} J C q=>#[v,d,J.os,J.bare,J.base,J.Xr,C,q]
 cases fl with
 |ret u=>let(v,a,d,J,C,q):=h;show fin J C q
 |next=>let(a,d,J,q):=h;show fin (v:=V.Yf) (u:=Ld.none) J W q
 |brk=>let(_,_,_,q):=h;show False.elim q
 |cont=>let(_,_,_,q):=h;show False.elim q
section
variable{X:Cx}{x:Str}{p Z:Pos}{e:Ww}{es:bg Ww}{t:TA}{Y T:String}{r:bg V->Hp->VK->Prop}
def Ax(r:G V->Hp->VK->Prop)(t:TA):TE:=λa H Q=>t a H λf b=>r f b Q
def wB(u:Yg X (.builtin Y) r)(o:Gl X x)(hm:X.mg x=R)(n:Xa x=M (.builtin Y))(d:PA X (e::es) t)(c:x≠ "__name__":=by decide)(f:(x==("__debug__":Str))=V4:=by decide)
  (q:Wn (e::es) X.env=(V4,eval e X.env)::Wn es X.env:=by rfl) (b:(backTo Z (Wn es X.env)).any (·.1)=V4:=by rfl):PE X (.Call (.Name x p) (e::es) [] Z) (Ax r t):=by
 intro a s g H Q I h;show YS (oP I o hm n ?_ c f);show ahE (bT (d Z a s g H _ I h) λi j #[y,w,v,l,m]=>u a j g w y i Q v l m) q b
def CN(u:Yg X (.type T) r)(o:Gl X x)(hm:X.mg x=R)(n:Xa x=M (.type T))(d:PA X (e::es) t)(c:x≠ "__name__":=by decide)(f:(x==("__debug__":Str))=V4:=by decide)
  (q:Wn (e::es) X.env=(V4,eval e X.env)::Wn es X.env:=by rfl) (b:(backTo Z (Wn es X.env)).any (·.1)=V4:=by rfl):PE X (.Call (.Name x p) (e::es) [] Z) (Ax r t):=by
 intro a s g H Q I h;show YS (oP I o hm n ?_ c f);show YV (bT (d Z a s g H _ I h) λi j #[y,w,v,l,m]=>u a j g w y i Q v l m) q b
end
end L2
namespace HT
open PySem PyProof.Rows
section
open PySem.SeqAt
open PySem.AutoSeq1 (wpAny_loadPart')
open PySem.MeetsSeq PySem.MeetsSeq2 PySem.MeetsSeq3
end
section
variable{Z:Ws}{w:WO}{A:WK}{E:Ld->V7->Prop}{s:V7}
def cat_tup{t b:U}{c ws:G Ld}{Q:Ld->V7->Prop}(v:IsTup s.heap t c.toArray)(y:IsTup s.heap b ws.toArray)(q:c≠[])
  (B:ws=[]->Q (.ref t) s) (z:ws≠[]->Q (.ref s.heap.objs.size) {s with heap:=s.heap.push {cls:=.type "tuple",data:=.seq (c++ws).toArray}})
  (d:c.length+ws.length<=We):wpAny (model Z w) A (XJ .Add (.ref t) (.ref b)) Q E s:=by
 let((cls,dd,data,o),l,u,n,r):=id v;let((C,i,m,f),a,h,p,g):=id y;simp only at u r h g;subst u r h g;let e:c.toArray++ws.toArray=(c++ws).toArray:=by simp
 by_cases j:ws=[]
 .show concat_meets #[_,l,W] #[_,a,W] agF akX abF abu (abh _ _)
   (tuple_addW1 t b c.toArray ws.toArray n p dd i o f (by simpa using q) (by simp[j])) #[l,a,B j]
 .show concat_meets #[_,l,W] #[_,a,W] agF akX abF abu (abh _ _)
   (tuple_addW2 t b c.toArray ws.toArray n p dd i o f (by simpa using q) (by simpa using j) (by rw[Wt,Wt];show d)) #[l,a,?_]
  rw[e];show z j
end
end HT
namespace L2
open PySem PySem.Spec PyProof.Rows
def jz:∀{us:G B},Vals (ns.map V.int) us->IntsAre us ns:=by
 induction ns with
 |nil=>intro us r;rw[YK]at r;ext r;show .nil
 |cons n ns f=>
  intro us r;rw[Wl]at r;cases r with
  |cons b a=>let(t,e):=b;subst e;show .cons n t (f a)
section
variable{X:Cx}{e:Ww}{N:TE}{Z Y:b3 Ww}{L J:TO}{O S:Pos}
def U4(X:Cx)(r:V->z Int->z Int->Hp->VK->Prop):Prop:=
 ∀(a:G (U×Obj)) (s:V7) (b:St) (H:Hp) (x:V) (v g f:B) (Z Y:z Int) (h:U) (Q:VK),Inv X a b H s->RelV x v->s.heap.IsSliceOf h g f .none->IsPart g Z->IsPart f Y->r x Z Y H Q->
  ∃T id,typeLookup (.type T) "__getitem__"=pure (M (.builtin id))/\s.TypeIs v T/\wpAny (model X.prog X.w) X.A (getItem v (.ref h)) (EP X a b Q) X.xe s
def Nj(K:lD):R2:=λx y H Q=>∃a b xs ys,x=.ref a/\y=.ref b/\ZI K H a xs/\ZI K H b ys/\xs≠[]/\xs.length+ys.length<=We/\
 (ys=[]->Q (.ref a) H)/\(ys≠[]->∀p,H p=R->Q (.ref p) (a8 H p (.tup (xs++ys))))
def Vals.abN(r:Vals xs us):us=[]↔xs=[]:=by
 cases r with
 |nil=>simp
 |cons _ _=>simp
def LJ:OpR X (XJ .Add) (Nj X.K):=by intro i s B H x y v u Q I m l h;let(a,b,xs,C,rfl,rfl,K,t,r,j,o,n):=h;ext m;ext l;let(F,g,p,_):=I.tuple K;let(A,f,S,_):=I.tuple t;show HT.cat_tup p S (λz=>r (g.abN.mp z)) (λz=>#[.ref a,H,I,W,o (f.abN.mp z)]) (λz=>?_) (by rw[<-g.length,<-f.length];show j);show#[.ref s.heap.objs.size,_,I.laid (λb E q=>b4 _ q) (Wa _) ?_,W,n (λw=>z (f.abN.mpr w)) _ (I.Xr.fresh (Wa _))];show#[by rw[V8];show j,_,g.append f,aa8.new _ _]
end
def IJ(n:Nat)(i:Int):z Nat:=if 0<=i then(if i<n then M i.toNat else R)else if -(n:Int)<=i then M (i+n).toNat else R
def lz(xs:G α)(i:Int):z α:=(IJ xs.length i).bind λj=>xs[j]?
def KQ(h:IJ n i=M j):seqIndex? i n=M j/\j<n/\ -(n:Int)<=i/\i<n:=by
 unfold IJ at h;by_cases b:0<=i
 .rw[ax b]at h
  by_cases a:i<n
  .rw[ax a]at h;let e:=Wm h;show#[by rw[seqIndex_of b a,e],by ext,by ext,a]
  .rw[aE a]at h;ext h
 .rw[aE b]at h
  by_cases a: -(n:Int)<=i
  .rw[ax a]at h;let e:=Wm h;show#[by rw[seqIndex_neg () a,e],by ext,a,by ext]
  .rw[aE a]at h;ext h
def uS(h:lz xs i=M v):∃j,seqIndex? i xs.length=M j/\xs[j]?=M v/\j<xs.length/\ -(xs.length:Int)<=i/\i<xs.length:=by
 unfold lz at h;cases e:IJ xs.length i with
 |none=>rw[e]at h;ext h
 |some j=>rw[e]at h;let(g,f,b,a):=KQ e;show#[j,g,h,f,b,a]
def AL{j:Nat}(h:xs[j]?=M v):lz xs (j:Int)=M v:=by
 let a:=(V2.mp h).1;let e:IJ xs.length (j:Int)=M j:=by ext IJ;rw[ax (),ax ()];simp
 ext lz;rw[e];show h
def sr(xs:G α)(v:α):lz (xs++[v]) (-1)=M v:=by
 let a:(xs++[v]).length=xs.length+1:=by simp
 let e:IJ (xs++[v]).length (-1)=M xs.length:=by ext IJ;rw[a,aE (),ax ()];congr 1;ext
 ext lz;rw[e];simp
def AW(b:Ww):Prop:=∀o i,subscripted b I o i=operate [o,i] (getItem o i)
def IxR(X:Cx)(r:R2):Prop:=
 ∀(e a:Ww) (b:G (U×Obj)) (s:V7) (f:St) (H:Hp) (x y:V) (v u:B) (Q:VK),Inv X b f H s->RelV x v->RelV y u->r x y H Q->
  subscripted a I v u=operate [v,u] (getItem v u)->wpAny (model X.prog X.w) X.A (subscriptTail e a v u) (EP X b f Q) X.xe s
def QL(X:Cx)(id:String)(r:V->G V->Hp->VK->Prop):Prop:=
 ∀(a:G (U×Obj)) (s:V7) (b:St) (H:Hp) (x:V) (xs:G V) (v:B) (e:G B) (Q:VK),Inv X a b H s->RelV x v->Vals xs e->r x xs H Q->
  wpAny (model X.prog X.w) X.A (call (.builtin id) (v::e)) (EP X a b Q) X.xe s
section
variable{X:Cx}{a b:Ww}{ta tb:TE}{pos:Pos}
def IxR.or(h:IxR X r)(c:IxR X r'):IxR X (λx y H Q=>r x y H Q\/r' x y H Q):=by
 intro e f g s i H x y v u Q I l j q m;rcases q with q|q
 .show h e f g s i H x y v u Q I l j q m
 .show c e f g s i H x y v u Q I l j q m
def Nk{r:R2}(m:IxR X r)(c:PE X a ta)(n:PE X b tb)(l:AW b):PE X (.Subscript a b pos) (IC r ta tb):=by intro e s f H Q I h;show Subscript_ (N5 c n I h λv u g x y p o j i q=>m a b e g f p x y v u Q o j i q (l _ _))
def Si(K:lD):R2:=λx y H Q=>∃p xs i v,x=.ref p/\y=.int i/\ZV K H p xs/\lz xs i=M v/\Q v H
def Tu(K:lD):R2:=λx y H Q=>∃p xs i v,x=.ref p/\y=.int i/\ZI K H p xs/\lz xs i=M v/\Q v H
def RO:R2:=λx y H Q=>∃z i c,x=.str z/\y=.int i/\z.length<=We/\lz z.cps.toList i=M c/\Q (.str #[#v[c]]) H
def KA:IxR X (Si X.K):=by
 intro l m e s E H x y v u Q I G F h A;let(p,xs,i,z,rfl,rfl,J,M,q):=h;ext G;let(t,rfl):=F;let(R,r,pl,S):=I.list J;let(j,g,P,T,O,N):=uS M;let(w,C,n):=r.get P;let L:=r.length;let K:=wm;let f:EP X e E Q w s:=#[z,H,I,n,q];by_cases B:0<=i
 .let o:i.toNat=j:=by
   rw[seqIndex_of B N]at g;show Wm g
  show item_listR pl.isList B () (by rw[o];simpa using C) f A
 .let o:(i+(R.toArray.size:Int)).toNat=j:=by
   rw[seqIndex_neg () O]at g;rw[Wt,<-L];show Wm g
  show subscriptTail_builtinR pl.isList.typeIs slot_list_getitem.lookup
   (wpAny_getItem_list_neg pl.isList () (by rw[Wt]<;>ext) () (by rw[o];simpa using C) #[W,f]) A
def N7:IxR X (Tu X.K):=by
 intro f g e s n H x y v u Q I A o h B;let(p,xs,i,z,rfl,rfl,C,F,q):=h;ext A;let(t,rfl):=o;let(R,r,pl,M):=I.tuple C;let(j,J,G,P,O,N):=uS F;let(w,L,l):=r.get G;let E:=r.length;let K:=wm;let m:EP X e n Q w s:=#[z,H,I,l,q];show subscriptTail_builtinR pl.typeIs slot_tuple_getitem.lookup
  (getItem_tuple pl () () (by rw[Wt,<-E];show J) (by simpa using L) #[W,m]) B
def Qg:IxR X RO:=by
 intro e f g s C H x y v u Q I n m h o;let(z,i,c,rfl,rfl,F,r,q):=h;let(t,rfl):=n;let(E,rfl):=m;let(j,l,B,G,A,w):=uS r;let p:z.cps.toList.length=z.length:=by simp[Str.length]
 rw[p]at l A w;let J:=wm;show tail_any (typeIs_str s z t) slot_str_getitem.lookup (getItem_str (by let e1:decide (i< -(2^63:Int))=V4:=a5 ();let e2:decide (i≥2^63)=V4:=a5 ();rw[e1,e2,afo]) (by rw[l];simpa using B) #[.str #[#v[c]],H,I.tok _,#[_,W],q]) o
def Sf(K:lD):R2:=λx y H Q=>Si K x y H Q\/Tu K x y H Q\/RO x y H Q
theorem DE:IxR X (Sf X.K):=KA.or (N7.or Qg)
def Yg.or(h:Yg X f r)(c:Yg X f r'):Yg X f (λxs H Q=>r xs H Q\/r' xs H Q):=by
 intro e s g H xs i Q I j q;rcases q with q|q
 .show h e s g H xs i Q I j q
 .show c e s g H xs i Q I j q
def we:Yg X (.type "list") (λxs H Q=>∃p ys,xs=[.ref p]/\(ZV X.K H p ys\/ZI X.K H p ys)/\∀l,H l=R->Q (.ref l) (a8 H l (.lst ys))):=by
 intro m s F H xs J Q I r h;let(p,ys,rfl,y,q):=h;let(u,rfl,G):=jE r;ext G
 let A:∀(g:bg Ld),Vals ys g->ys.length<=We->∀(f:Heap) (j:Nat),(∀b w,s.heap.get? b=M w->f.get? b=M w)->
   f.get? s.heap.objs.size=M {cls:=.type "list",dict:=R,data:=.seq g.toArray j,slots:= #v[]}->EP X m F Q (.ref s.heap.objs.size) {s with heap:=f}:=λg i v f j t e=>
  #[.ref s.heap.objs.size,_,I.laid t (Wa _) (show ObjOk X.prog X.w _ f _ (.lst ys)from#[v,g,j,i,e]),W,q _ (I.Xr.fresh (Wa _))]
 rcases y with y|y
 .let(g,i,pl,v):=I.list y;let z:=i.length;let(o,B,E,n,C):=pl.isList;show akY p (.inl W) B E C (λf j t e=>A g i v f j t e) (by simp only[Wt]<;>ext)
 .let(g,i,pl,v):=I.tuple y;let z:=i.length;let(o,B,E,n,C):=pl;show akY p (.inr W) B E C (λf j t e=>A g i v f j t e) (by simp only[Wt]<;>ext)
def sN:Yg X (.type "tuple") (λxs H Q=>∃p ys,xs=[.ref p]/\((ZV X.K H p ys/\∀l,H l=R->Q (.ref l) (a8 H l (.tup ys)))\/(ZI X.K H p ys/\Q (.ref p) H))):=by
 intro i s B H xs C Q I r h;let(p,ys,rfl,h):=h;let(u,rfl,v):=jE r;ext v;rcases h with⟨g,q⟩|⟨g,q⟩
 .let(n,f,pl,j):=I.list g
  let m:=f.length;show call_tuple_list pl.isList (λz y=>?_) (by simp only[Wt]<;>ext);let t:=I.kept (t':=s.toks) y
  let A:=
   t.laid (t':=s.toks) (λb o e=>b4 _ e) (Wa _) (show ObjOk X.prog X.w _ _ _ (.tup ys)from#[j,n,f,aa8.new _ _])
  show#[.ref z.objs.size,_,A,W,q _ (t.Xr.fresh (Wa _))]
 .let(n,f,pl,j):=I.tuple g;show call_tuple_same pl #[.ref p,H,I,W,q]
def Uk(K:lD)(T:String)(x:V)(H:Hp):Prop:=match x with
 |.str _=>T= "str"
 |.int _=>T= "int"
 |.ref p=>(T= "list"/\∃xs,ZV K H p xs)\/(T= "tuple"/\∃o,K.lookup p=M o/\o.cls=.type "tuple"/\o.dict=R)\/
   (T= "dict"/\((∃e,H p=M (.dK e))\/∃e,H p=M (.dT e)))\/(T= "set"/\∃S n,H p=M (.set S n))
 |_=>False
def Ec(I:Inv X pins σ H s)(r:RelV x v)(ty:Uk X.K T x H):
  s.TypeIs v T/\∀a,v=.ref a->∃d,s.heap.get? a=M d/\d.dict=R:=by
 cases x with
 |str z=>let(t,rfl):=r;cases(show T= "str" from ty);show#[typeIs_str s z t,λ_ e=>nomatch e]
 |int i=>let(t,rfl):=r;cases(show T= "int" from ty);show#[aa2 s i t,λ_ e=>nomatch e]
 |ref p=>
  ext r;rcases ty with⟨rfl,xs,j⟩|⟨rfl,o,f,l,h⟩|⟨rfl,f⟩|⟨rfl,S,n,f⟩
  .let(m,_,pl,_):=I.list j;show#[pl.isList.typeIs,λa e=>?_];ext e;let(o,n,e,c,h,_):=pl;show#[o,e,h]
  .show#[#[o,I.kIn p o f,l],λa e=>?_];ext e;show#[o,I.kIn _ o f,h]
  .let z:∃o,s.heap.get? p=M o/\o.ExactDict:=by
    rcases f with⟨q,f⟩|⟨q,f⟩
    .let(_,_,_,_,o,_,_,e,g,_):=I.Xr p _ f;show#[o,e,g]
    .let(_,_,_,_,o,_,_,e,g,_):=I.Xr p _ f;show#[o,e,g]
   let(o,e,g):=z;show#[#[o,e,g.1],λa e2=>?_];ext e2;show#[o,e,g.2.1]
  .let(o,_,_,_,e,g,_):=I.Xr p _ f;show#[#[o,e,g.1],λa e2=>?_];ext e2;show#[o,e,g.2.1]
 |_=>show False.elim ty
def Ti(K:lD)(T:String)(r:V->G V->Hp->VK->Prop)(to:TE):TE:=λf H Q=>to f H λx e=>Uk K T x e/\r x [] e Q
def Ol(K:lD)(T:String)(r:V->G V->Hp->VK->Prop)(to:TE)(t:TA):TE:=λe H Q=>to e H λx f=>Uk K T x f/\t e f λxs g=>r x xs g Q
variable{o e:Ww}{es:bg Ww}{to:TE}{t:TA}{S:Str}{Z Y:Pos}{T U:String}{r:V->bg V->Hp->VK->Prop}
def Od(c:PlainAttrs T)(slot:Slot T S U)(g:typeOf (.builtin U)=pure (.type "method_descriptor"))(hm:QL X U r)(u:PE X o to)
  (j:attributeBase o S X.env (eval o X.env)=eval o X.env:=by rfl) (i:(Z.endLine==Y.line)=P:=by rfl):PE X (.Call (.Attribute o S Z) [] [] Y) (Ti X.K T r to):=by
 intro f s l H Q I h;show wpAny_Call_method0_late j i (bT (u f s l H _ I h) λv p a=>?_);let(x,z,n,m,ty,q):=a;let(y,w):=Ec n m ty;show#[T,U,c,slot,g,y,w,Calls.callWith_builtin W (PySem.evalArgs_none (hm f p l z x [] v [] Q n m .nil q))]
def Nc(c:PlainAttrs T)(slot:Slot T S U)(i:typeOf (.builtin U)=pure (.type "method_descriptor"))(hm:QL X U r)(F:PE X o to)(d:PA X (e::es) t)
  (n:attributeBase o S X.env (eval o X.env)=eval o X.env:=by rfl)
  (j:((backTo Y (Wn (e::es) X.env)).all (λx=> !x.1)&&(backToKw Y (keywordEach [] X.env)).all (λx=>x.1.isSome)
   &&decide ((e::es).length+([]:bg ZS).length+(if([]:bg ZS).isEmpty then 0 else 1)<30))=P:=by rfl)
  (l:(Z.endLine==Y.line)=P:=by rfl) (E:Wn (e::es) X.env=(V4,eval e X.env)::Wn es X.env:=by rfl) (m:(backTo Y (Wn es X.env)).any (·.1)=V4:=by rfl):
  PE X (.Call (.Attribute o S Z) (e::es) [] Y) (Ol X.K T r to t):=by
 intro f s g H Q I h;show wpAny_Call_method_late n j l W (bT (F f s g H _ I h) λv z a=>?_);let(x,N,u,p,ty,C):=a;let(J,G):=Ec u p ty;show#[T,U,c,slot,i,J,G,?_];let q:=d Y f z g N _ u C;rw[E]at q⊢;show Calls.callWith_builtin (by show(V4||(backTo Y (Wn es X.env)).any (·.1))=V4;rw[m]<;>rfl) (Calls.evalArgs_plain ?_);show bT q λw y #[vs,O,L,A,K]=>hm f y g O x vs v w Q L p A K
end
def VF(X:Cx)(id:String)(r:V->G V->Hp->VK->Prop):Prop:=
 ∀(a:G (U×Obj)) (s:V7) (b:St) (H:Hp) (x:V) (xs:G V) (v:B) (e:G B) (Q:VK),Inv X a b H s->RelV x v->Vals xs e->r x xs H Q->
  wpAny (model X.prog X.w) X.A (call (.builtin id) (v::e)) (EP X a b Q) X.xe s
theorem Vals.one:∀{x:V} {us:G B},Vals [x] us->∃u,us=[u]/\RelV x u
 |_,_,.cons r .nil=>#[_,W,r]
theorem Vals.rep(h:Vals xs us):∀k:Nat,Vals (Wd k xs).flatten (Wd k us).flatten
 |0=>.nil
 |k+1=>by rw[Xl,Xl,X5,X5];show Vals.append h (Vals.rep h k)
theorem oM(a:G B):∀(k:Nat) (acc:G B),
  ZT (λc b=>c++b) acc.toArray (Wd k a.toArray)=(acc++(Wd k a).flatten).toArray
 |0,acc=>by simp
 |k+1,acc=>by
  let e:acc.toArray++a.toArray=(acc++a).toArray:=by simp
  let e2:(acc++a)++(Wd k a).flatten=acc++(Wd (k+1) a).flatten:=by rw[Xl,X5,Wy]
  rw[<-e2,<-oM a k (acc++a),<-e,Xl,ZX]
section
variable{X:Cx}{Z:bg (V5×Obj)}{Y:St}{H:Hp}{s:V7}{l b:V5}{T U S:bg V}
def Inv.ajJ{g a:G B}(I:Inv X Z Y H s)(o:H l=M (.lst T))
  (e:s.heap.get? l=M {cls:=.type "list",data:=.seq g.toArray n}) (j:f g.toArray=a.toArray) (h:Vals U a) (c:U.length<=We):
  Inv X Z Y (a8 H l (.lst U)) {s with heap:=s.heap.update l (Obj.mapSeq f),toks:=t'}:=by
 let q:=amR e f;rw[j]at q;show I.write (by rw[o];show trivial) (.inl W) (λp u m i=>(cn s.heap (Obj.mapSeq f) (d0 m)).trans i) #[_,q] ?_;show#[c,a,_,h,q]
theorem Inv.agR(I:Inv X Z Y H s)(a:Vals U W3)(c:U.length<=We):
  Inv X Z Y (a8 H s.heap.objs.size (.lst U)) {s with heap:=s.heap.push {cls:=.type "list",data:=.seq W3.toArray},toks:=t'}:=
 I.laid (λ_ _ q=>b4 _ q) (Wa _) #[c,W3,0,a,ck _ W]
theorem Inv.fresh(I:Inv X Z Y H s):H s.heap.objs.size=R:=I.Xr.fresh (Wa _)
def Inv.aha(I:Inv X Z Y H s)(f:H l=M (.lst T)):T.length<=We/\∃(a:G B) (n:Nat),Vals T a/\T.length=a.length/\s.heap.get? l=M {cls:=.type "list",data:=.seq a.toArray n}:=by let(z,a,n,r,e):=I.Xr l _ f;show#[z,a,n,r,r.length,e]
def Ht(h:n<=We):Xe.List.listTooLong n=I:=by ext Xe.List.listTooLong;show a5 ()
end
section
variable{X:Cx}
def vG:V->G V->Hp->VK->Prop:=λx a H Q=>∃l xs y,x=.ref l/\a=[y]/\H l=M (.lst xs)/\xs.length<We/\Q .Yf (a8 H l (.lst (xs++[y])))
def nX:VF X "list.append" vG:=by intro a s j H x w v m Q I f t h;let(l,xs,y,rfl,rfl,b,o,q):=h;ext f;let(u,rfl,g):=t.one;let(z,i,n,r,p,e):=I.aha b;show ZE F.slot_list_append #[_,e,W] F.entry_list_append (F.args_list_append_2 _ _) (PySem.list_append l i.toArray n u (by rw[Wt];ext)) #[e,?_];show#[.Yf,_,I.ajJ b e (by simp) (r.append (.cons g .nil)) ?_,W,q];rw[V8,Z5];ext
def Bk(xs:G α)(k:Nat):(Wd k xs).flatten.length=k*xs.length:=by
 induction k with
 |zero=>simp
 |succ k a=>rw[Xl,X5,V8,a,agG,aaQ]
end
section
variable{Z:Ws}{w:WO}{A:WK}{E:Ld->V7->Prop}{s:V7}
set_option maxRecDepth 100000 in
end
end L2
namespace Att
open PySem PySem.W PySem.Calls PyProof.Rows
def pp:∀(ns:G Int) (c:G B),WellAll f h c (ns.map WData.int)->IntsAre c ns:=by
 intro ns
 induction ns with
 |nil=>intro c w;rw[YK]at w;ext w;show .nil
 |cons n ns e=>
  intro c w;rw[Wl]at w;cases w with
  |cons a b=>ext a;show .cons _ _ (e _ b)
def Cu{l:OpenLaw}(k:l.most=M n)
  (e:l.row.toRowW.claim.pre args=V0) (i:WellAll A h vals args):
  ∃a c ns,vals=[Ld.ref a]/\args=[WData.list (ns.map WData.int)]/\h.get? a=M {cls:=.type "list",data:=.seq c.toArray}/\IntsAre c ns/\ns.length<=n:=by
 let j:=(pre_splitW e).1;let o:l.pre.holds [] {args:=args}=V0:=(pre_splitW e).2;let(d,r,rfl,z,y):=hasAllW_cons j;obtain rfl:=hasAllW_nil y;let(xs,rfl,w):=hasW_list z;let(ns,rfl):=items_int w;let b:ns.length<=n:=by
  unfold OpenLaw.pre at o;let g:(WTm.not (.lt (.lit (.int (n:Int))) (.len (.arg 0)))).holds [] {args:=[.list (ns.map .int)]}=V0:=by let g:=(holds_andW o).1;rw[k]at g;show g
  let f:=condW_of g (w_not (w_lt w_lit (w_len_list (w_arg W))));rw[V1]at f;show Nat.le_of_not_lt λq=>?_;let u:(n:Int)<((ns.length:Nat):Int):=by ext
  first
   |(rw[a4 u]at f;show a7 f ())
   |(simp at f;ext)
 cases i with
 |cons t p=>
  ext p;cases t with
  |list v m=>show#[_,_,ns,W,W,v,pp ns _ m,b]
theorem B7(l:OpenLaw)(args:G WData):l.row.toRowW.claim.post args (.bool P) args=P:=
 postW_of
  (show WShape.has [] (.bool P) .bool=P by first|rfl|decide|simp[WShape.has,WShape.arms,WShape.armsAll])
  (show(WTm.eq .res (.lit (.bool P))).value [] {args:=args,res:=M (.bool P),after:=args}=M (.bool (P==P))from w_eq_bool (w_res W) w_lit) W
def attach_call{l:OpenLaw}{n:Nat}{q:Ws}{e:bg Str}{H:(Str->b3 Ld)->Heap->Prop}{F:WO->Heap->Prop}{d:DefRec}
  (T:l.most=cL n) (v:d.params.defaults=[])
  (call:∀(w:WO) (c b:V7) (D p:Str->b3 Ld) (s:U) (o:Obj) (m j h:Ld) (a:U) (k:bg Ld) (ns:bg Int),
   Ground q e [] H w c D p b.heap->F w b.heap->
   b.heap.get? s=cL o->o.data=.func (docDef d.name d.params d.body d.scope m j h)->b.heap.CodeRec j d.name->D d.name=cL (.ref s)->
   b.heap.get? a=cL {cls:=.type "list",data:=.seq k.toArray}->IntsAre k ns->ns.length<=n->b.gens= #v[]->
   codeAny (model l.prog w) callerA (.call (.ref s) #[[.ref a],[]]) (λr x=>r=.ok (.ret (.bool V0))/\OldK b.heap x.heap/\x.os=b.os/\AllBare x.gens) b):
  WalkO q e H F l.row.toRowW d [] (λf k=>agH f k):=by
 intro w c b D p G Y s o m j h R kV K N y C u M E B as A S I t L;obtain rfl:R=.none:=Dflts.none C v;obtain rfl:kV=.none:=Dflts.noKw C;let(a,k,ns,rfl,rfl,z,g,i):=Cu T A t;show enter_call (aaj (call w c b D p s o m j h a k ns G Y K (fd_plain N) y u z g i M) λr x J=>?_);let(rfl,Q,P,O):=J;show#[.inl #[.bool V0,.bool V0,[],W,λ_=>W,.bool V0,B7 l _,λ_=>#[ZY,λ_ hm=>(nomatch hm)]],Q,P,O]
end Att
namespace L2
open PySem PySem.Spec PyProof.Rows
theorem jd:∀{a:G B} {ns:G Int},IntsAre a ns->Vals (ns.map V.int) a
 |_,_,.nil=>.nil
 |_,_,.cons n t h=>.cons #[t,W] (jd h)
def SC(H:Hp):Prop:=∀b,H b=R\/∃o xs,H b=M (.frz o (.lst xs))
def GH{P:Ws}{w:WO}{K:lD}{mg C:Str->b3 Ld}{U:u6}{k:Nat}{fa a:V5}{fd:Xf}{x:Str}{sp:Sp}{f:V7}{D:bg Ld}{ns:bg Int}
  (T:K.In f.heap) (p:f.heap.Ns Wr mg) (g:f.heap.Ns builtinsNs C) (G:∀x:Str,x≠ "__name__"->C x=Xa x) (N:f.heap.NoLimit) (hg:f.gens= #v[])
  (ha:f.heap.get? a=cL {cls:=.type "list",data:=.seq D.toArray}) (hi:IntsAre D ns) (Q:ns.length<=We) (hr:X0 k callerA)
  (F:∀base:Heap,K.In base->base.Ns Wr mg->FnOk P w K mg base U k fa fd [x] sp) (O:∀(s:V7) (u:Ld),aah s fd #[[u],[]] [(x,u)])
  (E:∀H:Hp,SC H->ZV K H a (ns.map V.int)->sp [.ref a] H (λv _=>v=.bl V0) λ_ _ _=>False)
  (I:∀H e c,U [] H f (λ_ _ _=>False) e c->False):
  codeAny (model P w) callerA (.call (.ref fa) #[[.ref a],[]]) (λr c=>r=.ok (.ret (.bool V0))/\OldK f.heap c.heap/\c.os=f.os/\AllBare c.gens) f:=by
 let rv:=jd hi;let M:=hi.length
 let j:∀H:Hp,SC H->ZV K H a (ns.map V.int)->Z9 P w H f.heap->(∀b,H b≠VY->b=a)->(H a≠VY->K.lookup a=VY)->
   codeAny (model P w) callerA (.call (.ref fa) #[[.ref a],[]]) (λr c=>r=.ok (.ret (.bool V0))/\OldK f.heap c.heap/\c.os=f.os/\AllBare c.gens) f:=by
  intro H R hS Xr S hK;let fQ:∀{b:V5} {o:Obj},f.heap.get? b=cL o->H b=VY->(wb f.heap H).get? b=cL o:=λe n=>Gv e n;let B:∀{b:V5} {o:Obj} {es:Array YW} {y:Nat},f.heap.get? b=cL o->o.data=.dict es y->H b=VY:=λ{b o es y} e d=>by
   cases q:H b with
   |none=>rfl
   |some u=>let J:b=a:=S b (by rw[q];simp);subst J;rw[ha]at e;ext e;let d':Data.seq D.toArray _=Data.dict es y:=d;ext d'
  let i:∀{b:V5} {m:Str->b3 Ld},f.heap.Ns b m->(wb f.heap H).Ns b m:=λ{b m} #[o,es,y,e,d,r]=>#[o,es,y,fQ e (B e d),d,r];let t:K.In (wb f.heap H):=λb o e=>fQ (T b o e) (by
   cases q:H b with
   |none=>rfl
   |some u=>let J:b=a:=S b (by rw[q];simp);subst J;rw[hK (by rw[q];simp)]at e;ext e)
  let hM:Mod K mg (wb f.heap H):=#[t,i p,#[C,i g,G],let#[mc,h1,h2]:=N;#[mc,i h1,h2]];let e0:Env0 P w K mg (wb f.heap H) callerA [] f H:=#[W,hM,λb o e=>JN e,YR (Dm _ _),trivial,λb g=>a7 (show b∈([]:bg V5)from g) (by simp),Xr,.of_eq hg];show aaj ((F _ t (i p)).run callerA [] f H #[[.ref a],[]] [.ref a] [.ref a] _ _ hr e0 (O f (.ref a)) (.cons W .nil) (E H R hS)) λr c h=>?_;cases r with
  |error e=>show(I H e c h).elim
  |ok fl=>
   cases fl with
   |next=>show False.elim h
   |brk=>show False.elim h
   |cont=>show False.elim h
   |ret u=>
    let(v,H',os,A,un,L,Y,q):=h;let Z:v=.bl V0:=q;subst Z;obtain rfl:u=Ld.bool V0:=Y;show#[W,OldK.of_keep λb o e=>?_,os,A];cases q:H b with
    |none=>show un.keep b o e q (by intro z;show a7 (show b∈([]:bg V5)from z) (by simp)) (by simp)
    |some u=>
     rcases R b with z|⟨ob,xs,z⟩
     .rw[q]at z;ext z
     .let X:=un.aaX b ob _ z;let(e1,_):=Xr b _ z;let(e2,_):=L b _ X;rw[e]at e1;ext e1;show e2
 cases hk:K.lookup a with
 |some o=>let e:=T a o hk;rw[ha]at e;ext e;show j (λ_=>VY) (λ_=>.inl W) (.inr #[_,D.toArray,_,hk,W,W,W,by rw[Wt,M];show Q,by simpa using rv]) (λb u z=>by let l:(VY:b3 HO)=cL u:=z;ext l) (λb z=>a7 W z) λz=>a7 W z
 |none=>
  show j (λb=>if b=a then cL (.frz {cls:=.type "list",data:=.seq D.toArray} (.lst (ns.map V.int)))else VY) (λb=>?_) (.inl (.inr #[{cls:=.type "list",data:=.seq D.toArray},ax W])) (λb u z=>?_) (λb z=>?_) λ_=>hk
  .by_cases g:b=a
   .show .inr #[_,_,ax g]
   .show .inl (aE g)
  .by_cases g:b=a
   .let l:=(ax g).symm.trans z;ext l;subst g;show#[ha,by rw[V1];show Q,D,_,rv,ha]
   .let l:=(aE g).symm.trans z;ext l
  .by_cases g:b=a
   .show g
   .show a7 (aE g) z
def aO(s:XY)(j:Nat):XY:=match s with
 |.ClassDef _ _ _ body _ _ _ _ _ _ _=>body.getD j (.Pass #[0,0,0,0])
 |_=>.Pass #[0,0,0,0]
def fh(s:XY):Arguments:=match s with
 |.FunctionDef _ a _ _ _ _ _ _ _ _=>a
 |_=>{posonlyargs:=[],args:=[],vararg:=R,kwonlyargs:=[],kw_defaults:=[],kwarg:=R,defaults:=[]}
def bO(s:XY):G XY:=match s with
 |.FunctionDef _ _ b _ _ _ _ _ _ _=>b
 |_=>[]
def au(s:XY):XS:=match s with
 |.FunctionDef _ _ _ _ _ _ sc _ _ _=>sc
 |_=>{kind:=.function,names:=[],isGenerator:=I,isCoroutine:=I}
abbrev lu:u6:=λ_ _ _ _ _ _=>False
abbrev E0:XK:=λ_ _ _=>False
theorem Er:dG lu X E0:=λ_ _ _ _ _ _ _ h=>h.elim
structure Fun(K:lD)(x qual:Str)(st:XY)(f:U)(fd:Xf):Prop where
 ex:∃(oc:B) (od:z U) (kV doc pm:B) (an:z U) (XZ ct:B) (osl:Array (z B)),
  fd=Xw x qual (fh st) (bO st) (au st) .none kV doc pm an XZ ct/\K.lookup f=M #[oc,od,.func fd,osl]/\Y9 K XZ qual=P
 kp:XF K (.ref f)=P
section
variable{P:Ws}{w:WO}{K:lD}{Z:Str->b3 Ld}{base:Heap}
def Fun.ok{x a:Str}{b:XY}{f:U}{fd:Xf}{N d:G Str}{k:Nat}{sp:Sp}(F:Fun K x a b f fd)(S:Ye N d (au b))(len:∀c H Q E,sp c H Q E->c.length=d.length)
  (o:∀(e:B) (A:WK) (outer:G Env) (s:V7) (H:Hp) (c:G V) (Q:VK) (E:XK),X0 k (A.deeper (envOfC a (au b) s.heap.objs.size f e))->sp c H Q E->
   ∃t,PSs (eF lu P w K Z base N a (au b) f e A outer s H E).nox (bO b) t/\t {nx:=λ_ y=>Q .Yf y,rt:=Q} (start N c) H):FnOk P w K Z base lu (k+1) f fd d sp:=by
 let(u,r,kV,n,p,v,e,ct,j,rfl,l,i):=F.ex;show EZ l i S len λA outer s H c Q E m g=>?_;let(t,h,q):=o e A outer s H c Q E m g;show#[t,h.nox,q]
def Fun.binds{x a:Str}{e:XY}{f:U}{fd:Xf}{ps:G Str}(F:Fun K x a e f fd)
  (h:∀(kV b g:B) (i:z U) (j ct:B) (us:G B),us.length=ps.length->bindArgs (Xw x a (fh e) (bO e) (au e) .none kV b g i j ct) #[us,[]]=pure (ps.zip us)):Binds K fd ps []:=by
 let(o,n,kV,b,g,i,j,ct,l,rfl,p,m):=F.ex;show .all (h kV b g i j ct)
theorem DM{a:XY}{kV b g e ct:B}(l:K.lookup f=M #[J,C,.func (Xw x qual (fh a) (bO a) (au a) .none kV b g an e ct),o])
  (c:Y9 K e qual=V0) (k:XF K (.ref f)=V0):Fun K x qual a f (Xw x qual (fh a) (bO a) (au a) .none kV b g an e ct):=#[#[J,C,kV,b,g,an,e,ct,o,W,l,c],k]
end
theorem D0(a:X0 k A):A.units+1<cLine:=aaG (Nat.add_le_add_left (by decide:1<=64) _) a.units
section
variable{X:Cx}
theorem pv(i:Nat)(e:X.N[i]?=M x:=by rfl)(b:TK X.env.scope x:=by first|show Or.inl W|show Or.inr (Or.inl W)|show Or.inr (Or.inr W))(hd:(x==("__debug__":Str))=I:=by decide)
  (a:(x==("__classdict__":Str))=I:=by decide):PE X (.Name x pos) (pQ i):=D1 e b hd a
end
def XQ(H a:Hp):Prop:=∀b o,H b=M o->a b=M o
theorem XQ.refl(H:Hp):XQ H H:=λ_ _ h=>h
theorem XQ.trans(a:XQ H H1)(b:XQ H1 H2):XQ H H2:=λc o h=>b c o (a c o h)
def XQ.free(e:XQ H H')(h:H' l=R):H l=R:=by
 cases q:H l with
 |none=>rfl
 |some o=>rw[e l o q]at h;ext h
end L2
set_option maxHeartbeats 4000000
namespace L2
open PySem PySem.Spec PyProof.Rows
section
variable{X:Cx}{Z:bg (V5×Obj)}{T:St}{H:Hp}{s:V7}{Y:Heap}
def Inv.acW{ch:G U}(I:Inv X Z T H s)(i:∀b∈ch,ox X Z H b)
  (k:∀b u,b∉ch->s.heap.get? b=M u->Y.get? b=M u) (l:s.heap.objs.size<=p)
  (new:ObjOk X.prog X.w (a8 H p o) Y p o):Inv X Z T (a8 H p o) {s with heap:=Y,toks:=t'}:=by
 let w:=I.Xr.fresh l;let f:∀b u,H b=M u->b∉ch:=λb u e z=>by rw[(i b z).1]at e;ext e
 let h:∀b u,s.heap.get? b=M u->b≠p:=λb u e=>Wz (Wx (cj e) l);show I.step (λb g=>?_) (λb u _ _ a e _=>k b u a e) (λb u _ _ a e _=>#[u.slots,k b u a e])
  (λb u _ e n=>by rw[aw (h b u e)];show n) (λb u a e=>#[u,k b u a e]) (λb xs e=>by rw[aw (bE e w)];show e)
  (λb u xs e=>by rw[aw (bE e w)];show e) (λb J e=>#[#v[],by rw[aw (bE e w),e];simp]) (λm hm=>?_) (λb u e=>?_) I.bare
 .let(_,C,_,B,A,y):=i b g;show#[B,C,A,y]
 .let(j,es,E,t,r):=hm;show#[j,es,E,k _ j (λz=>(i _ z).2.1 W) t,r]
 .by_cases g:b=p
  .subst g;rw[aI]at e;ext e;show new
  .rw[aw g]at e
   show(I.Xr b u e).Zw (λc v a q=>k c v ?_ q) (λc q=>by rw[aw (bE q w)];show q) λc xs q=>by rw[aw (bE q w)];show q
   rcases a with z|z
   .rw[z];show f b u e
   .show f c _ z
end
mutual
inductive DV(K:lD)(H:Hp):V->V3->Prop
 |Yf:DV K H .Yf .none
 |bl (b:Bool):DV K H (.bl b) (.bool b)
 |int (i:Int):DV K H (.int i) (.int i)
 |str (x:Str):DV K H (.str x) (.str x)
 |tup {a:V5} {xs:bg V} {ds:bg V3}:ZI K H a xs->XU K H xs ds->DV K H (.ref a) (.tuple ds)
 |lst {a:V5} {xs:bg V} {ds:bg V3}:ZV K H a xs->XU K H xs ds->DV K H (.ref a) (.list ds)
inductive XU(K:lD)(H:Hp):bg V->bg V3->Prop
 |nil:XU K H [] []
 |cons {v:V} {vs:bg V} {d:V3} {ds:bg V3}:DV K H v d->XU K H vs ds->XU K H (v::vs) (d::ds)
end
section
variable{X:Cx}{Z:bg (V5×Obj)}{σ:St}{H:Hp}{s:V7}
mutual
theorem DV.reads(I:Inv X Z σ H s):∀{v:V} {d:V3} {u:Ld},DV X.K H v d->RelV v u->∃as,acE s.heap u d as
 |_,_,_,.Yf,r=>by cases r;exact⟨_,.none⟩
 |_,_,_,.bl b,r=>by cases r;exact⟨_,.bool b⟩
 |_,_,_,.int i,r=>by obtain⟨t,rfl⟩:=r;exact⟨_,.int i t⟩
 |_,_,_,.str x,r=>by obtain⟨t,rfl⟩:=r;exact⟨_,.str x t⟩
 |_,_,_,.tup h hs,r=>by cases r;obtain⟨a,rv,⟨o,e,c,n,d⟩,_⟩:=I.tuple h;obtain⟨as,q⟩:=XU.reads I hs rv;exact⟨_,.tuple e c d (by simpa using q)⟩
 |_,_,_,.lst h hs,r=>by cases r;obtain⟨a,rv,⟨o,n,e,c,_,d⟩,_⟩:=I.list h;obtain⟨as,q⟩:=XU.reads I hs rv;exact⟨_,.list e c d (by simpa using q)⟩
theorem XU.reads(I:Inv X Z σ H s):∀{vs:bg V} {ds:bg V3} {us:bg Ld},XU X.K H vs ds->Vals vs us->∃as,aaH s.heap us ds as
 |_,_,_,.nil,r=>by cases r;exact⟨_,.nil⟩
 |_,_,_,.cons h hs,r=>by
  cases r with
  |cons b a=>obtain⟨as,q⟩:=DV.reads I h b;obtain⟨bs,e⟩:=XU.reads I hs a;exact⟨_,.cons q e⟩
end
end
def J7(K:lD)(neg:Bool):R2:=λx y H Q=>∃a b,DV K H x a/\DV K H y b/\a.canLay0=P/\b.canLay0=P/\a.depth<=64/\Q (.bl (if neg then !V3.eqv a b else V3.eqv a b)) H
section
variable{X:Cx}
def Ou(o:X.A.units+64<cLine):OpR X (Xs .Eq) (J7 X.K V4):=by intro a s n H x y v u Q I e b h;let(t,r,m,l,j,i,p,q):=h;let(as,g):=m.reads I e;let(bs,f):=l.reads I b;show aiR g f j i () #[.bl _,H,I,W,q]
def Ox(o:X.A.units+64<cLine):OpR X (Xs .NotEq) (J7 X.K P):=by intro a s n H x y v u Q I e b h;let(t,r,m,l,j,i,p,q):=h;let(as,g):=m.reads I e;let(bs,f):=l.reads I b;show aiS g f j i () #[.bl _,H,I,W,q]
theorem E4:OpR X (XJ .FloorDiv) (rI (λ_ j=>0<j/\j.natAbs.log2<9000) λi j=>.int (i/j)):=Ry λi j _ _ _ _ _ a q=>by let b:(0:Int)<j:=a.1;show floordiv_int () (by rw[abD i ()];show q) (.inl (PyProof.noPylong_of_log2 a.2))
end
def gp(env:Env):G (Str×Wo)->G (Str×U)->G (Str×U)
 |[],acc=>acc
 |(n,k)::r,acc=>if(k==Wo.free)=P then(match env.cells.lookup n with|some c=>gp env r ((n,c)::acc)|none=>gp env r acc)else gp env r acc
theorem l8{f:Str×Wo->G (Str×U)->Sem (ForInStep (G (Str×U)))}
  (g:∀n k acc,(k==Wo.free)=I->f (n,k) acc=pure (.yield acc)) (b:∀n c acc,env.cells.lookup n=M c->f (n,.free) acc=pure (.yield ((n,c)::acc))):
  ∀(names:G (Str×Wo)) (acc:G (Str×U)),(∀y∈names,y.2=.free->∃c,env.cells.lookup y.1=M c)->forIn names acc f=pure (gp env names acc)
 |[],acc,_=>rfl
 |(n,k)::r,acc,h=>by
  let i:=λy l=>h y (Wf _ l);rw[ZZ];cases m:(k==Wo.free)with
  |false=>rw[g n k acc m,pure_bind];show forIn r acc f=_;rw[l8 g b r acc i];simp only[gp,m,YF,if_false]
  |true=>
   let e:k=.free:=by simpa using m
   subst e;let(c,j):=h _ Wk W;rw[b n c acc j,pure_bind];show forIn r ((n,c)::acc) f=_;rw[l8 g b r _ i];let a:=j;simp only[gp,m,if_true,a]
def mj(h:∀y∈scope.names,y.2=.free->∃c,env.cells.lookup y.1=M c):closureFor scope env=pure (gp env scope.names []):=by simp only[closureFor];rw[l8 (λn k a b=>by simp only[b,YF,if_false]) (λn c a e=>by simp only[eh,if_true,cellOf,e,pure_bind]) scope.names [] h,pure_bind]
theorem j8:∀(names:G (Str×Wo)) (acc:G (Str×U)),(∀x c,acc.lookup x=M c->env.cells.lookup x=M c)->∀x c,(gp env names acc).lookup x=M c->env.cells.lookup x=M c
 |[],_,h,x,c,e=>h x c e
 |(n,k)::r,acc,h,x,c,e=>by
  unfold gp at e;split at e
  .split at e
   .rename_i f a
    show j8 r _ (λy d q=>?_) x c e;rw[WY]at q;split at q
    .rename_i b;ext q;rw[eq_of_beq b];show a
    .show h y d q
   .show j8 r acc h x c e
  .show j8 r acc h x c e
theorem kY:∀(names:G (Str×Wo)) (acc:G (Str×U)) (x:Str),(acc.lookup x).isSome=P->((gp env names acc).lookup x).isSome=P
 |[],_,_,h=>h
 |(n,k)::r,acc,x,h=>by
  ext gp;split
  .split
   .show kY r _ x ?_
    rw[WY];split
    .rfl
    .show h
   .show kY r acc x h
  .show kY r acc x h
theorem nG:∀(names:G (Str×Wo)) (acc:G (Str×U)) (x:Str) (c:U),(x,Wo.free)∈names->env.cells.lookup x=M c->((gp env names acc).lookup x).isSome=P
 |[],_,_,_,h,_=>by ext h
 |(n,k)::r,acc,x,c,h,a=>by
  rcases WE.mp h with z|h
  .ext z;simp only[gp,eh,if_true,a];show kY r _ _ (by simp[WY])
  .ext gp
   split
   .split
    .show nG r _ x c h a
    .show nG r acc x c h a
   .show nG r acc x c h a
def wI(h:(x,Wo.free)∈names)(a:env.cells.lookup x=M c):(gp env names []).lookup x=M c:=by
 let q:=nG names [] x c h a;cases e:(gp env names []).lookup x with
 |none=>rw[e]at q;ext q
 |some d=>let z:=j8 names [] (λy d q=>by ext q) x d e;rw[a]at z;show z.symm
def wN{env:Env}{a:XS}{x:Str}{k:Wo}(h:(relabel a env).names.lookup x=M k):∃c,(x,c)∈a.names/\(k=c\/(c=.free/\k=.cell)):=by
 let((n,c),hm,e):=WH.mp (XM h);simp only at e;split at e
 .rename_i b
  ext e;let f:(c==Wo.free)=P:=by rw[VZ,VZ]at b;show b.1.1
  show#[c,hm,.inr #[by simpa using f,W]]
 .ext e;show#[_,hm,.inl W]
theorem jy{env:Env}:∀{names:G (Str×Wo)} {x:Str},names.lookup x=M .free->
  (names.map λ(n,k)=>if(k==Wo.free&&env.scope.kind==.function&&env.kindOf n==M .cell)then(n,Wo.cell)else(n,k)).lookup x=M .cell\/
  (names.map λ(n,k)=>if(k==Wo.free&&env.scope.kind==.function&&env.kindOf n==M .cell)then(n,Wo.cell)else(n,k)).lookup x=M .free
 |[],_,h=>by ext h
 |(n,k)::r,x,h=>by
  rw[WY]at h;rw[Wl];dsimp only;by_cases a:(k==Wo.free&&env.scope.kind==.function&&env.kindOf n==M .cell)=P
  .rw[ax a,WY]
   cases b:x==n with
   |true=>show .inl W
   |false=>rw[b]at h;show jy h
  .rw[aE a,WY]
   cases b:x==n with
   |true=>rw[b]at h;show .inr h
   |false=>rw[b]at h;show jy h
def cG(own:G Str)(a:G (Str×Nat)):G Str:=own++a.map (·.1)
def iS(own:G Str)(b:G (Str×Nat))(a:St):St:=own.map (λ_=>R)++b.map λp=>(a[p.2]?).join
def abr(X:Cx)(a:XS):G (Str×Nat)->Prop
 |[]=>True
 |p::r=>(X.N[p.2]?=M p.1/\a.names.lookup p.1=M .free/\(X.env.scope.names.lookup p.1=M .cell\/X.env.scope.names.lookup p.1=M .free))/\abr X a r
theorem abr.mem:∀{a:G (Str×Nat)},abr X scope a->∀p∈a,X.N[p.2]?=M p.1/\scope.names.lookup p.1=M .free/\(X.env.scope.names.lookup p.1=M .cell\/X.env.scope.names.lookup p.1=M .free)
 |[],_,p,b=>by ext b
 |q::r,h,p,b=>by
  rcases WE.mp b with z|b
  .rw[z];show h.1
  .show h.2.mem p b
def vv(X:Cx)(a:XS)(C:U):G (Str×U):=X2 (C+1) a.names (gp X.env a.names [])
theorem rX:∀(names:G (Str×Wo)) (n:Nat) (acc:G (Str×U)) (x:Str) (c:U),(X2 n names acc).lookup x=M c->(n<=c/\(x,Wo.cell)∈names)\/acc.lookup x=M c
 |[],_,_,_,_,h=>.inr h
 |(y,k)::r,n,acc,x,c,h=>by
  unfold X2 at h;by_cases b:(k==Wo.cell)=P
  .rw[ax b]at h
   let e:k=.cell:=by simpa using b
   rcases rX r _ _ x c h with⟨a,f⟩|a
   .show .inl #[Zx a,Wf _ f]
   .rw[WY]at a
    split at a
    .rename_i g;ext a;show .inl #[Wa _,by rw[eq_of_beq g,e];show Wk]
    .show .inr a
  .rw[aE b]at h
   rcases rX r _ _ x c h with⟨a,f⟩|a
   .show .inl #[a,Wf _ f]
   .show .inr a
theorem F0:∀(names:G (Str×Wo)) (n:Nat) (acc:G (Str×U)) (x:Str),(x,Wo.cell)∉names->(X2 n names acc).lookup x=acc.lookup x
 |[],_,_,_,_=>rfl
 |(y,k)::r,n,acc,x,h=>by
  let b:=λz=>h (Wf _ z);ext X2;by_cases a:(k==Wo.cell)=P
  .let e:k=.cell:=by simpa using a
   rw[ax a,F0 r _ _ x b,WY];let f:(x==y)=I:=by show beq_eq_false_iff_ne.mpr λz=>h ?_;rw[z,e];show Wk
   rw[f]
  .rw[aE a];show F0 r _ _ x b
theorem sG:∀(names:G (Str×Wo)) (h:Heap) (acc:G (Str×U)) (x:Str) (c:U),(X2 h.objs.size names acc).lookup x=M c->(h.objs.size<=c/\(pushCells h names).IsCell c R)\/acc.lookup x=M c
 |[],_,_,_,_,e=>.inr e
 |(y,k)::r,h,acc,x,c,e=>by
  unfold X2 at e;ext pushCells;by_cases b:(k==Wo.cell)=P
  .rw[ax b]at e⊢
   rw[<-da h {cls:=.type "cell",data:=.cell R}]at e;rcases sG r _ _ x c e with⟨a,f⟩|a
   .rw[da]at a;show .inl #[Zx a,f]
   .rw[WY]at a
    split at a
    .ext a;show .inl #[Wa _,_,ab6 _ _ _ _ (ck _ W),W]
    .show .inr a
  .rw[aE b]at e⊢;show sG r _ _ x c e
theorem zN:∀(names:G (Str×Wo)) (n:Nat) (acc:G (Str×U)),(∀x c,acc.lookup x=M c->c<n)->(∀x y c,acc.lookup x=M c->acc.lookup y=M c->x=y)->∀x y c,(X2 n names acc).lookup x=M c->(X2 n names acc).lookup y=M c->x=y
 |[],_,_,_,i,x,y,c,e1,e2=>i x y c e1 e2
 |(z,k)::r,n,acc,h1,i,x,y,c,e1,e2=>by
  unfold X2 at e1 e2;by_cases g:(k==Wo.cell)=P
  .rw[ax g]at e1 e2
   show zN r (n+1) ((z,n)::acc) (λa d q=>?_) (λa b d f e=>?_) x y c e1 e2
   .rw[WY]at q
    split at q
    .ext q;show Y1 _
    .show Zy (h1 a d q)
   .rw[WY]at f e
    split at f
    .rename_i j
     split at e
     .rename_i h;rw[eq_of_beq j,eq_of_beq h]
     .ext f;show a7 (h1 b _ e) (Xk _)
    .split at e
     .ext e;show a7 (h1 a _ f) (Xk _)
     .show i a b d f e
  .rw[aE g]at e1 e2;show zN r n acc h1 i x y c e1 e2
theorem yp:∀{names:G (Str×Wo)} {x:Str} {k a:Wo},(names.map (·.1)).Nodup->names.lookup x=M k->(x,a)∈names->k=a
 |[],_,_,_,_,h,_=>by ext h
 |(y,j)::r,x,k,a,f,h,hm=>by
  rw[Wl,XI]at f;rw[WY]at h;rcases WE.mp hm with e|b
  .ext e;rw[eh]at h;show(Wm h).symm
  .cases g:x==y with
   |true=>rw[eq_of_beq g]at b;show a7 (WH.mpr #[_,b,W]) f.1
   |false=>rw[g]at h;show yp f.2 h b
def bq(X:Cx)(s:V7)(H:Hp)(a:XS)(C:U)(N:G Str)(b:G U):Cx:=
 {X with N:=N,s₀:=s,H₀:=H,env:=compEnvC a (vv X a C) C X.env,outer:=X.stack,stack:=X.stack,ex:=b,fn:=λx=>((gp X.env a.names []).lookup x).isNone,pn:=[],xe:=λ_ _=>False}
section
variable{X:Cx}{Z:bg (V5×Obj)}{Y:St}{H:Hp}{s:V7}
def tH{a:XS}(I:Inv X Z Y H s)(e:(gp X.env a.names []).lookup x=M c):X.env.cells.lookup x=M c/\c<s.heap.objs.size:=by let h:=j8 _ _ (λ_ _ q=>by ext q) x c e;let(v,o,z,_):=I.cell x c h;show#[h,cj z]
theorem AN(I:Inv X Z Y H s)(M:scope.kind=.function)(n:(scope.names.map (·.1)).Nodup)
  (v:∀y∈scope.names,y.2=.free->∃c,X.env.cells.lookup y.1=cL c) (g:s.heap.objs.size<=C) (j:∀b∈fp,ox X Z H b) (f:∀b∈fp,b<s.heap.objs.size):(bq X s H scope C N fp).Ok where
 mod:=I.ok.mod
 kind:=M
 glob:=I.ok.glob
 blt:=I.ok.blt
 above:=g
 inj:=zN _ _ _ (λx c e=>Zy (Wx (tH I e).2 g)) λx y c B A=>I.ok.inj x y c (tH I B).1 (tH I A).1
 has:=λx G=>by
  let m:∃k,(relabel scope X.env).names.lookup x=cL k/\(k=.cell\/k=.free):=by
   rcases G with z|z
   .show#[_,z,.inl W]
   .show#[_,z,.inr W]
  let(k,K,t):=m;let(E,hm,u):=wN K;let e:E=.free\/E=.cell:=by
   rcases u with z|⟨z,_⟩
   .subst z
    rcases t with z|z
    .show .inr z
    .show .inl z
   .show .inl z
  let q:((vv X scope C).lookup x).isSome=P:=by
   rcases e with e|e
   .subst e;let(c,L):=v _ hm W;show YH _ _ _ (.inr (by rw[wI hm L];rfl))
   .subst e
    show YH _ _ _ (.inl ?_);cases z:scope.names.lookup x with
    |none=>show a7 hm (λhm=>by
      let:∀{l:bg (Str×Wo)},l.lookup x=R->(x,Wo.cell)∉l:=λ{l}=>by
       induction l with
       |nil=>show λ_=>by simp
       |cons p r F=>
        intro h q;rw[WY]at h;rcases WE.mp q with q|q
        .rw[<-q,eh]at h;ext h
        .split at h
         .ext h
         .show F h q
      show this z hm)
    |some O=>rw[yp n z hm]
  show XA.mp q
 cab:=λx c B A=>by
  let i:((gp X.env scope.names []).lookup x).isNone=P:=B;let w:=A;rcases rX _ _ _ x c w with⟨z,_⟩|z
  .show WU g (Zx z)
  .rw[z]at i;ext i
 hd:=I.ok.hd
 frames:=I.ok.frames
 stk:=.inl W
 exf:=λb a=>#[Wz (Wx (f b a) g),λx c e=>by
  rcases rX _ _ _ x c e with⟨z,_⟩|z
  .show Xn (Wx (Wx (f b a) g) (Zx z))
  .show(j b a).2.2.2.2.1 x c (tH I z).1]
 bs:=I.bs
 bsz:=WU I.ok.bsz I.sz
 ach:=λb o e a=>by
  rcases(j b a).2.2.2.1 with z|z
  .show I.ok.ach b o e z
  .show a7 (Wx (cj e) (WU I.ok.bsz z)) (Xk _)
 acd:=λb a J=>by
  rcases WE.mp (I.aan b J)with z|z
  .show(j b a).2.1 z
  .show(j b a).2.2.1 z
 aam:=I.stack
 frf:=I.aaC
def HU(I:Inv X Z Y H s)(YZ:scope.kind=.function)(d:(scope.names.map (·.1)).Nodup)
  (O:∀y∈scope.names,y.2=.free->∃c,X.env.cells.lookup y.1=M c) (N:abr X scope J) (E:s.heap.objs.size<=D) (j:D<C) (T:s.heap.objs.size<=C) (hf:∀b∈fp,ox X Z H b) (Q:∀b∈fp,b<s.heap.objs.size)
  (L:h1.Ns C m) (F:∀x c,(vv X scope C).lookup x=M c->C<c->∃v,h1.IsCell c v) (w:∀b o,s.heap.get? b=M o->h1.get? b=M o) (hd:∃n,h1.get? D=M {cls:=.type "list",data:=.seq #v[] n}):
  Inv (bq X s H scope C (cG own J) fp) [] (iS own J Y) (a8 H D (.lst [])) {s with heap:=h1,toks:=t1}:=by
 let hn:=I.Xr.fresh E;let(n,hd):=hd;let S:=Xn j;let h:∀x c,(vv X scope C).lookup x=M c->C<c\/(X.env.cells.lookup x=M c/\c<s.heap.objs.size):=λx c e=>by
  rcases rX _ _ _ x c e with⟨z,_⟩|z
  .show .inl z
  .show .inr (tH I z)
 show#[AN I YZ d O T hf Q,W,I.bare,Un.laid w E hn,#[m,L,λi x v e1 e2 e3=>?_],λx c e=>?_,?_,λx c e=>?_,λp hp=>a7 (show p∈([]:G (U×Obj))from hp) (by simp),?_,?_]
 .
  let f:(own++J.map (·.1))[i]?=M x:=e1;let a:(own.map (λ_=>(R:b3 V))++J.map λp=>(Y[p.2]?).join)[i]?=M (M v):=e2;let A:own.length<=i:=by
   by_cases A:i<own.length
   .rw[Wh (by simpa using A),Wg]at a
    cases q:own[i]? with
    |none=>rw[q]at a;ext a
    |some _=>rw[q]at a;ext a
   .omega
  rw[WN A,Wg]at f;rw[WN (by simpa using A),Wg,V1]at a;cases q:J[i - own.length]? with
  |none=>rw[q]at f;ext f
  |some p=>
   rw[q]at f a;let ex:=Wm f;subst ex;let ev:(Y[p.2]?).join=M v:=Wm a;let(g1,g2,g3):=N.mem p (WG q);let ev2:Y[p.2]?=M (M v):=by
    cases z:Y[p.2]? with
    |none=>rw[z]at ev;ext ev
    |some y=>rw[z]at ev;show eg M ev
   let(m0,_,hl):=I.loc;let(u,r,l):=hl p.2 p.1 v g1 ev2 (.inr g3);show#[u,r,?_];let l2:∃c,X.env.cells.lookup p.1=M c/\s.heap.IsCell c (M u):=by
    rcases l with⟨k,_⟩|⟨_,c,e,z⟩
    .let t:X.env.scope.names.lookup p.1=M .local:=k
     rcases g3 with z|z
     .rw[z]at t;ext t
     .rw[z]at t;ext t
    .show#[c,e,z]
   let(c,e,o,K,g):=l2;show .inr #[?_,c,?_,o,w c o K,g]
   .show jy g2
   .show(vv X scope C).lookup p.1=M c;ext vv;rw[F0 _ _ _ _ λz=>by cases yp d g2 z];show wI (XM g2) e
 .rcases h x c e with z|⟨z,_⟩
  .show F x c e z
  .let(v,o,K,g):=I.cell x c z;show#[v,o,w c o K,g]
 .show a8 H D (.lst []) C=R;rw[aw S];show I.Xr.fresh T
 .show a8 H D (.lst []) c=R
  rcases h x c e with z|⟨z1,z2⟩
  .rw[aw (Xn (YT j z))];show I.Xr.fresh (WU T (Zc z))
  .rw[aw (Wz (Wx z2 E))];show I.Y6 x c z1
 .show I.Xr.laid w E #[by show 0<=We;show W8 _,[],n,.nil,hd]
 .show(own.map (λ_=>(R:b3 V))++J.map λp=>(Y[p.2]?).join).length=(own++J.map (·.1)).length;simp
end
def xu(X:Cx)(e:G Ww)(t:TT):Prop:=
 ∀(a:G (U×Obj)) (s:V7) (b:St) (H:Hp) (Q:Bool->Hp->Prop),Inv X a b H s->t b H Q->
  wpAny (model X.prog X.w) X.A (forIn e P λc r=>if r=P then do let ok<-isTrue c X.env (eval c X.env);pure (ForInStep.yield ok)else pure (ForInStep.yield r)) (TP X a b Q) X.xe s
def GS:TT:=λ_ H Q=>Q P H
theorem x8:xu X [] GS:=λ_ _ _ H _ I h=>wpAny_tests_nil #[H,I,h]
theorem He(h:PT X c o):xu X [c] o:=λa s b H Q I e=>wpAny_tests_one (h a s b H Q I e)
def El(J:It)(D:U)(e:St)(g:TG)(j:TT)(c:TE)(n:Hp)(Fin:Hp->Prop):Prop:=
 ∃W:Nat->Nat->St->Hp->Prop,(∃m,W 0 m e (a8 n D (.lst [])))/\∀i m σ H,W i m σ H->
  (J.stop i H/\Fin H)\/(J.go i H/\∃N:St->Hp->Prop,(∀o p,N o p->∃q,q<m/\W (i+1) q o p)/\
   ∀x p,J.yld i H x p->g x σ p λa l=>j a l λb h=>if b=P then c a h λy f=>∃ys,f D=M (.lst ys)/\ys.length<We/\N a (a8 f D (.lst (ys++[y])))else N a h)
section
variable{Y:Ws}{w:WO}{A:WK}{s:V7}
def Ci{i o f:Ww}{g:bg Ww}{b:XS}{j:Pos}{p acc:Ld}{env:Env}{R:abE->V7->Prop}{XE:Ld->V7->Prop}(C:∀x s1,XE x s1->notedBy (model Y w) A env (λe s2=>R (.error e) s2) x s1)(I:Nat->V7->Prop)
  (turn:∀n s,I n s->wpAny (model Y w) A (pyNext p) (λr s1=>match r with
   |none=>R (.ok .next) s1
   |some v=>wpAny (model Y w) A (letOwnedTupleGo o p v) (λ_ s2=>wpAny (model Y w) A (assign o env v) (λ_ s3=>
     wpAny (model Y w) A (forIn g P λc r=>if r=P then do let ok<-isTrue c env (eval c env);pure (ForInStep.yield ok)else pure (ForInStep.yield r)) (λok s4=>
      if ok=P then wpAny (model Y w) A (eval i env) (λx s5=>
       wpAny (model Y w) A (call (.builtin "list.append") [acc,x]) (λ_ d=>∃m,m<n/\I m d) (λ_ _=>False) s5) XE s4
      else∃m,m<n/\I m s4) (λ_ _=>False) s3) (λ_ _=>False) s2) (λ_ _=>False) s1) (λ_ _=>False) s)
  (n:Nat) (h:I n s):codeAny (model Y w) A (.compLoop (.ListComp i [#[o,f,g,0]] b j) 0 p acc env) R s:=by
 show codeAny_loop W I (λn s F=>?_) n h;show wpAny _ A (Sem.onRaise (compTurn (.ListComp i [#[o,f,g,0]] b j) 0 p acc env) (λx=>do noteFrame x env;theTreesLotGoes x)) _ _ s;show wpAny_noted ?_;rw[compTurn_list]
 let l:∀{α:Type} {t:Sem α} {Q B:α->V7->Prop} {E:Ld->V7->Prop} {s:V7},wpAny (model Y w) A t Q (λ_ _=>False) s->(∀a K,Q a K->B a K)->wpAny (model Y w) A t B E s:=
  λq u=>wpAny_mono q u λ_ _ z=>False.elim z
 show CL (Yd (CL (l (turn n s F) λr s1 q=>?_)));cases r with
 |none=>show Wb q
 |some v=>
  show CL (l q λ_ s2 u=>CL (l u λ_ s3 J=>CL (l J λok s4 y=>?_)));cases ok with
  |false=>show Wb #[W,y]
  |true=>show CL (CL (wpAny_mono y (λx s5 H=>CL (l H λ_ d G=>Wb (Wb #[W,G]))) C))
end
section
variable{X:Cx}{Z:bg (V5×Obj)}{Y:St}{H:Hp}{s:V7}
def vi
  (h:Q (newEnv scope s.heap.objs.size globals (X2 (s.heap.objs.size+1) scope.names closure) qual R .none (cL env) builtinsNs) {s with heap:=pushCells (s.heap.push {cls:=.type "dict",data:=.dict #v[]}) scope.names}):
  wpAny f A (newFunctionEnv scope globals closure [] qual R .none (cL env)) Q E s:=by
 simp only[newFunctionEnv,ac5,if_true];show CL (wpAny_alloc ?_);show CL (wpAny_layCells _ (λe a b=>by cases g:a==Wo.cell<;>simp[g]) _ _ _ _ ?_);rw[show({s with heap:=s.heap.push {cls:=.type "dict",data:=.dict #v[]}}:V7).heap.objs.size=s.heap.objs.size+1 from da ..];rw[abv];show CL (Wb (Wb h))
def lV{P tg q:Ww}{F:bg Ww}{scope:XS}{pos:Pos}{own:bg Str}{h:bg (Str×Nat)}{g:TG}{tc:TT}{te:TE}{E:Ld->V7->Prop}{it:V5}{k:bg V5}{tn:Nat->Heap->Prop}{J:It}{Fin:V5->Hp->Prop}
  {RR:Ld->V5->abE->V7->Prop} (I:Inv X Z Y H s) (hc:X.calm=V0) (YZ:scope.kind=.function) (hnd:(scope.names.map (·.1)).Nodup) (hfr:∀y∈scope.names,y.2=.free->∃c,X.env.cells.lookup y.1=cL c) (hfv:abr X scope h)
  (T:Turn X.prog X.w X.K tg J k it tn) (st:tn 0 s.heap) (L:∀b∈k,ox X Z H b)
  (hg:∀C,PG (bq X s H scope C (cG own h) k) tg g) (ht:∀C,xu (bq X s H scope C (cG own h) k) F tc) {W:V5->Ld->V7->Prop} (he:∀C,PE ((bq X s H scope C (cG own h) k).ZH (W C)) P te) (hEE:∀D C x s1,s.heap.objs.size<=C->W C x s1->notedBy (model X.prog X.w) X.A (compEnvC scope (vv X scope C) C X.env) (λe s2=>RR (.ref D) C (.error e) s2) x s1)
  (hR:∀D,H D=VY->El J D (iS own h Y) g tc te H (Fin D))
  (hRR:∀D C V s',Inv X Z Y V s'->Fin D V->(∃m,s'.heap.Ns C m)->s.heap.objs.size<=C->V C=VY->RR (.ref D) C (.ok .next) s'):
  wpAny (model X.prog X.w) X.A (newList []) (λacc s3=>wpAny (model X.prog X.w) X.A (newFunctionEnv scope X.env.globals (gp X.env scope.names []) [] X.env.qual VY .none (cL X.env)) (λacT s4=>
   codeAny (model X.prog X.w) X.A (.compStart (.ListComp P [#[tg,q,F,0]] scope pos) 0 (.ref it) acc {acT with scope:=relabel scope X.env}) (RR acc acT.locals) s4) E s3) E s:=by
 show XT ?_;generalize hH2:s.heap.push {cls:=.type "list",dict:=VY,data:=.seq ([]:bg Ld).toArray}=h2;let hz:h2.objs.size=s.heap.objs.size+1:=by rw[<-hH2,da]
 show vi (s:={s with heap:=h2}) ?_;let M:s.heap.objs.size<h2.objs.size:=by rw[hz];show Y1 _
 let hC:s.heap.objs.size<=h2.objs.size:=Zc M;generalize hH1:pushCells (h2.push {cls:=.type "dict",data:=.dict #v[]}) scope.names=h1;let kp2:∀b o,h2.get? b=cL o->h1.get? b=cL o:=λb o e=>by rw[<-hH1];show ab6 _ _ b o (b4 _ e)
 let kp:∀b o,s.heap.get? b=cL o->h1.get? b=cL o:=λb o e=>kp2 b o (by rw[<-hH2];show b4 _ e);let hns:h1.Ns h2.objs.size (λ_=>VY):=by rw[<-hH1];show(Heap.Ns.new h2 (.type "dict")).keeps (ab6 _ _)
 let hoc:∀x c,(vv X scope h2.objs.size).lookup x=cL c->h2.objs.size<c->∃v,h1.IsCell c v:=λx c e Zo=>by
  let e':(X2 (h2.push {cls:=.type "dict",data:=.dict #v[]}).objs.size scope.names (gp X.env scope.names [])).lookup x=cL c:=by rw[da];show e
  rcases sG _ _ _ x c e' with⟨_,z⟩|z
  .show#[VY,by rw[<-hH1];show z]
  .show a7 (YT (tH I z).2 (YT M Zo)) (Xk _)
 let hd:∃n,h1.get? s.heap.objs.size=cL {cls:=.type "list",data:=.seq #v[] n}:=#[0,kp2 _ _ (by rw[<-hH2];show ck _ rfl)];let G:∀b∈k,b<s.heap.objs.size:=λb f=>by let(o,e,_):=T.obj 0 _ st b f;show cj e
 let hn:H s.heap.objs.size=VY:=I.Xr.fresh (Wa _);let(W,(m0,w0),turn):=hR s.heap.objs.size hn;let O:∀{pl:bg (V5×Obj)} {V:Hp},(∀b∈k,V b=VY)->(∀p∈pl,p.1∉k)->∀b∈k,ox (bq X s H scope h2.objs.size (cG own h) k) pl V b:=λ{pl V} hn' hpl b f=>by let ok:=AN (C:=h2.objs.size) (N:=cG own h) I YZ hnd hfr hC L G;show#[hn' b f,(ok.exf b f).1,ok.acd b f,.inl f,(ok.exf b f).2,λp hp=>by let hp':p∈([]:bg (V5×Obj))++pl:=hp;intro z;show hpl p (by simpa using hp') (by rw[z];show f)]
 let l:∀s4:V7,s4={s with heap:=h1}->
   codeAny (model X.prog X.w) X.A (.compLoop (.ListComp P [#[tg,q,F,0]] scope pos) 0 (.ref it) (.ref s.heap.objs.size) (compEnvC scope (vv X scope h2.objs.size) h2.objs.size X.env)) (RR (.ref s.heap.objs.size) h2.objs.size) s4:=by
  rintro s4 rfl
  let I0:Inv (bq X s H scope h2.objs.size (cG own h) k) [] (iS own h Y) (a8 H s.heap.objs.size (.lst [])) {s with heap:=h1}:=
   HU I YZ hnd hfr hfv (Wa _) M hC L G hns hoc kp hd
  let st0:tn 0 h1:=T.keep 0 _ _ st λb _ o e=>kp b o e;let fr0:∀b∈k,(a8 H s.heap.objs.size (.lst [])) b=VY:=λb f=>by rw[aw (Wz (G b f))];show(L b f).1
  show Ci (λx s1 z=>hEE _ _ x s1 hC z) (λn s'=>∃i σ' V,Inv (bq X s H scope h2.objs.size (cG own h) k) [] σ' V s'/\tn i s'.heap/\(∀b∈k,V b=VY)/\W i n σ' V) ?_ m0 #[0,_,_,I0,st0,fr0,w0];rintro n s5 ⟨i,j,H5,I5,st5,fr5,w5⟩;rcases turn i n j H5 w5 with⟨stop,fin⟩|⟨go,N,hN,step⟩
  .show bT (T.done (bq X s H scope h2.objs.size (cG own h) k) rfl rfl rfl hc i [] s5 j H5 (λ_ _=>False) I5 (O fr5 (by simp)) st5 stop) λr s6 #[hr,S]=>?_;subst hr;let(mm,hm,_):=S.loc;show hRR _ _ H5 s6 ?_ fin #[mm,hm] hC S.free;show I.acr (ch:=k) S.os S.base S.Xr S.bare λb f=>#[(L b f).2.2.2.1,(L b f).2.1,(L b f).2.2.2.2.1,(L b f).2.2.2.2.2]
  .show bT (T.item (bq X s H scope h2.objs.size (cG own h) k) rfl rfl rfl hc i [] s5 j H5 (λ_ _=>False) I5 (O fr5 (by simp)) st5 go) λr s6 #[u,hr,h6]=>?_
   subst hr;show bT h6 λ_ s7 a=>?_;let(x,H7,I7,r7,y7,w,fr7):=a;let I7':=I7.pinned (fp:=k) (O fr7 (by simp)) (T.obj _ _ w);let t:∀{a:St} {Q:Hp} {A:V7},Inv (bq X s H scope h2.objs.size (cG own h) k) ([]++ra k s7.heap) a Q A->N a Q->∃m,m<n/\∃i σ' V,Inv (bq X s H scope h2.objs.size (cG own h) k) [] σ' V A/\tn i A.heap/\(∀b∈k,V b=VY)/\W i m σ' V:=λ{a Q A} I8 n8=>by let(m',hm,w8):=hN a Q n8;show#[m',hm,i+1,a,Q,I8.aaE,T.keep _ _ _ w λb f o e=>(I8.pin (b,o) (Xd _ (Xd _ (jo f e)))).1,λb f=>?_,w8];let(o,e,d):=T.obj _ _ w b f;show(I8.pin (b,o) (Xd _ (Xd _ (jo f e)))).2.1
   show bT (hg _ _ s7 j H7 x u _ I7' r7 (step x H7 y7)) λ_ A a=>?_;let(a,Q,I8,q8):=a;show bT (ht _ _ A a Q _ I8 q8) λok s9 a=>?_;let(H9,I9,q9):=a;cases ok with
   |false=>rw[aE Wv]at q9⊢;show t I9 q9
   |true=>rw[ax rfl]at q9⊢;show bT (he _ _ s9 a H9 _ (I9.ZH _) q9) λy s10 a=>?_;let(K,H10,ajE,r10,ys,hy,hl,q10):=a;let I10:=ajE.Y4;show bT (nX _ s10 a H10 (.ref s.heap.objs.size) [K] (.ref s.heap.objs.size) [y] (λ_ H11=>N a H11) I10 rfl (.cons r10 .nil) #[_,ys,K,rfl,rfl,hy,hl,q10]) λ_ s11 a=>?_;let(v11,H11,I11,_,q11):=a;show t I11 q11
 show codeAny_compStart_list (l _ rfl) (T.self _ 0 _ _ _ (T.keep 0 _ _ st λb _ o e=>kp b o e) (l _ rfl))
def oY(own:G Str)(f:G (Str×Nat))(b:TI)(g:TG)(e:TT)(c:TE):TE:=λY H Q=>b Y H λJ a=>∀D,a D=R->El J D (iS own f Y) g e c a λh=>Q (.ref D) h
theorem kI{a:XS}(ok:X.Ok)(h:∀y∈a.names,y.2=.free->(X.env.scope.names.lookup y.1=M .cell\/X.env.scope.names.lookup y.1=M .free)):∀y∈a.names,y.2=.free->∃c,X.env.cells.lookup y.1=M c:=
 λy b e=>ok.has y.1 (h y b e)
theorem HP{a sc:XS}(h:(a.names.all λy=> !(y.2==Wo.free)||(sc.names.lookup y.1==M Wo.cell)||(sc.names.lookup y.1==M Wo.free))=P):
  ∀y∈a.names,y.2=.free->(sc.names.lookup y.1=M .cell\/sc.names.lookup y.1=M .free):=λy b e=>by
 let q:=Xj.mp h y b;rw[e]at q
 simpa using q
def A4{elt d iter:Ww}{ifs:G Ww}{scope:XS}{pos:Pos}(own:G Str)(c:G (Str×Nat)){t:TI}{g:TG}{v:TT}{u:TE}(V:X.calm=P)(O:PI X d iter t)
  (S:∀s H C a,PG (bq X s H scope C (cG own c) a) d g) (F:∀s H C a,xu (bq X s H scope C (cG own c) a) ifs v) (he:∀s H C a,PE (bq X s H scope C (cG own c) a) elt u) (l:abr X scope c)
  (n:(scope.names.all λy=> !(y.2==Wo.free)||(X.env.scope.names.lookup y.1==M Wo.cell)||(X.env.scope.names.lookup y.1==M Wo.free))=P)
  (w:scope.kind=.function:=by rfl) (k:(scope.names.map (·.1)).Nodup:=by left)
  (p:∀y∈scope.names,y.2=.local->scope.names.lookup y.1=M .local:=by left) (L:∀x,foldedSetIterable iter X.env x=pure x:=by intro _;rfl):
  PE X (.ListComp elt [#[d,iter,ifs,0]] scope pos) (oY own c t g v u):=by
 intro Z s Y H Q I h;let f:=HP n;rw[akZ];show Z0 (use:=VY) rfl L (mj (kI I.ok f)) w p (bT (O Z s Y H _ I h) λxv s1 h1=>bT h1 λK s2 h2=>?_);let(it,a,tn,J,H2,e,A,T,i,f2,R):=h2;subst e;show lV A V w k (kI I.ok f) l T i f2 (λC=>S _ _ C _) (λC=>F _ _ C _) (W:=λ_ _ _=>False) (λC=>he _ _ C _) (λ_ _ _ _ _ z=>z.elim) (Fin:=λD r=>Q (.ref D) r) R ?_;intro D C r E I' fin hm hC N;let(m,hm):=hm;show#[m,hm,λh' j=>#[.ref D,r,?_,rfl,fin]];let(f0,f1,_,f3,f4,f5):=A.abJ hC N;show I'.turned (t':=E.toks) (λb o hb q=>(j.2 b hb).trans q) f0 f1 f3 f4 f5
def JK{elt d iter:Ww}{ifs:G Ww}{scope:XS}{pos k py:Pos}{i:Nat}{x:Str}(own:G Str)(j:G (Str×Nat)){S:TI}{g:TG}{tc:TT}{V:TE}(hN:X.N.Nodup)(w:X.N[i]?=M x)(hx:X.env.scope.names.lookup x=M .local)
  (hc:X.calm=P) (hi:PI X d iter S)
  (hg:∀s H C c,PG (bq X s H scope C (cG own j) c) d g) (ht:∀s H C c,xu (bq X s H scope C (cG own j) c) ifs tc) (he:∀s H C c,PE (bq X s H scope C (cG own j) c) elt V) (A:abr X scope j)
  (F:(scope.names.all λy=> !(y.2==Wo.free)||(X.env.scope.names.lookup y.1==M Wo.cell)||(X.env.scope.names.lookup y.1==M Wo.free))=P)
  (r:Yu (.ListComp elt [#[d,iter,ifs,0]] scope pos) (M (.Name x py)) k.line X.env=pure P:=by rfl)
  (YZ:scope.kind=.function:=by rfl) (u:(scope.names.map (·.1)).Nodup:=by left)
  (K:∀y∈scope.names,y.2=.local->scope.names.lookup y.1=M .local:=by left) (hs:∀x,foldedSetIterable iter X.env x=pure x:=by intro _;rfl):
  PS X (.Assign [.Name x py] (.ListComp elt [#[d,iter,ifs,0]] scope pos) k) (zX (oY own j S g tc V) (mI i)):=by
 intro Z s Y H D I h;let f:=HP F;rw[exec_Assign_Name_used _ _ _ _ r];show CL (Yd (CL ?_));show wpAny _ _ (do let _<-comprehension (.ListComp elt [#[d,iter,ifs,0]] scope pos) scope X.env _ (newList []) V4 (eval iter X.env) (M (assign (.Name x py) X.env))) _ _ s;show CL (bT (Z0 (use:=M (assign (.Name x py) X.env)) (Q:=λ_ l=>SP X Z D .next l) rfl hs (mj (kI I.ok f)) YZ K
  (bT (hi Z s Y H _ I h) λxv s1 h1=>bT h1 λitv s2 h2=>?_)) λ_ l q=>Wb (Wb q))
 let(it,c,tn,J,H2,e,I2,T,n,f2,R):=h2;subst e;show lV I2 hc YZ u (kI I.ok f) A T n f2 (λC=>hg _ _ C _) (λC=>ht _ _ C _) (W:=λ_ _ _=>False) (λC=>he _ _ C _) (λ_ _ _ _ _ z=>z.elim) (Fin:=λL O=>D.nx (Y.set i (M (.ref L))) O) R ?_;intro L C O l I' fin hm hC hn;let(m,hm):=hm;let(f0,f1,f2',f3,f4,f5):=I2.abJ hC hn;show wpAny _ _ (assign (.Name x py) X.env (.ref L)) _ _ l;show af5 (ue I' hN w (.inl hx) (v:=.ref L) rfl (λp N #[a,sb,ha]=>?_) (.inr hx));let E:C≠a:=by
  rcases ha with z|z
  .rw[z];show f1
  .show λq=>f4 x a z q.symm
 show#[m,hm.sameBut sb E,λh' t=>#[_,O,?_,fin]];show N.turned (t':=p.toks) (λb o hb q=>(t.2 b hb).trans q) f0 f1 f3 f4 f5
end
def wH(P:Ws)(w:WO)(K:lD)(c:Str->z B)(base:Heap)(k:Nat)(x:Str)(b:G Str)(sp:Sp):Prop:=
 ∃(f:U) (a:Xf),FnOk P w K c base lu k f a b sp/\Binds K a b []/\XF K (.ref f)=V0/\c x=M (.ref f)
def uB(C:wH X.prog X.w X.K X.mg X.base k x J sp)(l:X0 j X.A)(c:PA X (e::es) t)(g:k<=j:=by decide)(n:Gl X x:=by rfl)
  (h:(x==("__debug__":Str))=I:=by decide) (o:Wn (e::es) X.env=(I,eval e X.env)::Wn es X.env:=by rfl) (a:(backTo pos (Wn es X.env)).any (·.1)=I:=by rfl):
  PE X (.Call (.Name x p) (e::es) [] pos) (kF sp [] E0 t):=by
 let(f,q,F,b,i,m):=C;show Bs F (l.mono g) n m i b .nil Er c h o a
section
variable{Z:St}{H:Hp}{Q:VK}{D:Ends}
theorem Pq(h:t {D with nx:=u D} Z H):F7 t u D Z H:=h
theorem Pj(h:o Z H λx H1=>g x Z H1 D.nx):zX o g D Z H:=h
theorem JA{Q:St->Hp->Prop}(h:Q (Z.set i (M v)) H):mI i v Z H Q:=h
theorem Up(h:Q v H):tC v Z H Q:=h
theorem LL(h:o Z H λ_ H1=>D.nx Z H1):xx o D Z H:=h
end
def PN{α:Type}{xs:G α}{i:Int}{v:α}(a:0<=i)(h:xs[i.toNat]?=M v):lz xs i=M v:=by let q:=AL h;rwa [aaw a]at q
def XQ.tup{K:lD}(e:XQ H H')(h:ZI K H a xs):ZI K H' a xs:=by
 rcases h with(h|⟨o,h⟩)|h
 .show .inl (.inl (e _ _ h))
 .show .inl (.inr #[o,e _ _ h])
 .show .inr h
theorem bM(h:H p=R)(o:HO):XQ H (a8 H p o):=λb u q=>by rw[aw (bE q h)];show q
def GK:Xa "max"=M (.builtin "max"):=by left
def v3:Xa "isinstance"=M (.builtin "isinstance"):=by left
def Hf:Xa "len"=M (.builtin "len"):=by left
def wL:Xa "sorted"=M (.builtin "sorted"):=by left
def Sk:Xa "all"=M (.builtin "all"):=by left
def Hq:Xa "list"=M (.type "list"):=by left
def MA:Xa "tuple"=M (.type "tuple"):=by left
section
variable{X:Cx}
def wV:Yg X (.builtin "sorted") (λxs H Q=>∃(p:U) (ns:bg Int),xs=[.ref p]/\ZV X.K H p (ns.map V.int)/\ns.length<64/\∀(l:U) (a:bg Int),H l=R->a.Perm ns->a.Pairwise (·<=·)->Q (.ref l) (a8 H l (.lst (a.map V.int)))):=by
 intro i s C H xs E Q I r h;let(p,ns,rfl,t,y,q):=h;let(u,rfl,m):=jE r;ext m;let(B,J,pl,G):=I.list t;let v:=J.length;rw[V1]at v;show sorted_ints pl.isList (jz J) () λf a K j n=>?_;let(e,w):=sortedAll_at s.heap B f;let g:a.length=ns.length:=j.length_eq;let A:f.toList.length=a.length:=K.length;show#[.ref (s.heap.objs.size+1),_,I.laid (t':=s.toks) (o:=.lst (a.map V.int)) (λb F z=>sortedAll_old z) (abe _) ?_,W,q _ a (I.Xr.fresh (abe _)) j n];show#[?_,f.toList,e,jd K,w];rw[V1,g];let:(64:Nat)<=We:=by decide
 ext
end
end L2
namespace L3
open PySem L2
abbrev D:=V3
inductive PV where
 |fz (d:D)
 |ow (ds:G D)
 |pl (i:Nat)
abbrev aU:=G (z PV)
structure Xc where
 cls:Str
 fs:G (Str×D)
inductive Res(α:Type) where
 |ok (a:α)
 |er (x:Xc)
 |bad
namespace Res
def bind(r:Res α)(f:α->Res β):Res β:=match r with
 |.ok a=>f a
 |.er x=>.er x
 |.bad=>.bad
def W5:z α->Res α
 |some a=>.ok a
 |none=>.bad
theorem bind_ok(a:α)(f:α->Res β):(Res.ok a).bind f=f a:=W
end Res
abbrev ej:=@Res.bind_ok
abbrev bG:=U->Prop
def cI(O:bG)(p:U):bG:=λb=>O b\/b=p
def ER(O:bG)(p:U):bG:=λb=>O b/\b≠p
def noO:bG:=λ_=>False
def Ev(O:bG)(H:Hp)(a:bG)(c:Hp):Prop:=∀b o,H b=M o->¬O b->c b=M o/\¬a b
theorem Ev.refl:Ev O H O H:=λ_ _ h n=>#[h,n]
theorem Ev.trans(a:Ev O H O1 H1)(b:Ev O1 H1 O2 H2):Ev O H O2 H2:=λp o h n=>let#[h1,e]:=a p o h n;b p o h1 e
theorem Ev.grow(s:XQ H H'):Ev O H O H':=λb o h n=>#[s b o h,n]
theorem Ev.add(s:XQ H H')(a:H p=R):Ev O H (cI O p) H':=λb o h n=>#[s b o h,λz=>z.elim n λe=>by simp_all]
theorem Ev.sub(h:∀b,O' b->O b):Ev O H O' H:=λb o e n=>#[e,λz=>n (h b z)]
theorem Ev.mut(a:O p)(u:HO):Ev O H O (a8 H p u):=λb o h n=>#[by rw[aw (λe=>n (by simp_all))];show h,n]
def Ze(K:lD)(H:Hp)(a:U)(xs:G V):Prop:=Rd H a (.lst xs)\/∃(b:G B) (n:Nat),K.lookup a=M {cls:=.type "list",data:=.seq b.toArray n}/\xs.length<=We/\Vals xs b
def Ze.sq(h:Ze K H a xs):ZV K H a xs:=by
 rcases h with h|⟨f,n,h1,e,b⟩
 .show .inl h
 .show .inr #[_,f.toArray,n,h1,W,W,W,by rw[Wt,<-b.length];show e,by ext]
theorem Ze.of(h:H a=M (.lst xs)):Ze K H a xs:=.inl (.inl h)
def Ze.same(e:XQ H H')(h:Ze K H a xs):Ze K H' a xs:=by
 rcases h with(h|⟨o,h⟩)|h
 .show .inl (.inl (e _ _ h))
 .show .inl (.inr #[o,e _ _ h])
 .show .inr h
theorem kK(H:Hp):XQ (λ_=>R) H:=λ_ _ h=>by ext h
def aaW(O:bG)(K:lD)(H:Hp)(a:U)(xs:G V):Prop:=Ze K H a xs/\(O a->Ze K (λ_=>R) a xs)
def Z4(O:bG)(K:lD)(H:Hp)(a:U)(xs:G V):Prop:=ZI K H a xs/\(O a->ZI K (λ_=>R) a xs)
section
variable{O Z:bG}{K:lD}{H Y:Hp}{a:V5}{X:bg V}
def aaW.ev(h:aaW O K H a X)(e:Ev O H Z Y):aaW Z K Y a X:=by
 let(h,k):=h;by_cases z:O a
 .show#[Ze.same (kK Y) (k z),λ_=>k z]
 .rcases h with(h|⟨o,h⟩)|h
  .let(f,b):=e a _ h z;show#[.inl (.inl f),λy=>a7 y b]
  .let(f,b):=e a _ h z;show#[.inl (.inr #[o,f]),λy=>a7 y b]
  .show#[.inr h,λ_=>.inr h]
def Z4.ev(h:Z4 O K H a X)(e:Ev O H Z Y):Z4 Z K Y a X:=by
 let(h,k):=h;by_cases z:O a
 .show#[(kK Y).tup (k z),λ_=>k z]
 .rcases h with(h|⟨o,h⟩)|h
  .let(f,b):=e a _ h z;show#[.inl (.inl f),λy=>a7 y b]
  .let(f,b):=e a _ h z;show#[.inl (.inr #[o,f]),λy=>a7 y b]
  .show#[.inr h,λ_=>.inr h]
end
mutual
inductive DV(O:bG)(K:lD)(H:Hp):V->D->Prop
 |Yf:DV O K H .Yf .none
 |bl (b:Bool):DV O K H (.bl b) (.bool b)
 |int (i:Int):DV O K H (.int i) (.int i)
 |str (x:Str):DV O K H (.str x) (.str x)
 |tup {a:V5} {xs:bg V} {ds:bg D}:Z4 O K H a xs->XU O K H xs ds->DV O K H (.ref a) (.tuple ds)
 |lst {a:V5} {xs:bg V} {ds:bg D}:aaW O K H a xs->XU O K H xs ds->DV O K H (.ref a) (.list ds)
inductive XU(O:bG)(K:lD)(H:Hp):bg V->bg D->Prop
 |nil:XU O K H [] []
 |cons {v:V} {vs:bg V} {d:D} {ds:bg D}:DV O K H v d->XU O K H vs ds->XU O K H (v::vs) (d::ds)
end
section
variable{O Z:bG}{K:lD}{H H':Hp}
mutual
theorem DV.ev(e:Ev O H Z H'):∀{v:V} {d:D},DV O K H v d->DV Z K H' v d
 |_,_,.Yf=>.Yf
 |_,_,.bl b=>.bl b
 |_,_,.int i=>.int i
 |_,_,.str x=>.str x
 |_,_,.tup h hs=>.tup (h.ev e) (XU.ev e hs)
 |_,_,.lst h hs=>.lst (h.ev e) (XU.ev e hs)
theorem XU.ev(e:Ev O H Z H'):∀{vs:bg V} {ds:bg D},XU O K H vs ds->XU Z K H' vs ds
 |_,_,.nil=>.nil
 |_,_,.cons h hs=>.cons (DV.ev e h) (XU.ev e hs)
end
theorem XU.length:∀{a:G V} {ds:G D},XU O K H a ds->a.length=ds.length
 |_,_,.nil=>rfl
 |_,_,.cons _ t=>by rw[Wi,Wi,t.length]
theorem XU.get:∀{c:G V} {ds:G D} {i:Nat} {d:D},XU O K H c ds->ds[i]?=M d->∃v,c[i]?=M v/\DV O K H v d
 |_,_,_,_,.nil,e=>by simp at e
 |_,_,0,_,.cons h _,e=>by simp_all
 |_,_,i+1,d,.cons _ t,e=>by let(v,b,a):=XU.get t (by simpa using e);simp_all
theorem XU.afM:∀{c:G V} {ds:G D} {i:Nat} {v:V},XU O K H c ds->c[i]?=M v->∃d,ds[i]?=M d/\DV O K H v d
 |_,_,_,_,.nil,e=>by simp at e
 |_,_,0,_,.cons h _,e=>by simp_all
 |_,_,i+1,v,.cons _ t,e=>by let(d,b,a):=XU.afM t (by simpa using e);simp_all
theorem XU.append:∀{a ws:G V} {ds es:G D},XU O K H a ds->XU O K H ws es->XU O K H (a++ws) (ds++es)
 |_,_,_,_,.nil,h=>h
 |_,_,_,_,.cons h t,g=>.cons h (XU.append t g)
theorem XU.flat(h:XU O K H vs ds):∀n:Nat,XU O K H (Wd n vs).flatten (Wd n ds).flatten
 |0=>.nil
 |n+1=>by rw[Xl,Xl,X5,X5];show h.append (XU.flat h n)
mutual
theorem DV.plain:∀{v:V} {d:D},DV O K H v d->L2.DV K H v d
 |_,_,.Yf=>.Yf
 |_,_,.bl b=>.bl b
 |_,_,.int i=>.int i
 |_,_,.str x=>.str x
 |_,_,.tup h hs=>.tup h.1 (XU.plain hs)
 |_,_,.lst h hs=>.lst h.1.sq (XU.plain hs)
theorem XU.plain:∀{vs:bg V} {ds:bg D},XU O K H vs ds->L2.XU K H vs ds
 |_,_,.nil=>.nil
 |_,_,.cons h hs=>.cons (DV.plain h) (XU.plain hs)
end
end
def DX(O:bG)(K:lD)(H:Hp)(v:V):D->Prop
 |.list ds=>∃a xs,v=.ref a/\Ze K H a xs/\XU O K H xs ds
 |d=>DV O K H v d
def DV.x(h:DV O K H v d):DX O K H v d:=by
 cases h with
 |lst h a=>show#[_,_,W,h.1,a]
 |Yf=>show .Yf
 |bl b=>show .bl b
 |int i=>show .int i
 |str x=>show .str x
 |tup h a=>show .tup h a
def DX.plain(h:DX O K H v d):L2.DV K H v d:=by
 cases d with
 |list ds=>let(a,xs,rfl,f,e):=h;show .lst f.sq e.plain
 |none=>show DV.plain h
 |bool b=>show DV.plain h
 |int i=>show DV.plain h
 |str x=>show DV.plain h
 |tuple ds=>show DV.plain h
 |dict g=>show DV.plain h
def abL(K:lD)(b:Hp)(O:bG)(H:Hp)(v:V):PV->Prop
 |.fz d=>DV O K H v d
 |.ow ds=>∃a e,v=.ref a/\O a/\b a=R/\H a=M (.lst e)/\XU O K H e ds
 |.pl _=>False
structure Rl(K:lD)(B:bG)(H0:Hp)(O:bG)(σ:St)(H:Hp)(ρ:aU):Prop where
 same:XQ H0 H
 bo:∀a,B a->O a
 bd:∀a,B a->H0 a≠R
 od:∀a,H a=R->¬O a
 len:σ.length=ρ.length
 slot:∀(i:Nat) (x:PV),ρ[i]?=M (M x)->∃v,σ[i]?=M (M v)/\abL K H0 O H v x
 one:∀(i j:Nat) (ds es:G D) (v:V),ρ[i]?=M (M (.ow ds))->ρ[j]?=M (M (.ow es))->σ[i]?=M (M v)->σ[j]?=M (M v)->i=j
def Z3(K:lD)(e:Hp)(O:bG)(b:St)(H:Hp)(c:aU)(v:V):PV->Prop
 |.fz d=>DV O K H v d
 |.ow ds=>∃a f,v=.ref a/\O a/\e a=R/\H a=M (.lst f)/\XU O K H f ds/\∀(i:Nat) (es:G D),c[i]?=M (M (.ow es))->b[i]?≠M (M (.ref a))
 |.pl i=>b[i]?=M (M v)
def kX:PV->Prop
 |.ow _=>False
 |_=>True
def cy:PV->PV
 |.ow ds=>.fz (.list ds)
 |p=>p
section
variable{K:lD}{B O X:bG}{Z H H':Hp}{Y:St}{ρ ρ':aU}{v:V}
def abL.grow(s:XQ H H')(h:abL K Z O H v x):abL K Z O H' v x:=by
 cases x with
 |fz d=>show DV.ev (Ev.grow s) h
 |ow ds=>let(a,l,e,j,g,f,b):=h;show#[a,l,e,j,g,s _ _ f,b.ev (Ev.grow s)]
 |pl i=>show h
theorem Rl.grow(R:Rl K B Z O Y H ρ)(s:XQ H H'):Rl K B Z O Y H' ρ:=
 #[R.same.trans s,R.bo,R.bd,λa h=>R.od a (s.free h),R.len,λi x h=>let#[v,h1,b]:=R.slot i x h;#[v,h1,b.grow s],R.one]
theorem Rl.afb(R:Rl K B Z O Y H ρ)(h:H p=VY):Z p=VY:=R.same.free h
def Rl.add(R:Rl K B Z O Y H ρ)(s:XQ H H')(f:H p=VY)(g:H' p≠VY):Rl K B Z (cI O p) Y H' ρ:=by
 show#[R.same.trans s,λa h=>.inl (R.bo a h),R.bd,λa h z=>z.elim (R.od a (s.free h)) λe=>g (by simp_all),R.len,λi x h=>?_,R.one];let(v,j,b):=R.slot i x h;show#[v,j,?_];cases x with
 |fz d=>show DV.ev (Ev.add s f) b
 |ow ds=>let(a,q,e,o,n,m,l):=b;show#[a,q,e,.inl o,n,s _ _ m,l.ev (Ev.add s f)]
 |pl i=>show b
theorem Rl.aeW(R:Rl K B Z O Y H ρ)(h:Z a=VY):¬B a:=λz=>R.bd a z h
def Rl.sub(R:Rl K B Z O Y H ρ){a:U}(m:Z a=VY)(h:∀(i:Nat) (es:G D),ρ[i]?=M (M (.ow es))->Y[i]?≠M (M (.ref a))):Rl K B Z (ER O a) Y H ρ:=by
 show#[R.same,λb f=>#[R.bo b f,λe=>R.aeW m (e▸f)],R.bd,λb f z=>R.od b f z.1,R.len,λi x j=>?_,R.one];let(v,l,g):=R.slot i x j;show#[v,l,?_];cases x with
 |fz d=>show DV.ev (Ev.sub λb z=>z.1) g
 |ow ds=>let(b,r,e,q,p,o,n):=g;subst e;show#[b,r,W,#[q,λe=>h i ds j (by rw[l,e])],p,o,n.ev (Ev.sub λb z=>z.1)]
 |pl i=>show g
theorem vt(h:H a=M (.lst o))(n:¬O a)(hd:XU O K H o ds):DV O K H (.ref a) (.list ds):=.lst #[Ze.of h,λz=>a7 z n] hd
def gR{pv:PV}(R:Rl K B Z O Y H ρ)(h:Z3 K Z O Y H ρ v pv):∃X,Ev O H X H/\Rl K B Z X Y H ρ/\Z3 K Z X Y H ρ v (cy pv):=by
 cases pv with
 |fz d=>show#[O,.refl,R,h]
 |pl i=>show#[O,.refl,R,h]
 |ow ds=>let(a,m,rfl,l,j,g,f,e):=h;show#[ER O a,Ev.sub λb z=>z.1,R.sub j e,vt g (λz=>z.2 W) (f.ev (Ev.sub λb z=>z.1))]
def nz(pv:PV):kX (cy pv):=by ext pv<;>trivial
def Z3.keep{pv:PV}(a:kX pv)(e:Ev O H X H')(h:Z3 K Z O Y H ρ v pv):Z3 K Z X Y H' ρ' v pv:=by
 cases pv with
 |fz d=>show DV.ev e h
 |pl i=>show h
 |ow ds=>show a.elim
def UV:z (z PV)->z D
 |some (M (.fz d))=>M d
 |some (M (.ow ds))=>M (.list ds)
 |_=>R
def sH(ρ:aU):PV->z D
 |.fz d=>M d
 |.ow ds=>M (.list ds)
 |.pl i=>UV ρ[i]?
def jC{pv:PV}(R:Rl K B Z O Y H ρ)(h:Z3 K Z O Y H ρ v pv)(e:sH ρ pv=M d):DX O K H v d:=by
 cases pv with
 |fz p=>ext e;show DV.x h
 |ow ds=>ext e;let(a,y,rfl,w,t,m,l,r):=h;show#[a,y,W,Ze.of m,l]
 |pl i=>
  let b:UV ρ[i]?=M d:=e;let n:=h;cases q:ρ[i]? with
  |none=>rw[q]at b;ext b
  |some o=>
   cases o with
   |none=>rw[q]at b;ext b
   |some x=>
    let(u,g,f):=R.slot i x q;rw[n]at g;ext g;rw[q]at b;cases x with
    |fz p=>ext b;show DV.x f
    |ow ds=>ext b;let(a,y,rfl,k1,k2,k3,k4):=f;show#[a,y,W,Ze.of k3,k4]
    |pl j=>show f.elim
def T3(ρ:aU)(i:Nat):z (z PV)->z (D×aU)
 |some (M (.fz d))=>M (d,ρ)
 |some (M (.ow ds))=>M (.list ds,ρ.set i (M (.fz (.list ds))))
 |_=>R
def xj(ρ:aU):PV->z (D×aU)
 |.fz d=>M (d,ρ)
 |.ow ds=>M (.list ds,ρ)
 |.pl i=>T3 ρ i ρ[i]?
def bQ{l:G α}(h:(l.set i x)[j]?=M y):(j=i/\y=x)\/(j≠i/\l[j]?=M y):=by
 rw[Xm]at h;by_cases e:i=j
 .rw[ax e]at h
  split at h
  .ext h;show .inl #[e.symm,W]
  .ext h
 .rw[aE e]at h;show .inr #[λz=>e z.symm,h]
def tL{pv:PV}(R:Rl K B Z O Y H ρ)(h:Z3 K Z O Y H ρ v pv)(e:xj ρ pv=cL (d,ρ')):∃X,Ev O H X H/\Rl K B Z X Y H ρ'/\DV X K H v d:=by
 cases pv with
 |fz U=>ext e;show#[O,.refl,R,h]
 |ow ds=>ext e;let(a,vs,rfl,h1,T,S,Q,P):=h;show#[ER O a,Ev.sub λb z=>z.1,R.sub T P,vt S (λz=>z.2 W) (Q.ev (Ev.sub λb z=>z.1))]
 |pl i=>
  let f:T3 ρ i ρ[i]?=cL (d,ρ'):=e;let y:=h;cases q:ρ[i]? with
  |none=>rw[q]at f;ext f
  |some o=>
   cases o with
   |none=>rw[q]at f;ext f
   |some x=>
    let(u,E,A):=R.slot i x q;rw[y]at E;ext E;rw[q]at f;cases x with
    |fz U=>ext f;show#[O,.refl,R,A]
    |pl j=>show A.elim
    |ow ds=>
     ext f;let(a,vs,rfl,k1,k2,k3,k4):=A;let es:Ev O H (ER O a) H:=Ev.sub λb z=>z.1;let F:=vt k3 (λz=>z.2 W) (k4.ev es);show#[ER O a,es,#[R.same,λb m=>#[R.bo b m,λe=>R.aeW k2 (e▸m)],R.bd,λb m z=>R.od b m z.1,by rw[Xh];show R.len,λj x l=>?_,λj k xs G w t r=>?_],F]
     .rcases bQ l with⟨rfl,g⟩|⟨p,l⟩
      .ext g;show#[_,y,F]
      .let(u,C,n):=R.slot j x l
       show#[u,C,?_];cases x with
       |fz d=>show DV.ev es n
       |pl i=>show n
       |ow xs=>let(b,I,rfl,N,M,L,J):=n;show#[b,I,W,#[N,λz=>p (R.one j i xs ds (.ref a) l q (by rw[C,z]) y)],M,L,J.ev es]
     .rcases bQ t with⟨rfl,g⟩|⟨_,t⟩
      .ext g
      .rcases bQ r with⟨rfl,g⟩|⟨_,r⟩
       .ext g
       .show R.one j k xs G w t r
end
def XOk(K:lD)(B:bG)(H:Hp)(c:Ld)(b:z U)(x:Xc):Prop:=
 (∃a,c=.ref a/\WC K Wr x.cls=M (M (.ref a)))/\∃fs,(∀p,b=M p->H p=M (.xd fs))/\∀f d,x.fs.lookup f=M d->b≠R/\∃v,fs.lookup f=M v/\DV B K H v d
def XE(K:lD)(B:bG)(a:Hp)(E:XK)(x:Xc):Prop:=∀c b H',XQ a H'->XOk K B H' c b x->E c b H'
def WR(K:lD)(E:XK)(B:bG)(b:Hp)(P:α->Prop):Res α->Prop
 |.ok a=>P a
 |.er x=>XE K B b E x
 |.bad=>False
section
variable{K:lD}{E:XK}{B:bG}{Z:Hp}
def WR.bind(h:WR K E B Z b (r.bind k)):WR K E B Z (λa=>WR K E B Z b (k a)) r:=by ext r<;>show h
def WR.W5(h:WR K E B Z b ((Res.W5 o).bind k)):∃a,o=M a/\WR K E B Z b (k a):=by
 cases o with
 |none=>show h.elim
 |some a=>show#[a,W,h]
def WR.imp(h:WR K E B Z b r)(g:∀a,b a->P' a):WR K E B Z P' r:=by
 cases r with
 |ok a=>show g a h
 |er x=>show h
 |bad=>show h
end
abbrev FE:=aU->Res (PV×aU)
abbrev FT:=aU->Res (Bool×aU)
abbrev FA:=aU->Res (G PV×aU)
def EO(K:lD)(E:XK)(t:TE)(f:FE):Prop:=
 ∀(B:bG) (b:Hp) (O:bG) (a:St) (H:Hp) (g:aU) (Q:VK),Rl K B b O a H g->WR K E B b (λr=>∀e v H',Ev O H e H'->Rl K B b e a H' r.2->Z3 K b e a H' r.2 v r.1->Q v H') (f g)->t a H Q
def TTO(K:lD)(E:XK)(t:TT)(f:FT):Prop:=
 ∀(B:bG) (b:Hp) (O:bG) (a:St) (H:Hp) (e:aU) (Q:Bool->Hp->Prop),Rl K B b O a H e->WR K E B b (λr=>∀g H',Ev O H g H'->Rl K B b g a H' r.2->Q r.1 H') (f e)->t a H Q
def AO(K:lD)(E:XK)(t:TA)(f:FA):Prop:=
 ∀(B:bG) (b:Hp) (O:bG) (a:St) (H:Hp) (g:aU) (Q:G V->Hp->Prop),Rl K B b O a H g->WR K E B b (λr=>∀e h H',Ev O H e H'->Rl K B b e a H' r.2->Paired (λv pv=>Z3 K b e a H' r.2 v pv/\kX pv) h r.1->Q h H') (f g)->t a H Q
inductive RV where
 |fz (d:D)
 |ow (ds:G D)
def RV.pv:RV->PV
 |.fz d=>.fz d
 |.ow ds=>.ow ds
def Fin(O:bG)(K:lD)(H:Hp)(Q:VK):RV->Prop
 |.fz d=>∀v H',XQ H H'->DV O K H' v d->Q v H'
 |.ow ds=>∀p a H',XQ H H'->H p=R->H' p=M (.lst a)->XU (cI O p) K H' a ds->Q (.ref p) H'
def lM(O:bG)(H:Hp):Prop:=∀a,H a=R->¬O a
section
variable{K:lD}{E:XK}{B O X:bG}{Y H H':Hp}{Z:St}{ρ ρ':aU}{v:V}
def mw(R:Rl K B Y O Z H ρ)(h:∀X v H',Ev O H X H'->Rl K B Y X Z H' ρ->Z3 K Y X Z H' ρ v C.pv->Q v H'):Fin O K H Q C:=by
 cases C with
 |fz d=>show λv H' s f=>h O v H' (Ev.grow s) (R.grow s) f
 |ow ds=>intro p q H' s b e f;show h (cI O p) (.ref p) H' (Ev.add s b) (R.add s b (by rw[e];simp)) #[p,q,W,.inr W,R.afb b,e,f,λi es r z=>?_];let(u,g,a,l,e2,o,n,j,m):=R.slot i _ r;rw[z]at g;ext g;ext e2;rw[b]at j;ext j
theorem Fin.new(hd:XU O K H vs ds)(h:Fin O K H Q (.ow ds)):∀p,H p=R->Q (.ref p) (a8 H p (.lst vs)):=λp a=>
 h p vs _ (bM a _) a aI (hd.ev (Ev.add (bM a _) a))
theorem Fin.aeC(hd:XU O K H vs ds)(b:lM O H)(h:Fin O K H Q (.fz (.tuple ds))):∀p,H p=R->Q (.ref p) (a8 H p (.tup vs)):=λp a=>
 h (.ref p) _ (bM a _) (.tup #[ZI.of aI,λz=>a7 z (b p a)] (hd.ev (Ev.grow (bM a _))))
theorem Fin.at(h:Fin O K H Q (.fz d))(a:DV O K H v d):Q v H:=h v H (XQ.refl H) a
def A2(ρ:aU)(i:Nat):z (z PV)->Res (PV×aU)
 |some (M (.fz d))=>.ok (.fz d,ρ)
 |some (M (.ow _))=>.ok (.pl i,ρ)
 |_=>.bad
def aa(i:Nat):FE:=λρ=>A2 ρ i ρ[i]?
def QM:EO K E (pQ i) (aa i):=by
 intro B Y O Z H ρ Q R w;unfold aa at w;cases q:ρ[i]? with
 |none=>rw[q]at w;show w.elim
 |some o=>
  cases o with
  |none=>rw[q]at w;show w.elim
  |some x=>
   rw[q]at w;let(v,a,b):=R.slot i x q;cases x with
   |fz d=>show#[v,a,w O v H .refl R b]
   |ow ds=>show#[v,a,w O v H .refl R a]
   |pl j=>show w.elim
def pC(d:D):FE:=λρ=>.ok (.fz d,ρ)
theorem CD(h:∀O H,DV O K H v d):EO K E (tC v) (pC d):=λB Y O Z H ρ Q R w=>w O v H .refl R (h O H)
theorem QU:EO K E (tC (.int i)) (pC (.int i)):=CD λ_ _=>.int i
theorem SG:EO K E (tC (.bl b)) (pC (.bool b)):=CD λ_ _=>.bl b
theorem Q3:EO K E (tC (.str x)) (pC (.str x)):=CD λ_ _=>.str x
theorem Pr:EO K E (tC .Yf) (pC .none):=CD λ_ _=>.Yf
def jJ(K:lD)(r:R2)(f:D->D->z RV):Prop:=∀(O:bG) (H:Hp) (x y:V) (e a:D) (b:RV) (Q:VK),lM O H->DX O K H x e->DX O K H y a->f e a=M b->Fin O K H Q b->r x y H Q
def aF(f:D->D->z RV)(c e:FE):FE:=λρ=>(c ρ).bind λa=>(e a.2).bind λb=>(Res.W5 (sH b.2 (cy a.1))).bind λi=>(Res.W5 (sH b.2 b.1)).bind λg=>(Res.W5 (f i g)).bind λh=>.ok (h.pv,b.2)
def Nv(t:jJ K r f)(c:EO K E ta fa)(u:EO K E tb fb):EO K E (IC r ta tb) (aF f fa fb):=by intro B Y O Z H ρ Q R w;show c B Y O Z H ρ _ R (w.bind.imp λa i N x M e1 C q=>?_);let(I,e2,R2,p):=gR C q;show u B Y I Z M a.2 _ R2 (i.bind.imp λb e G y L e3 g o=>?_);let h:=p.keep (nz a.1) e3 (ρ':=b.2);let(T,l,e):=e.W5;let(z,j,e):=e.W5;let(S,m,e):=e.W5;show t G L x y T z S Q g.od (jC g h l) (jC g o j) m (mw g λF v J e4 A n=>?_);show e F v J (e1.trans (e2.trans (e3.trans e4))) A n
def U3(K:lD)(r:V->Hp->VK->Prop)(f:D->z RV):Prop:=∀(O:bG) (H:Hp) (x:V) (b:D) (a:RV) (Q:VK),lM O H->DX O K H x b->f b=M a->Fin O K H Q a->r x H Q
def CP(f:D->z RV)(c:FE):FE:=λρ=>(c ρ).bind λa=>(Res.W5 (sH a.2 a.1)).bind λe=>(Res.W5 (f e)).bind λb=>.ok (b.pv,a.2)
def ST(l:U3 K r f)(c:EO K E C J):EO K E (UI r C) (CP f J):=by intro B Y O Z H ρ Q R w;show c B Y O Z H ρ _ R (w.bind.imp λa b o x q e1 e j=>?_);let(u,g,b):=b.W5;let(t,h,b):=b.W5;show l o q x u t Q e.od (jC e j g) h (mw e λn v p e4 m i=>b n v p (e1.trans e4) m i)
def UD:D->z Bool
 |.bool b=>M b
 |_=>R
def Qy(h:DX O K H x d)(e:UD d=M b):x=.bl b:=by ext d<;>ext e;ext h;rfl
def az(c:FE):aU->Res (Bool×aU):=λρ=>(c ρ).bind λa=>(Res.W5 (sH a.2 a.1)).bind λd=>(Res.W5 (UD d)).bind λb=>.ok (b,a.2)
def mO(c:EO K E o C):TTO K E (t7 o) (az C):=by intro B Y O Z H ρ Q R w;show c B Y O Z H ρ _ R (w.bind.imp λa e j x l e1 f i=>?_);let(d,g,e):=e.W5;let(b,h,e):=e.W5;show#[b,Qy (jC f i g) h,e j l e1 f]
theorem RH(a:EO K E o C):TTO K E (tB o) (az C):=mO a
def x4(c b:FT):FT:=λρ=>(c ρ).bind λa=>if a.1=P then b a.2 else .ok (I,a.2)
def xq(c b:FT):FT:=λρ=>(c ρ).bind λa=>if a.1=P then .ok (P,a.2)else b a.2
def lw(b:FT):FT:=λρ=>(b ρ).bind λa=>.ok (!a.1,a.2)
theorem TTO.next(h:TTO K E t f)(R:Rl K B Y O1 Z H1 ρ)(e1:Ev O H O1 H1)(w:WR K E B Y (λr=>∀X H',Ev O H X H'->Rl K B Y X Z H' r.2->Q r.1 H') (f ρ)):t Z H1 Q:=
 h B Y O1 Z H1 ρ Q R (w.imp λr q X H' a b=>q X H' (e1.trans a) b)
theorem EO.next(h:EO K E t f)(R:Rl K B Y O1 Z H1 ρ)(e1:Ev O H O1 H1)(w:WR K E B Y (λr=>∀X v H',Ev O H X H'->Rl K B Y X Z H' r.2->Z3 K Y X Z H' r.2 v r.1->Q v H') (f ρ)):t Z H1 Q:=
 h B Y O1 Z H1 ρ Q R (w.imp λr q X v H' b e a=>q X v H' (e1.trans b) e a)
def Mm(l:TTO K E t f)(j:TTO K E u g):TTO K E (Qe t u) (x4 f g):=by
 intro B Y O Z H ρ Q R w;show l B Y O Z H ρ _ R (w.bind.imp λa e m n e1 h=>?_);let(b,i):=a;cases b with
 |true=>show j.next h e1 e
 |false=>show e m n e1 h
def Ql(l:TTO K E t f)(j:TTO K E u g):TTO K E (Uo t u) (xq f g):=by
 intro B Y O Z H ρ Q R w;show l B Y O Z H ρ _ R (w.bind.imp λa e m n e1 h=>?_);let(b,i):=a;cases b with
 |true=>show e m n e1 h
 |false=>show j.next h e1 e
def Jn(e:TTO K E t f):TTO K E (IT t) (lw f):=by intro B Y O Z H ρ Q R w;show e B Y O Z H ρ _ R (w.bind.imp λa b h i e1 g=>b h i e1 g)
def b9:FT:=λρ=>.ok (P,ρ)
theorem Ex:TTO K E GS b9:=λB Y O Z H ρ Q R w=>w O H .refl R
def nt(c b:FE):FE:=λρ=>(az c ρ).bind λa=>if a.1=P then b a.2 else .ok (.fz (.bool I),a.2)
def Fr(d:EO K E C J)(i:EO K E o fb):EO K E (Gj C o) (nt J fb):=by
 intro B Y O Z H ρ Q R w;show mO d B Y O Z H ρ (λc e=>if c=P then o Z e Q else Q (.bl I) e) R (w.bind.imp λa f j e e1 g=>?_);let(b,h):=a;cases b with
 |true=>show i.next g e1 f
 |false=>show f j _ e e1 g (.bl I)
def lX(f g:D->D->z RV)(k h d:FE):FE:=λρ=>(k ρ).bind λa=>(h a.2).bind λb=>(Res.W5 (sH b.2 (cy a.1))).bind λm=>(Res.W5 (sH b.2 (cy b.1))).bind λj=>
 (Res.W5 (f m j)).bind λl=>match l with
  |.fz (.bool P)=>(d b.2).bind λc=>(Res.W5 (sH c.2 (cy b.1))).bind λe=>(Res.W5 (sH c.2 c.1)).bind λi=>(Res.W5 (g e i)).bind λl=>.ok (l.pv,c.2)
  |.fz (.bool I)=>.ok (.fz (.bool I),b.2)
  |_=>.bad
def GZ(D:jJ K r f)(p:jJ K r' g)(ha:EO K E ta fa)(hb:EO K E tb fb)(hc:EO K E tc fc):EO K E (yO r r' ta tb tc) (lX f g fa fb fc):=by
 intro B Y O Z H ρ Q R w;show ha B Y O Z H ρ _ R (w.bind.imp λa G O1 x H1 e1 R1 U=>?_);let(O2,e2,R2,T):=gR R1 U;show hb B Y O2 Z H1 a.2 _ R2 (G.bind.imp λb e O3' y F q u n=>?_);let(i,e3,l,A):=gR u n;let e3:=q.trans e3;let o:=T.keep (nz a.1) e3 (ρ':=b.2);let(dx,L,e):=e.W5;let(dy,J,e):=e.W5;let(rv,N,e):=e.W5;show D i F x y dx dy rv _ l.od (jC l o L) (jC l A J) N ?_;cases rv with
 |ow ds=>show e.elim
 |fz d=>
  intro v H' s dv;cases dv with
  |bl k=>
   show#[k,W,?_];let C:=l.grow s;let e4:Ev i F i H':=Ev.grow s;cases k with
   |false=>show e i _ H' (e1.trans (e2.trans (e3.trans e4))) C (.bl V4)
   |true=>rw[ax W];show hc B Y i Z H' b.2 _ C (WR.imp (WR.bind e) λc h O5 z H5 e5 j S=>?_);let(t,m,h):=h.W5;let(dz,I,h):=h.W5;let(rv,M,h):=h.W5;show p O5 H5 y z t dz rv Q j.od (jC j (A.keep (nz b.1) (e4.trans e5)) m) (jC j S I) M (mw j λO6 v H6 e6 R6 P=>?_);show h O6 v H6 (e1.trans (e2.trans (e3.trans (e4.trans (e5.trans e6))))) R6 P
  |_=>show e.elim
def ar:FA:=λρ=>.ok ([],ρ)
def ae(c:FE)(e:FA):FA:=λρ=>(c ρ).bind λa=>(e a.2).bind λb=>.ok (cy a.1::b.1,b.2)
theorem Rg:AO K E g6 ar:=λB Y O Z H ρ Q R w=>w O [] H .refl R .nil
def Jw(c:EO K E C J)(l:AO K E tr fr):AO K E (d6 C tr) (ae J fr):=by intro B Y O Z H ρ Q R w;show c B Y O Z H ρ _ R (w.bind.imp λa g t x r e1 n j=>?_);let(p,e2,R2,i):=gR n j;show l B Y p Z r a.2 _ R2 (g.bind.imp λb f o e q e3 m h=>?_);show f o (x::e) q (e1.trans (e2.trans e3)) m (.cons #[i.keep (nz a.1) e3,nz a.1] h)
def xB(ρ:aU):G PV->z (G D)
 |[]=>M []
 |p::r=>match sH ρ p with
  |some d=>(match xB ρ r with
   |some ds=>M (d::ds)
   |none=>R)
  |none=>R
theorem yY(R:Rl K B Y O Z H ρ):∀{f:G V} {c:G PV} {ds:G D},Paired (λv pv=>Z3 K Y O Z H ρ v pv/\kX pv) f c->xB ρ c=M ds->Paired (DX O K H) f ds
 |_,_,_,.nil,e=>by ext e;show .nil
 |_,_,_,.cons (l₂:=c) (b:=p) h t,e=>by
  unfold xB at e;cases q:sH ρ p with
  |none=>simp_all
  |some d=>
   rw[q]at e;dsimp only at e;cases g:xB ρ c with
   |none=>simp_all
   |some a=>rw[g]at e;ext e;show .cons (jC R h.1 q) (yY R t g)
def pH(ρ:aU):G PV->z (G D×aU)
 |[]=>M ([],ρ)
 |p::r=>match xj ρ p with
  |some (d,b)=>(match pH b r with
   |some (ds,a)=>M (d::ds,a)
   |none=>R)
  |none=>R
theorem qE:∀{k:G V} {c:G PV} {ds:G D} {O:bG} {ρ ρ':aU},Rl K B Y O Z H ρ->Paired (λv pv=>Z3 K Y O Z H ρ v pv/\kX pv) k c->pH ρ c=M (ds,ρ')->∃X,Ev O H X H/\Rl K B Y X Z H ρ'/\XU X K H k ds
 |_,_,_,O,_,_,A,.nil,e=>by ext e;show#[O,.refl,A,.nil]
 |_,_,_,O,ρ,ρ',A,.cons (l₁:=k) (l₂:=c) (b:=p) h t,e=>by
  unfold pH at e;cases q:xj ρ p with
  |none=>simp_all
  |some r=>
   let(d,a):=r;rw[q]at e;dsimp only at e;cases C:pH a c with
   |none=>simp_all
   |some j=>let(m,g):=j;rw[C]at e;ext e;let(y,e1,u,o):=tL A h.1 q;let i:Paired (λv pv=>Z3 K Y y Z H a v pv/\kX pv) k c:=Paired.Zt t λv pv #[l,f]=>#[l.keep f e1,f];let(w,e2,R2,n):=qE u i C;show#[w,e1.trans e2,R2,.cons (o.ev e2) n]
abbrev FN:=G D->Res RV
def CM(K:lD)(n:Nat)(F:FN):Sp:=λb H Q E=>b.length=n/\∃(B:bG) (ds:G D),(∀a,B a->H a≠R)/\XU B K H b ds/\WR K E B H (Fin B K H Q) (F ds)
def b7(c:FA):FE:=λρ=>(c ρ).bind λa=>(Res.W5 (pH a.2 a.1)).bind λb=>if b.1.length<=1000 then .ok (.fz (.tuple b.1),b.2)else .bad
def cx(c:FA):FE:=λρ=>(c ρ).bind λa=>(Res.W5 (pH a.2 a.1)).bind λb=>if b.1.length<=1000 then .ok (.ow b.1,b.2)else .bad
theorem yq(h:n<=1000):n<=We:=WU h ()
def Op(c:AO K E C J):EO K E (Lh C) (b7 J):=by
 intro B Y O Z H ρ Q R w;show c B Y O Z H ρ _ R (w.bind.imp λa g p t r e1 l i=>?_);let((ds,f),q,b):=g.W5;let(o,e2,R2,e):=qE l i q;dsimp only at b;by_cases hn:ds.length<=1000
 .rw[ax hn]at b;show#[by rw[e.length];show yq hn,Fin.aeC e R2.od (mw R2 λm v n e3 j h=>b m v n (e1.trans (e2.trans e3)) j h)]
 .rw[aE hn]at b;show b.elim
def QJ(c:AO K E C J):EO K E (Q1 C) (cx J):=by
 intro B Y O Z H ρ Q R w;show c B Y O Z H ρ _ R (w.bind.imp λa g p t r e1 l i=>?_);let((ds,f),q,b):=g.W5;let(o,e2,R2,e):=qE l i q;dsimp only at b;by_cases hn:ds.length<=1000
 .rw[ax hn]at b;show#[by rw[e.length];show yq hn,Fin.new e (mw R2 λm v n e3 j h=>b m v n (e1.trans (e2.trans e3)) j h)]
 .rw[aE hn]at b;show b.elim
def BZ(K:lD)(r:G V->Hp->VK->Prop)(f:G D->z RV):Prop:=∀(O:bG) (H:Hp) (xs:G V) (ds:G D) (a:RV) (Q:VK),lM O H->Paired (DX O K H) xs ds->f ds=M a->Fin O K H Q a->r xs H Q
def dU(f:G D->z RV)(c:FA):FE:=λρ=>(c ρ).bind λa=>(Res.W5 (xB a.2 a.1)).bind λds=>(Res.W5 (f ds)).bind λb=>.ok (b.pv,a.2)
def NW(l:BZ K r f)(c:AO K E C J):EO K E (Ax r C) (dU f J):=by intro B Y O Z H ρ Q R w;show c B Y O Z H ρ _ R (w.bind.imp λa g o u t e1 e j=>?_);let(ds,q,b):=g.W5;let(y,h,b):=b.W5;show l o t u ds y Q e.od (yY e j q) h (mw e λn v p e4 m i=>b n v p (e1.trans e4) m i)
def Vs(K:lD)(r:V->z Int->z Int->Hp->VK->Prop)(f:D->z Int->z Int->z RV):Prop:=∀(O:bG) (H:Hp) (x:V) (lo b:z Int) (e:D) (a:RV) (Q:VK),lM O H->DX O K H x e->f e lo b=M a->Fin O K H Q a->r x lo b H Q
end
def v8{l:G α}(h:(l.set i x)[i]?=M y):i<l.length:=by
 rw[Xm]at h;rw[ax W]at h;split at h
 .assumption
 .ext h
section
variable{K:lD}{E:XK}{B O U:bG}{Z H H':Hp}{Y:St}{ρ ρ':aU}{v:V}
def Rl.mut{i:Nat}{ds g:bg D}{a:V5}{f:bg V}(R:Rl K B Z O Y H ρ)(c:ρ[i]?=cL (cL (.ow ds)))(J:Y[i]?=cL (cL (.ref a)))(L:O a)(M:Z a=VY)(hd:XU O K H f g):
  Rl K B Z O Y (a8 H a (.lst f)) (ρ.set i (cL (.ow g))):=by
 let ev:Ev O H O (a8 H a (.lst f)):=Ev.mut L _;show#[λb o e=>by rw[aw (bE e M)];show R.same b o e,R.bo,R.bd,λb m=>?_,by rw[Xh];show R.len,λj x l=>?_,λj k xs G w hj X A t=>?_]
 .by_cases e:b=a
  .rw[e,aI]at m;ext m
  .rw[aw e]at m;show R.od b m
 .rcases bQ l with⟨rfl,ee⟩|⟨r,l⟩
  .ext ee;show#[_,J,a,f,W,L,M,aI,hd.ev ev]
  .let(u,I,q):=R.slot j x l
   show#[u,I,?_];cases x with
   |fz d=>show DV.ev ev q
   |pl i=>show q
   |ow xs=>let(b,N,rfl,T,S,Q,P):=q;let F:b≠a:=λz=>r (R.one j i xs ds (.ref a) l c (by rw[I,z]) J);show#[b,N,W,T,S,by rw[aw F];show Q,P.ev ev]
 .let own:∀{j:Nat} {xs:bg D},(ρ.set i (cL (.ow g)))[j]?=cL (cL (.ow xs))->∃G,ρ[j]?=cL (cL (.ow G)):=λ{j xs} h=>by
   rcases bQ h with⟨rfl,_⟩|⟨_,h⟩
   .show#[_,c]
   .show#[_,h]
  let(p,C):=own hj;let(n,y):=own X;show R.one j k p n w C y A t
theorem qK(h:n<1000000):n<We:=Wx h ()
def Ha:z (z PV)->z (G D)
 |some (M (.ow ds))=>M ds
 |_=>R
def Al(h:Ha o=M ds):o=M (M (.ow ds)):=by
 unfold Ha at h;split at h
 .ext h;rfl
 .ext h
def yH(i:Nat)(c:FE):FE:=λρ=>(Res.W5 (Ha ρ[i]?)).bind λ_=>(c ρ).bind λa=>(Res.W5 (xj a.2 a.1)).bind λb=>(Res.W5 (Ha b.2[i]?)).bind λds=>
 if ds.length<1000000 then .ok (.fz .none,b.2.set i (M (.ow (ds++[b.1]))))else .bad
def P9(p:EO K E te fe):EO K E (Ol K "list" vG (pQ i) (d6 te g6)) (yH i fe):=by
 intro B Z O Y H ρ Q R w;let(u,n,w):=w.W5;let(v,j,a,N,rfl,I,G,q,F):=R.slot i _ (Al n);show#[_,j,.inl #[W,_,ZV.of q],?_];show p B Z O Y H ρ _ R (w.bind.imp λb e L y M e1 z o=>?_);let((d,l),m,e):=e.W5;let(A,e2,R2,t):=tL z o m;let(ds,f,e):=e.W5;let f:=Al f;let(C,k1,J,g,r,k2,k3,k4,k5):=R2.slot i _ f;subst r;rw[j]at k1;ext k1;dsimp only at e;by_cases h:ds.length<1000000
 .rw[ax h]at e;show#[a,g,y,W,W,k4,qK (by rw[k5.length];show h),?_];show e A .Yf _ (e1.trans (e2.trans (Ev.mut k2 _))) (R2.mut f j k2 k3 (k5.append (.cons t .nil))) .Yf
 .rw[aE h]at e;show e.elim
abbrev FG:=PV->aU->Res aU
abbrev Rr:=G D->aU->Res aU
def GO(K:lD)(E:XK)(g:TG)(f:FG):Prop:=
 ∀(B:bG) (Z:Hp) (O:bG) (Y:St) (H:Hp) (ρ:aU) (v:V) (pv:PV) (Q:St->Hp->Prop),Rl K B Z O Y H ρ->Z3 K Z O Y H ρ v pv->WR K E B Z (λρ'=>∀U a H',Ev O H U H'->Rl K B Z U a H' ρ'->Q a H') (f pv ρ)->g v Y H Q
def S7(K:lD)(E:XK)(g:zx)(f:Rr):Prop:=
 ∀(B:bG) (Z:Hp) (O:bG) (Y:St) (H:Hp) (ρ:aU) (b:G V) (ds:G D) (Q:St->Hp->Prop),Rl K B Z O Y H ρ->XU O K H b ds->WR K E B Z (λρ'=>∀U a H',Ev O H U H'->Rl K B Z U a H' ρ'->Q a H') (f ds ρ)->g b Y H Q
def Rl.ahn(R:Rl K B Z O Y H ρ)(h:DV O K H v d):Rl K B Z O (Y.set i (M v)) H (ρ.set i (M (.fz d))):=by
 show#[R.same,R.bo,R.bd,R.od,by rw[Xh,Xh];show R.len,λj x f=>?_,λj k xs o w m l b a=>?_]
 .rcases bQ f with⟨rfl,e⟩|⟨g,f⟩
  .ext e;let:=v8 f;show#[v,by rw[Xm,ax W,ax (by rw[R.len];show this)],h]
  .let(u,t,r):=R.slot j x f;show#[u,by rw[Xm,aE (λz=>g z.symm)];show t,r]
 .rcases bQ m with⟨rfl,n⟩|⟨q,m⟩
  .ext n
  .rcases bQ l with⟨rfl,n⟩|⟨p,l⟩
   .ext n
   .rw[Xm,aE (λz=>q z.symm)]at b;rw[Xm,aE (λz=>p z.symm)]at a;show R.one j k xs o w m l b a
def Rl.ajf(R:Rl K B Z O Y H ρ)(h:Z3 K Z O Y H ρ v (.ow ds)):Rl K B Z O (Y.set i (cL v)) H (ρ.set i (cL (.ow ds))):=by
 let(a,N,rfl,J,I,G,F,q):=h;show#[R.same,R.bo,R.bd,R.od,by rw[Xh,Xh];show R.len,λj x m=>?_,λj k xs p w C l f b=>?_]
 .rcases bQ m with⟨rfl,e⟩|⟨o,m⟩
  .ext e;let:=v8 m;show#[.ref a,by rw[Xm,ax W,ax (by rw[R.len];show this)],a,N,W,J,I,G,F]
  .let(u,y,t):=R.slot j x m;show#[u,by rw[Xm,aE (λz=>o z.symm)];show y,t]
 .rcases bQ C with⟨rfl,M⟩|⟨r,g⟩
  .rcases bQ l with⟨rfl,L⟩|⟨n,l⟩
   .rfl
   .rw[Xm,aE (λz=>n z.symm)]at b
    rcases bQ f with⟨_,e⟩|⟨z,_⟩
    .ext e;show a7 b (q k p l)
    .show a7 W z
  .let A:=g
   rw[Xm,aE (λz=>r z.symm)]at f;rcases bQ l with⟨rfl,M⟩|⟨n,l⟩
   .rcases bQ b with⟨_,e⟩|⟨z,_⟩
    .ext e;show a7 f (q j xs g)
    .show a7 W z
   .rw[Xm,aE (λz=>n z.symm)]at b;show R.one j k xs p w g l f b
def gN(i:Nat):FG:=λpv ρ=>match pv with
 |.ow ds=>.ok (ρ.set i (M (.ow ds)))
 |.fz d=>.ok (ρ.set i (M (.fz d)))
 |.pl j=>(Res.W5 (xj ρ (.pl j))).bind λb=>.ok (b.2.set i (M (.fz b.1)))
def vS:GO K E (mI i) (gN i):=by
 intro B Z O Y H ρ v pv Q R p w;cases pv with
 |ow ds=>show w O _ H .refl (R.ajf p)
 |fz d=>show w O _ H .refl (R.ahn p)
 |pl j=>let((d,a),q,w):=WR.W5 (show WR K E B Z _ ((Res.W5 (xj ρ (.pl j))).bind λb=>.ok (b.2.set i (M (.fz b.1))))from w);let(f,e2,R2,e):=tL R p q;show w f _ H e2 (R2.ahn e)
def RD:Rr:=λds ρ=>match ds with
 |[]=>.ok ρ
 |_=>.bad
def Pz(f:FG)(g:Rr):Rr:=λds ρ=>match ds with
 |[]=>.bad
 |d::r=>(f (.fz d) ρ).bind λa=>g r a
def PF:S7 K E KR RD:=by
 intro B Z O Y H ρ b ds Q R a w;cases a with
 |nil=>show#[W,w O Y H .refl R]
 |cons _ _=>show w.elim
def IQ(n:GO K E t f)(m:S7 K E u g):S7 K E (A7 t u) (Pz f g):=by
 intro B Z O Y H ρ C ds Q R o w;cases o with
 |nil=>show w.elim
 |cons l j=>rename_i v C d ds;show#[_,_,W,n B Z O Y H ρ _ (.fz d) _ R l (WR.imp (WR.bind w) λe i y b A e1 p=>?_)];show m B Z y b A e _ _ Q p (j.ev e1) (i.imp λh q r a z e2 R2=>q r a z (e1.trans e2) R2)
def UY:D->z (G D)
 |.tuple ds=>M ds
 |_=>R
def DF(h:DX O K H x d)(e:UY d=M ds):∃a xs,x=.ref a/\Z4 O K H a xs/\XU O K H xs ds:=by
 ext d<;>ext e;cases h with
 |tup h b=>show#[_,_,W,h,b]
def gT(n:Nat)(f:Rr):FG:=λpv ρ=>(Res.W5 (sH ρ pv)).bind λd=>(Res.W5 (UY d)).bind λds=>if ds.length=n then f ds ρ else .bad
def Om(h:S7 K E t f):GO K E (Ln K n t) (gT n f):=by
 intro B Z O Y H ρ v pv Q R p w;let(d,g,w):=w.W5;let(ds,e,w):=w.W5;let(a,xs,rfl,i,b):=DF (jC R p g) e;by_cases hn:ds.length=n
 .rw[ax hn]at w;show#[a,xs,W,i.1,b.length.trans hn,h B Z O Y H ρ xs ds Q R b w]
 .rw[aE hn]at w;show w.elim
inductive Fl where
 |nx (ρ:aU)
 |rt (rv:RV)
 |bk (ρ:aU)
 |ct (ρ:aU)
abbrev FS:=aU->Res Fl
def adi(K:lD)(B:bG)(Z:Hp)(O:bG)(H:Hp)(D:Ends):Fl->Prop
 |.nx ρ'=>∀U a H',Ev O H U H'->Rl K B Z U a H' ρ'->D.nx a H'
 |.bk ρ'=>∀U a H',Ev O H U H'->Rl K B Z U a H' ρ'->D.bk a H'
 |.ct ρ'=>∀U a H',Ev O H U H'->Rl K B Z U a H' ρ'->D.ct a H'
 |.rt b=>Fin B K Z D.rt b
def SO(K:lD)(E:XK)(t:TS)(g:FS):Prop:=
 ∀(B:bG) (Z:Hp) (O:bG) (Y:St) (H:Hp) (ρ:aU) (D:Ends),Rl K B Z O Y H ρ->WR K E B Z (adi K B Z O H D) (g ρ)->t D Y H
def adi.ev{D:Ends}(e:Ev O H O1 H1)(h:adi K B Z O H D fl):adi K B Z O1 H1 D fl:=by
 cases fl with
 |nx ρ'=>show λU a H' b f=>h U a H' (e.trans b) f
 |bk ρ'=>show λU a H' b f=>h U a H' (e.trans b) f
 |ct ρ'=>show λU a H' b f=>h U a H' (e.trans b) f
 |rt g=>show h
def cC:FS:=λρ=>.ok (.nx ρ)
def bp(f g:FS):FS:=λρ=>(f ρ).bind λa=>match a with
 |.nx b=>g b
 |a=>.ok a
def o9(f:FE):FS:=λρ=>(f ρ).bind λa=>.ok (.nx a.2)
def gJ(f:FE)(g:FG):FS:=λρ=>(f ρ).bind λa=>(g a.1 a.2).bind λb=>.ok (.nx b)
def jD(c:FT)(f g:FS):FS:=λρ=>(c ρ).bind λa=>if a.1=P then f a.2 else g a.2
def B8(ρ:aU):PV->z RV
 |.fz d=>M (.fz d)
 |.ow ds=>M (.ow ds)
 |.pl i=>match ρ[i]? with
  |some (M (.fz d))=>M (.fz d)
  |some (M (.ow ds))=>M (.ow ds)
  |_=>R
def cR(f:FE):FS:=λρ=>(f ρ).bind λa=>(Res.W5 (B8 a.2 a.1)).bind λb=>.ok (.rt b)
theorem Ku:SO K E FY cC:=λB Z O Y H ρ D R w=>w O Y H .refl R
def Q2(j:SO K E t f)(i:SO K E u g):SO K E (F7 t u) (bp f g):=by
 intro B Z O Y H ρ D R w;show j B Z O Y H ρ {D with nx:=u D} R (WR.imp (WR.bind w) λh b=>?_);cases h with
 |nx a=>show λm e n e1 l=>i B Z m e n a D l (WR.imp b λh q=>q.ev e1)
 |rt o=>show b
 |bk a=>show b
 |ct a=>show b
def Je(h:EO K E t f):SO K E (xx t) (o9 f):=by intro B Z O Y H ρ D R w;show h B Z O Y H ρ _ R (w.bind.imp λa b g x i e1 e j=>b g Y i e1 e)
def Hl(h:EO K E t f)(m:GO K E g C):SO K E (zX t g) (gJ f C):=by intro B Z O Y H ρ D R w;show h B Z O Y H ρ _ R (w.bind.imp λa j p x r e1 n l=>?_);show m B Z p Y r a.2 x a.1 _ n l (j.bind.imp λe i o b q e2 R2=>i o b q (e1.trans e2) R2)
def Tm(m:TTO K E c C)(o:SO K E t f)(n:SO K E u g):SO K E (IV c t u) (jD C f g):=by
 intro B Z O Y H ρ D R w;show m B Z O Y H ρ _ R (w.bind.imp λa h j l e1 i=>?_);let(b,e):=a;cases b with
 |true=>show o B Z j Y l e D i (WR.imp h λp q=>q.ev e1)
 |false=>show n B Z j Y l e D i (WR.imp h λp q=>q.ev e1)
def PM{pv:PV}(R:Rl K B Z O Y H ρ)(p:Z3 K Z O Y H ρ v pv)(e:B8 ρ pv=M C)(w:Fin B K Z Q C):Q v H:=by
 let ow:∀{a:V5} {A:G V} {ds:G D},O a->Z a=VY->H a=M (.lst A)->XU O K H A ds->Fin B K Z Q (.ow ds)->Q (.ref a) H:=λ{a A ds} m l g f w=>
  w a A H R.same l g (f.ev (Ev.sub λb z=>z.elim (R.bo b) λe=>by simp_all))
 let fz:∀{d:D},DV O K H v d->Fin B K Z Q (.fz d)->Q v H:=λ{d} h w=>w v H R.same (h.ev (Ev.sub R.bo));cases pv with
 |fz d=>ext e;show fz p w
 |ow ds=>ext e;let(a,A,rfl,m,l,g,f,y):=p;show ow m l g f w
 |pl i=>
  let t:=p;unfold B8 at e;dsimp only at e;cases q:ρ[i]? with
  |none=>simp_all
  |some o=>
   cases o with
   |none=>simp_all
   |some x=>
    let(u,r,n):=R.slot i x q;rw[t]at r;ext r;rw[q]at e;cases x with
    |fz d=>ext e;show fz n w
    |ow ds=>ext e;let(a,A,rfl,m,l,g,f):=n;show ow m l g f w
    |pl j=>show n.elim
def QO(h:EO K E t f):SO K E (ML t) (cR f):=by intro B Z O Y H ρ D R w;show h B Z O Y H ρ _ R (w.bind.imp λa b i x j e1 g e=>?_);let(l,q,b):=b.W5;show PM g e q b
def zJ(K:lD)(J:It)(O:bG)(H:Hp)(ds:G D):Prop:=∀U H',Ev O H U H'->lM U H'->
 (∀i,i<ds.length->J.go i H'/\∀x a,J.yld i H' x a->XQ H' a/\∃d,ds[i]?=M d/\DV U K a x d)/\J.stop ds.length H'
abbrev FI:=aU->Res (G D×aU)
def IO(K:lD)(E:XK)(b:TI)(e:FI):Prop:=
 ∀(B:bG) (Z:Hp) (O:bG) (Y:St) (H:Hp) (ρ:aU) (a:It->Hp->Prop),Rl K B Z O Y H ρ->WR K E B Z (λr=>∀U J H',Ev O H U H'->Rl K B Z U Y H' r.2->zJ K J U H' r.1->a J H') (e ρ)->b Y H a
def pw(gt:FG)(b:FS):G D->FS
 |[],ρ=>.ok (.nx ρ)
 |d::r,ρ=>(gt (.fz d) ρ).bind λa=>(b a).bind λe=>match e with
  |.nx f=>pw gt b r f
  |.ct f=>pw gt b r f
  |.bk f=>.ok (.nx f)
  |.rt g=>.ok (.rt g)
def mV(e:FI)(gt:FG)(b:FS):FS:=λρ=>(e ρ).bind λa=>pw gt b a.1 a.2
def Qb(c:IO K E wi fi)(X:GO K E g gt)(k:SO K E tb b):SO K E (My wi g tb) (mV fi gt b):=by
 intro B Z O Y H ρ D R w;show c B Z O Y H ρ _ R (w.bind.imp λa M F J S e1 Q P=>?_);let(ds,C):=a;dsimp only at M P Q;show#[λi m f H'=>m=ds.length - i/\i<=ds.length/\∃O2 ρ2,Ev F S O2 H'/\Rl K B Z O2 f H' ρ2/\WR K E B Z (adi K B Z O H D) (pw gt b (ds.drop i) ρ2),#[_,W,W8 _,F,C,.refl,Q,M],?_];rintro i m n L ⟨rfl,c,O2,ρ2,e2,R2,w2⟩;let(go,o):=P O2 L e2 R2.od;by_cases u:i<ds.length
 .let(g1,g2):=go i u
  show .inr #[g1,λf H'=>i+1<=ds.length/\∃O2 ρ2,Ev F S O2 H'/\Rl K B Z O2 f H' ρ2/\WR K E B Z (adi K B Z O H D) (pw gt b (ds.drop (i+1)) ρ2),λf H' #[h1,h2]=>#[ds.length - (i+1),by ext,W,h1,h2],λx I y=>?_];let(N,d,hd,dv):=g2 x I y;let ed:ds.drop i=d::ds.drop (i+1):=by let(_,q):=V2.mp hd;rw[Yx u,q]
  rw[ed]at w2;let e3:Ev O2 L O2 I:=Ev.grow N;show X B Z O2 n I ρ2 x (.fz d) _ (R2.grow N) dv (WR.imp (WR.bind w2) λA T O4 z H4 e4 R4=>?_);let l:=e2.trans (e3.trans e4);show k B Z O4 z H4 A _ R4 (WR.imp (WR.bind T) λfl t=>?_);cases fl with
  |nx h=>show λr j G e5 p=>#[u,r,h,l.trans e5,p,t]
  |ct h=>show λr j G e5 p=>#[u,r,h,l.trans e5,p,t]
  |bk h=>show λr j G e5 p=>t r j G (e1.trans (l.trans e5)) p
  |rt rv=>show t
 .let e:i=ds.length:=by ext
  subst e;rw[YL (Wa _)]at w2;show .inl #[o,w2 O2 n L (e1.trans e2) R2]
def eP:D->z (G D)
 |.tuple ds=>M ds
 |.list ds=>M ds
 |_=>R
def DZ(K:lD)(e:TE):TI:=λY H R=>e Y H λx b=>∃a,x=.ref a/\(((∃xs,ZV K b a xs)/\R (Uf K a) b)\/((∃xs,ZI K b a xs)/\R (Ua K a) b))
def FC(y:PE X l C):PI X J l (DZ X.K C):=by
 intro i s Y H R I h;show bT (y i s Y H _ I h) λv g a=>?_;let(x,r,f,t,u):=a;let(a,e,q):=u;subst e;ext t;rcases q with⟨⟨xs,j⟩,q⟩|⟨⟨xs,j⟩,q⟩
 .let(n,A,p,w):=f.list j
  show Zm p.isList ?_;show#[g.heap.objs.size,[g.heap.objs.size],_,_,r,W,f.kept λb o e=>b4 _ e,C7 a _,#[_,ck _ W,W,W],λb m=>?_,q];let e:b=g.heap.objs.size:=by simpa using m
  subst e;show f.abJ (Wa _) (f.Xr.fresh (Wa _))
 .let(n,A,p,w):=f.tuple j
  show aax (show g.heap.IsTuple a n.toArray from p) ?_;show#[g.heap.objs.size,[g.heap.objs.size],_,_,r,W,f.kept λb o e=>b4 _ e,zl a _,#[_,ck _ W,W,W],λb m=>?_,q];let e:b=g.heap.objs.size:=by simpa using m
  subst e;show f.abJ (Wa _) (f.Xr.fresh (Wa _))
def Ap(h:aaW O K H a xs)(hd:XU O K H xs ds):zJ K (Uf K a) O H ds:=by intro U H' e n;let f:=h.ev e;let b:=hd.ev e;show#[λi p=>?_,#[xs,f.1.sq,by rw[hd.length];show Wa _]];let(x,l,_):=b.get (V9 p);show#[#[xs,x,f.1.sq,l],?_];rintro y m ⟨rfl,o⟩;let(d,j,g):=b.afM (o xs f.1.sq);show#[XQ.refl _,d,j,g]
def HJ(h:Z4 O K H a xs)(hd:XU O K H xs ds):zJ K (Ua K a) O H ds:=by intro U H' e n;let f:=h.ev e;let b:=hd.ev e;show#[λi p=>?_,#[xs,f.1,by rw[hd.length];show Wa _]];let(x,l,_):=b.get (V9 p);show#[#[xs,x,f.1,l],?_];rintro y m ⟨rfl,o⟩;let(d,j,g):=b.afM (o xs f.1);show#[XQ.refl _,d,j,g]
def dZ(c:FE):FI:=λρ=>(c ρ).bind λa=>(Res.W5 (xj a.2 a.1)).bind λb=>(Res.W5 (eP b.1)).bind λds=>.ok (ds,b.2)
def Ph(h:EO K E C J):IO K E (DZ K C) (dZ J):=by
 intro B Z O Y H ρ o R w;show h B Z O Y H ρ _ R (w.bind.imp λa b p x i e1 n l=>?_);let((d,j),q,b):=b.W5;let(g,e2,R2,m):=tL n l q;let(ds,e,b):=b.W5;dsimp only at e;cases m with
 |tup h f=>ext e;show#[_,W,.inr #[#[_,h.1],b g _ i (e1.trans e2) R2 (HJ h f)]]
 |lst h f=>ext e;show#[_,W,.inl #[#[_,h.1.sq],b g _ i (e1.trans e2) R2 (Ap h f)]]
 |_=>ext e
def eU(lo:Int)(n:Nat):G D:=(V6 n).map λ(k:Nat)=>.int (lo+(k:Int))
def xg:zJ K (TQ lo n) O H (eU lo n):=by
 intro U H' e f;let a:(eU lo n).length=n:=by ext eU;simp_all
 show#[λi g=>?_,by show n<=_;rw[a];show Wa _];rw[a]at g;show#[g,?_];rintro x b ⟨rfl,rfl⟩;show#[XQ.refl _,.int (lo+i),by ext eU;simp_all,.int _]
def jA(i:Int):Prop:= -(2^62)<=i/\i<2^62
noncomputable instance(i:Int):Decidable (jA i):=by ext jA;infer_instance
def gv:G D->z (G D)
 |[.int j]=>if jA j then M (eU 0 j.toNat)else R
 |_=>R
def lH(f:G D->z (G D))(b:FA):FI:=λρ=>(b ρ).bind λa=>(Res.W5 (xB a.2 a.1)).bind λds=>(Res.W5 (f ds)).bind λxs=>.ok (xs,a.2)
def LA(h:AO K E C J):IO K E (Hu C) (lH gv J):=by
 intro B Z O Y H ρ r R w;show h B Z O Y H ρ _ R (w.bind.imp λa e o t p e1 g l=>?_);let(ds,q,e):=e.W5;let(xs,b,e):=e.W5;let i:=yY g l q;unfold gv at b;split at b
 .rename_i j
  split at b
  .rename_i f
   ext b;cases i with
   |cons n m=>ext m;ext n;show#[j,W,f.1,f.2,e o _ p e1 g xg]
  .ext b
 .ext b
end
section
variable{K:lD}{E:XK}{B O Y:bG}{X H H':Hp}{Z:St}{ρ ρ':aU}{v:V}
def Hd:z PV->z PV
 |some (.fz d)=>M (.fz d)
 |_=>R
def cY(ρ:aU):aU:=ρ.map Hd
def zE{i:Nat}(h:(cY ρ)[i]?=M (M x)):∃d,x=.fz d/\ρ[i]?=M (M (.fz d)):=by
 unfold cY at h;rw[Wg]at h;cases q:ρ[i]? with
 |none=>simp_all
 |some o=>
  rw[q]at h;let a:=Wm h;unfold Hd at a;split at a
  .ext a;show#[_,W,W]
  .ext a
def uy(ρ:aU):G Nat->z (G D×aU)
 |[]=>M ([],ρ)
 |j::r=>match xj ρ (.pl j)with
  |some (d,b)=>(match uy b r with
   |some (c,a)=>M (d::c,a)
   |none=>R)
  |none=>R
def Dj(R:Rl K B X O Z H ρ)(h:xj ρ (.pl i)=M (d,ρ')):∃v,Z[i]?=M (M v):=by
 let a:T3 ρ i ρ[i]?=M (d,ρ'):=h;cases q:ρ[i]? with
 |none=>rw[q]at a;ext a
 |some o=>
  cases o with
  |none=>rw[q]at a;ext a
  |some x=>let(v,b,_):=R.slot i x q;show#[v,b]
theorem xA:∀{b:G Nat} {ds:G D} {O:bG} {ρ ρ':aU},Rl K B X O Z H ρ->uy ρ b=M (ds,ρ')->∃Y k,Ev O H Y H/\Rl K B X Y Z H ρ'/\XU Y K H k ds/\b.map (λj=>(Z[j]?).join)=k.map M
 |[],_,O,_,_,u,e=>by ext e;show#[O,[],.refl,u,.nil,W]
 |j::r,_,O,ρ,ρ',u,e=>by
  unfold uy at e;cases q:xj ρ (.pl j)with
  |none=>simp_all
  |some p=>
   let(d,a):=p;rw[q]at e;dsimp only at e;cases w:uy a r with
   |none=>simp_all
   |some g=>let(c,f):=g;rw[w]at e;ext e;let(v,h):=Dj u q;let(t,e1,m,l):=tL (pv:=.pl j) u h q;let(n,k,e2,R2,i,o):=xA m w;show#[n,v::k,e1.trans e2,R2,.cons (l.ev e2) i,by simp_all]
def c9(gt:FG)(c:FT)(f:FE):G D->aU->G D->Res (G D)
 |[],_,acc=>.ok acc
 |d::r,ρ,acc=>(gt (.fz d) ρ).bind λe=>(c e).bind λb=>if b.1=P then(f b.2).bind λa=>(Res.W5 (xj a.2 a.1)).bind λx=>
   if acc.length<1000000 then c9 gt c f r (cY x.2) (acc++[x.1])else .bad
  else c9 gt c f r (cY b.2) acc
def jN:Res α->Res α
 |.er _=>.bad
 |r=>r
def cQ(n:Nat)(b:G Nat)(e:FI)(gt:FG)(f:FT)(g:FE):FE:=λρ=>(e ρ).bind λa=>(Res.W5 (uy a.2 b)).bind λc=>
 (jN (c9 gt f g a.1 (Wd n R++c.1.map λd=>M (.fz d)) [])).bind λxs=>.ok (.ow xs,c.2)
def zZ{own:G Str}(h:own.length=n):own.map (λ_=>(R:z V))=Wd n R:=by
 subst h
 induction own with
 |nil=>rfl
 |cons x r a=>grind
def Ai(h:WR K E B X b (jN r)):∃a,r=.ok a/\b a:=by
 cases r with
 |ok a=>show#[a,W,h]
 |er x=>show h.elim
 |bad=>show h.elim
def Tt(K:lD)(J:It)(O:bG)(H:Hp)(ds:G D):Prop:=∀Y H',Ev O H Y H'->XQ H H'->lM Y H'->
 (∀i,i<ds.length->J.go i H'/\∀x a,J.yld i H' x a->XQ H' a/\∃d,ds[i]?=M d/\DV Y K a x d)/\J.stop ds.length H'
def Um(K:lD)(E:XK)(b:TI)(e:FI):Prop:=
 ∀(B:bG) (X:Hp) (O:bG) (Z:St) (H:Hp) (ρ:aU) (a:It->Hp->Prop),Rl K B X O Z H ρ->WR K E B X (λr=>∀Y J H',Ev O H Y H'->Rl K B X Y Z H' r.2->Tt K J Y H' r.1->a J H') (e ρ)->b Z H a
theorem IO.s(h:IO K E wi fi):Um K E wi fi:=λB X O Z H ρ b R w=>h B X O Z H ρ b R (w.imp λr q Y J H' e R a=>q Y J H' e R λf g e2 _ n=>a f g e2 n)
def rA(c:own.length=n)(hf:fv.map (·.2)=fj)
  (hi:Um K E wi fi) (hg:GO K E0 g gt) (ht:TTO K E0 tc ft) (he:EO K E0 te fe):EO K E (oY own fv wi g tc te) (cQ n fj fi gt ft fe):=by
 intro B X O Z H ρ Q R w;show hi B X O Z H ρ _ R (w.bind.imp λa w1 O1 J H1 e1 R1 it=>?_);let(ds,ρ1):=a;let((cs,ρ2),qc,w1):=w1.W5;dsimp only at qc it;let(I,vs,e2,R2,ZN,hvs):=xA R1 qc;let(xs,qx,w1):=Ai (WR.bind w1);intro l F;let hB:∀{H':Hp},XQ H1 H'->H' l≠VY->∀a,cI I l a->H' a≠VY:=λ{H'} s nd a h z=>h.elim (λq=>R2.od a (s.free z) q) λe=>nd (by rw[<-e];show z);show#[λi m L H'=>m=ds.length - i/\i<=ds.length/\∃(A:bg D) (G:bg V) (t:aU),XQ H1 H'/\H' l=cL (.lst G)/\XU (cI I l) K H' G A/\L.length=t.length/\(∀(j:Nat) (x:PV),t[j]?=cL (cL x)->∃d u,x=PV.fz d/\L[j]?=cL (cL u)/\DV (cI I l) K H' u d)/\c9 gt ft fe (ds.drop i) t A=.ok xs,
  #[_,W,W8 _,[],[],_,bM F _,aI,.nil,?_,λj x M=>?_,qx],?_]
 .ext iS
  rw[V8,V8,V1,V1,Xt,V1,c,<-ZN.length];let:=eg aad hvs
  grind
 .let hm:fv.map (λp=>(Z[p.2]?).join)=vs.map cL:=by rw[<-hvs,<-hf,WB];rfl
  ext iS;rw[zZ c,hm];by_cases hj:j<n
  .rw[Wh (by rw[Xt];show hj),Ya,ax hj]at M;ext M
  .rw[WN (by rw[Xt];ext),Xt,Wg]at M⊢
   cases qd:cs[j - n]? with
   |none=>rw[qd]at M;ext M
   |some d=>rw[qd]at M;ext M;let(u,hu,du):=ZN.get qd;show#[d,u,W,by rw[hu];rfl,du.ev (Ev.add (bM F _) F)]
 .rintro i m L H' ⟨rfl,hi,A,G,t,s,hD,dys,hl,hsl,f⟩
  let nD:H' l≠VY:=by rw[hD];simp
  let no':=λa z h=>hB s nD a h z;let ev1:=e2.trans (Ev.add s F);let(go,stop):=it (cI I l) H' ev1 s no';by_cases Zo:i<ds.length
  .let(g1,g2):=go i Zo
   show .inr #[g1,λC N=>i+1<=ds.length/\∃(A:bg D) (G:bg V) (t:aU),XQ H1 N/\N l=cL (.lst G)/\XU (cI I l) K N G A/\C.length=t.length/\(∀(j:Nat) (x:PV),t[j]?=cL (cL x)->∃d u,x=PV.fz d/\C[j]?=cL (cL u)/\DV (cI I l) K N u d)/\c9 gt ft fe (ds.drop (i+1)) t A=.ok xs,
    λC N #[Uz0,h2]=>#[ds.length - (i+1),by ext,W,Uz0,h2],λx H3 y=>?_]
   let(s3,d,hd,dv):=g2 x H3 y;let ed:ds.drop i=d::ds.drop (i+1):=by let(_,q):=V2.mp hd;rw[Yx Zo,q]
   rw[ed]at f;let hD3:=s3 _ _ hD;let nD3:H3 l≠VY:=by rw[hD3];simp
   let sv:=s.trans s3;let RC:Rl K (cI I l) H3 (cI I l) L H3 t:=#[XQ.refl _,λ_ h=>h,hB sv nD3,λa z h=>hB sv nD3 a h z,hl,λj x M=>by let(d,u,rfl,Uz0,h2):=hsl j x M;show#[u,Uz0,h2.ev (Ev.grow s3)],λj k xs G w hj=>by let(d,u,e,_):=hsl j _ hj;ext e];unfold c9 at f;let back:∀{O5:bG} {C:St} {N:Hp} {Pz0:aU} {H6:Hp},Rl K (cI I l) H3 O5 C N Pz0->(∀b o,b≠l->N b=cL o->H6 b=cL o)->C.length=(cY Pz0).length/\∀(j:Nat) (x:PV),(cY Pz0)[j]?=cL (cL x)->∃d u,x=PV.fz d/\C[j]?=cL (cL u)/\DV (cI I l) K H6 u d:=λ{O5 C N Pz0 H6} T k=>by show#[by ext cY;rw[V1];show T.len,λj x M=>?_];let(d,rfl,hxx):=zE M;let(u,Uz0,h2):=T.slot j _ hxx;show#[d,u,W,Uz0,DV.ev (λb o h n=>#[k b o (λe=>n (.inr e)) h,n]) (DV.ev (Ev.sub T.bo) h2)]
   show hg _ _ _ L H3 t x (.fz d) _ RC dv ?_;cases qg:gt (.fz d) t with
   |er z=>rw[qg]at f;ext f
   |bad=>rw[qg]at f;ext f
   |ok ρ3=>
    rw[qg,ej]at f;intro O4 σ4 H4 e4 R4;show ht _ _ _ σ4 H4 ρ3 _ R4 ?_;cases qt:ft ρ3 with
    |er z=>rw[qt]at f;ext f
    |bad=>rw[qt]at f;ext f
    |ok b=>
     let(b,ρ4):=b;rw[qt,ej]at f;intro O5 N e5 T;cases b with
     |false=>rw[aE Wv]at f⊢;let(l5,k5):=back T λb o _ h=>h;show#[Zo,A,G,cY ρ4,sv.trans T.same,T.same _ _ hD3,?_,l5,k5,f];show dys.ev (Ev.grow (s3.trans T.same))
     |true=>
      rw[ax W]at f⊢;show he _ _ _ σ4 N ρ4 _ T ?_;cases qe:fe ρ4 with
      |er z=>rw[qe]at f;ext f
      |bad=>rw[qe]at f;ext f
      |ok r=>
       rw[qe,ej]at f;intro O6 yv H6 e6 R6 p6;cases q7:xj r.2 r.1 with
       |none=>rw[q7]at f;ext f
       |some xr=>
        let(xd,ρ7):=xr;rw[q7]at f;let(O7,e7,R7,dv7):=tL R6 p6 q7;let hD7:=R7.same _ _ hD3;let S:(if A.length<1000000 then c9 gt ft fe (ds.drop (i+1)) (cY ρ7) (A++[xd])else .bad)=.ok xs:=f;by_cases hl6:A.length<1000000
        .rw[ax hl6]at S
         let up:∀b o,b≠l->H6 b=cL o->a8 H6 l (.lst (G++[yv])) b=cL o:=λb o hb h=>by rw[aw hb];show h
         let fC:Ev (cI I l) H6 (cI I l) (a8 H6 l (.lst (G++[yv]))):=λb o h n=>#[up b o (λe=>n (.inr e)) h,n];let akz:=dys.ev (Ev.grow (s3.trans R7.same));let(l5,k5):=back R7 up;show#[G,hD7,qK (by rw[dys.length];show hl6),Zo,A++[xd],G++[yv],cY ρ7,λb o h=>?_,aI,?_,l5,k5,S]
         .rw[aw (bE h F)];show R7.same _ _ (sv _ _ h)
         .show(akz.append (.cons (DV.ev (Ev.sub R7.bo) dv7) .nil)).ev fC
        .rw[aE hl6]at S;ext S
  .let e:i=ds.length:=by ext
   subst e;rw[YL (Wa _)]at f;let f:=f;ext f;show .inl #[stop,?_];show w1 (cI I l) (.ref l) H' (e1.trans ev1) (R2.add s F nD) #[l,G,W,.inr W,R2.afb F,hD,dys,λk es hk z=>?_];let(u,Uz0,b,us,e2,g1,g2,g3,g4):=R2.slot k _ hk;rw[z]at Uz0;ext Uz0;ext e2;rw[F]at g3;ext g3
def d8(F:FN)(n:Nat)(c:FA):FE:=λρ=>(c ρ).bind λa=>(Res.W5 (pH a.2 a.1)).bind λb=>if b.1.length=n then(jN (F b.1)).bind λe=>.ok (e.pv,b.2)else .bad
def Oi(c:AO K E C J):EO K E (kF (CM K n F) [] E0 C) (d8 F n J):=by
 intro B X O Z H ρ Q R w;show c B X O Z H ρ _ R (w.bind.imp λa g u A y e1 o j=>?_);let((ds,f),q,b):=g.W5;let(r,e2,R2,e):=qE o j q;dsimp only at b;by_cases hn:ds.length=n
 .rw[ax hn]at b;let(L,h,b):=Ai (WR.bind b);rw[WL];show#[e.length.trans hn,r,ds,λa z l=>R2.od a l z,e,?_];rw[h];show mw R2 λp v t e3 m i=>b p v t (e1.trans (e2.trans e3)) m i
 .rw[aE hn]at b;show b.elim
end
def gj(N:Nat)(g:FS):FN:=λds=>(g (ds.map (λd=>M (.fz d))++Wd (N - ds.length) R)).bind λa=>match a with
 |.rt b=>.ok b
 |.nx _=>.ok (.fz .none)
 |_=>.bad
def EY(g:∀a,t a->H a≠R)(l:XU t K H C ds):Rl K t H t (L2.start N C) H (ds.map (λd=>M (.fz d))++Wd (N.length - ds.length) R):=by
 let r:=l.length;show#[XQ.refl _,λ_ h=>h,g,λa z h=>g a h z,?_,λi x m=>?_,λi j xs p w u=>?_]
 .ext L2.start;simp_all
 all_goals
  let b:∀{i:Nat} {x:PV},(ds.map (λd=>M (PV.fz d))++Wd (N.length - ds.length) R)[i]?=M (M x)->∃d,x=.fz d/\ds[i]?=M d:=λ{i x} h=>by
   by_cases u:i<ds.length
   .rw[Wh (by rw[V1];show u),Wg]at h
    cases q:ds[i]? with
    |none=>rw[q]at h;ext h
    |some d=>rw[q]at h;ext h;show#[d,W,W]
   .rw[WN (by rw[V1];ext),Ya]at h;split at h<;>ext h
 .let(d,rfl,n):=b m;let(v,f,o):=l.get n;show#[v,?_,o];let u:=(V2.mp f).1;ext L2.start;rw[Wh (by rw[V1];show u),Wg,f];rfl
 .let(d,e,_):=b u;ext e
def Vl(F:Fun K x qual st f fd)(S:Ye N ps (au st))(c:ps.length=n)
  (r:∀(a:Ld) (A:WK) (outer:G Env) (s:V7) (H:Hp) (E:XK),X0 k (A.deeper (WT qual (au st) s.heap.objs.size f a))->
   ∃t,PSs (eF lu C w K mg base N qual (au st) f a A outer s H E).nox (bO st) t/\SO K E t g):FnOk C w K mg base lu (k+1) f fd ps (CM K n (gj N.length g)):=by
 show F.ok S (λL H Q E h=>h.1.trans c.symm) (λa A outer s H L Q E l h=>?_);let(t,i,j):=r a A outer s H E l;let(v,B,ds,m,p,h):=h;show#[t,i,j B H B _ H _ _ (EY m p) (WR.imp (WR.bind h) λo q=>?_)];cases o with
 |rt T=>show q
 |nx J=>show λy b u e R=>q .Yf u R.same .Yf
 |bk J=>show q.elim
 |ct J=>show q.elim
end L3
namespace L3
open PySem PySem.Spec PyProof.Rows L2
def OpR.or(h:OpR X f r)(c:OpR X f r'):OpR X f (λx y H Q=>r x y H Q\/r' x y H Q):=by
 intro a s b H x y v u Q I g e q;rcases q with q|q
 .show h a s b H x y v u Q I g e q
 .show c a s b H x y v u Q I g e q
def Os(I:Inv X pins σ H s)(h:Ze X.K H l xs):xs.length<=We/\∃(a:G B) (n:Nat),Vals xs a/\xs.length=a.length/\s.heap.get? l=M {cls:=.type "list",data:=.seq a.toArray n}:=by
 rcases h with(h|⟨o,h⟩)|⟨a,n,h1,f,b⟩
 .show I.aha h
 .let(_,z,a,n,r,e):=I.Xr l _ h;show#[z,a,n,r,r.length,e]
 .show#[f,a,n,b,b.length,I.kIn _ _ h1]
def Nz(K:lD):R2:=λx y H Q=>∃l b xs zs,x=.ref l/\y=.ref b/\Ze K H l xs/\Ze K H b zs/\xs.length+zs.length<=We/\∀p,H p=R->Q (.ref p) (a8 H p (.lst (xs++zs)))
def Kf:OpR X (XJ .Add) (Nz X.K):=by
 intro f s A H x y v u Q I j i h;let(l,b,xs,B,rfl,rfl,p,t,F,q):=h;ext j;ext i;let(z,g,n,r,G,e):=Os I p;let(C,a,E,m,o,e2):=Os I t;show PySem.P.add_list e e2 ?_ (by simp_all);let w:g.toArray++a.toArray=(g++a).toArray:=by simp
 rw[w];show#[.ref _,_,I.agR (r.append m) (by simp_all),W,q _ I.fresh]
def MW(K:lD):R2:=λx y H Q=>∃l k xs,x=.ref l/\y=.int k/\Ze K H l xs/\ -(2^63)<=k/\k<2^63/\xs.length*k.toNat<=We/\
 ∀p,H p=R->Q (.ref p) (a8 H p (.lst (Wd k.toNat xs).flatten))
def J9:OpR X (XJ .Mult) (MW X.K):=by
 intro p s O H x y v u Q I E C h;let(l,k,xs,rfl,rfl,J,M,L,G,q):=h;ext E;let(t,rfl):=C;let(z,b,n,r,R,e):=Os I J;let f:b.toArray.size*k.toNat<=We:=by simp_all
 let o:¬b.toArray.size*k.toNat>(2^63 - 1)/8:=by
  let:(We:Nat)<=(2^63 - 1)/8:=by decide
  ext
 let g:¬(!Xe.List.listFitsIndex k)=V0:=by rw[fitsIndex_both M L];simp_all
 let i:¬Xe.List.listTooLong (b.toArray.size*k.toNat)=V0:=by rw[Ht f];simp_all
 let j:ZT (λA w=>A++w) #v[] (Wd (if b.toArray.isEmpty=V0 then 0 else k.toNat) b.toArray)=(Wd k.toNat b).flatten.toArray:=by
  let N:=λm=>by let:=oM b m [];rw[YD]at this;show this
  rw[N];cases b with
  |nil=>simp
  |cons a P=>rfl
 show ac6 () #[_,e,W] (λB=>aa2 B k t) noFill_list_mul F.fills_int_mul F.slot_int_rmul repeat_list F.slot_int_index.lookup
  (ZE F.slot_int_rmul (aa2 s k t) F.entry_int_rmul (F.args_int_rmul_2 _ _) (int___rmul___int_list k t l b.toArray n)
   #[e,W,#[_,e,W],ZE F.slot_list_mul #[_,e,W] F.entry_list_mul (F.args_list_mul_2 _ _) (AutoListH.list___mul___list_int_3 l b.toArray n k t g o i) #[e,?_]])
 rw[j];show#[.ref _,_,I.agR (r.rep k.toNat) (by rw[Bk,Nat.mul_comm];show G),W,q _ I.fresh]
section
variable{K:lD}
def fI(g:Int->Int->Int):D->D->z RV
 |.int i,.int j=>M (.fz (.int (g i j)))
 |_,_=>R
def fB(g:Int->Int->Bool):D->D->z RV
 |.int i,.int j=>M (.fz (.bool (g i j)))
 |_,_=>R
def QN(C:Int->Int->Bool)(g:Int->Int->Int):D->D->z RV
 |.int i,.int j=>if C i j=P then M (.fz (.int (g i j)))else R
 |_,_=>R
def Gy(h:fI g J C=M o):∃i j,J=.int i/\C=.int j/\o=.fz (.int (g i j)):=by
 unfold fI at h;split at h
 .ext h;show#[_,_,W,W,W]
 .ext h
def No:jJ K (wy λi j=>.int (g i j)) (fI g):=by intro O H x y l f h Q n b a e q;let(i,j,rfl,rfl,rfl):=Gy e;ext b;ext a;show#[i,j,W,W,q.at (.int _)]
def Bg:jJ K (wy λi j=>.bl (g i j)) (fB g):=by
 intro O H x y l f h Q n b a e q;unfold fB at e;split at e
 .ext e;ext b;ext a;show#[_,_,W,W,q.at (.bl _)]
 .ext e
def sk(h:∀i j,C i j=P->o i j):jJ K (rI o λi j=>.int (g i j)) (QN C g):=by
 intro O H x y p l m Q n b a e q;unfold QN at e;split at e
 .split at e
  .rename_i f;ext e;ext b;ext a;show#[_,_,W,W,h _ _ f,q.at (.int _)]
  .ext e
 .ext e
theorem Ch(h:DX O K H x (.list ds)):∃a xs,x=.ref a/\Ze K H a xs/\XU O K H xs ds:=h
theorem II(h:DX O K H x (.tuple ds)):∃a xs,x=.ref a/\Z4 O K H a xs/\XU O K H xs ds:=DF h W
def NC(K:lD):R2:=λx y H Q=>wy (λi j=>.int (i+j)) x y H Q\/Nz K x y H Q\/Nj K x y H Q
theorem Ka:OpR X (XJ .Add) (NC X.K):=OpR.or P3 (OpR.or Kf LJ)
def c7:D->D->z RV
 |.int i,.int j=>M (.fz (.int (i+j)))
 |.list xs,.list ys=>if xs.length+ys.length<=1000000 then M (.ow (xs++ys))else R
 |.tuple xs,.tuple ys=>if xs≠[]/\xs.length+ys.length<=1000000 then M (.fz (.tuple (xs++ys)))else R
 |_,_=>R
theorem BQ(h:n<=1000000):n<=We:=WU h ()
def XU.ne(h:XU O K H vs ds):vs=[]↔ds=[]:=by ext h<;>simp
def JT:jJ K (NC K) c7:=by
 intro O H x y u r t Q n m l e q;unfold c7 at e;split at e
 .ext e;ext m;ext l;show .inl #[_,_,W,W,q.at (.int _)]
 .split at e
  .rename_i h;ext e;let(a,xs,rfl,i,f):=Ch m;let(b,j,rfl,o,g):=Ch l;show .inr (.inl #[a,b,xs,j,W,W,i,o,BQ (by rw[f.length,g.length];show h),Fin.new (f.append g) q])
  .ext e
 .split at e
  .rename_i h;ext e;let(a,xs,rfl,i,f):=II m;let(b,j,rfl,o,g):=II l;show .inr (.inr #[a,b,xs,j,W,W,i.1,o.1,λz=>h.1 (f.ne.mp z),BQ (by rw[f.length,g.length];show h.2),λz=>?_,λ_=>Fin.aeC (f.append g) n q]);let p:=g.ne.mp z;subst p;rw[WL]at q;show q.at (.tup i f)
  .ext e
 .ext e
def E8(K:lD):R2:=λx y H Q=>rI aeN (λi j=>.int (i*j)) x y H Q\/MW K x y H Q
theorem Mq:OpR X (XJ .Mult) (E8 X.K):=OpR.or QZ J9
def gG(i:Int):Bool:=decide (-(2^64)<i/\i<2^64)
theorem rj(h:gG i=P): -(2^64)<i/\i<2^64:=a6 h
def zO:D->D->z RV
 |.int i,.int j=>if(gG i||gG j)=P then M (.fz (.int (i*j)))else R
 |.list xs,.int k=>if xs.length*k.toNat<=1000000/\ -(2^63)<=k/\k<2^63 then M (.ow (Wd k.toNat xs).flatten)else R
 |_,_=>R
def Mc:jJ K (E8 K) zO:=by
 intro O H x y m j l Q n g f e q;unfold zO at e;split at e
 .split at e
  .rename_i b
   ext e;ext g;ext f;show .inl #[_,_,W,W,?_,q.at (.int _)];rcases(Xp _ _).mp b with z|z
   .show .inl (rj z)
   .show .inr (rj z)
  .ext e
 .split at e
  .rename_i b;ext e;ext f;let(a,xs,rfl,i,h):=Ch g;show .inr #[a,_,xs,W,W,i,b.2.1,b.2.2,BQ (by rw[h.length];show b.1),Fin.new (h.flat _) q]
  .ext e
 .ext e
def rM:=fI λi j=>i - j
theorem Jf:jJ K (wy λi j=>.int (i - j)) rM:=No
def OG(_ j:Int):Bool:=decide (0<j)
def pG:=QN OG λi j=>i % j
theorem Lf:jJ K (rI (λ_ j=>0<j) λi j=>.int (i % j)) pG:=sk λi j h=>a6 h
def Pn(_ j:Int):Bool:=decide (0<j/\j<2^128)
def zH:=QN Pn λi j=>i/j
theorem J6:jJ K (rI (λ_ j=>0<j/\j.natAbs.log2<9000) λi j=>.int (i/j)) zH:=sk λi j h=>by
 let b:=a6 h;show#[b.1,?_];let a:j.natAbs<2^128:=by ext
 let e:=(Nat.log2_lt ()).mpr a;ext
def xD(i j:Int):Bool:=decide (0<=j/\j<=1000000/\i.natAbs<2^64)
def An(i j:Int)(h:xD i j=P):GF i j:=by unfold xD at h;show(show 0<=j/\j<=1000000/\i.natAbs<2^64 from a6 h)
def EF:=QN xD λi j=>i^j.toNat
theorem LC:jJ K (rI GF λi j=>.int (i^j.toNat)) EF:=sk An
def Jt:=QN xD λi j=>i*2^j.toNat
theorem KM:jJ K (rI GF λi j=>.int (i*2^j.toNat)) Jt:=sk An
def Uv(_ j:Int):Bool:=decide (0<=j)
def D4:=QN Uv λi j=>i/2^j.toNat
theorem Kg:jJ K (rI (λ_ j=>0<=j) λi j=>.int (i/2^j.toNat)) D4:=sk λi j h=>a6 h
def yd:=fI λi j=>Xe.bitAnd i j
theorem LK:jJ K (wy λi j=>.int (Xe.bitAnd i j)) yd:=No
def J1:=fB λi j=>decide (i<j)
def N3:=fB λi j=>decide (i<=j)
def DB:=fB λi j=>decide (j<i)
def N8:=fB λi j=>decide (j<=i)
theorem PL:jJ K (wy λi j=>.bl (decide (i<j))) J1:=Bg
theorem QR:jJ K (wy λi j=>.bl (decide (i<=j))) N3:=Bg
theorem Qt:jJ K (wy λi j=>.bl (decide (j<i))) DB:=Bg
theorem Rb:jJ K (wy λi j=>.bl (decide (j<=i))) N8:=Bg
def lO(d:D):Bool:=d.canLay0&&decide (d.depth<=64)
def cP(d e:D):z RV:=if(lO d&&e.canLay0)=P then M (.fz (.bool (V3.eqv d e)))else R
def sI(d e:D):z RV:=if(lO d&&e.canLay0)=P then M (.fz (.bool (!V3.eqv d e)))else R
def OQ:jJ K (J7 K I) cP:=by
 intro O H x y h g i Q n f b e q;unfold cP at e;split at e
 .rename_i a;ext e;unfold lO at a;simp only[VZ,decide_eq_true_eq]at a;show#[h,g,f.plain,b.plain,a.1.1,a.2,a.1.2,q.at (.bl _)]
 .ext e
def Oe:jJ K (J7 K P) sI:=by
 intro O H x y h g i Q n f b e q;unfold sI at e;split at e
 .rename_i a;ext e;unfold lO at a;simp only[VZ,decide_eq_true_eq]at a;show#[h,g,f.plain,b.plain,a.1.1,a.2,a.1.2,q.at (.bl _)]
 .ext e
def qI:D->D->z RV
 |.none,.none=>M (.fz (.bool P))
 |_,.none=>M (.fz (.bool I))
 |_,_=>R
def pI:D->D->z RV
 |.none,.none=>M (.fz (.bool I))
 |_,.none=>M (.fz (.bool P))
 |_,_=>R
def EE(h:DX O K H x d)(hd:d≠.none):x≠.Yf:=by
 cases d with
 |none=>simp_all
 |list ds=>let(a,xs,rfl,_):=Ch h;simp
 |tuple ds=>let(a,xs,rfl,_):=II h;simp
 |bool b=>ext h;simp
 |int b=>ext h;simp
 |str b=>ext h;simp
 |dict b=>ext h
def IW:jJ K (λx y H Q=>y=.Yf/\Q (.bl (decide (x=.Yf))) H) qI:=by
 intro O H x y i g h Q n b a e q;unfold qI at e;split at e
 .ext e;ext b;ext a;show#[W,q.at (.bl _)]
 .rename_i f;ext e;ext a;show#[W,?_];rw[a5 (EE b f)];show q.at (.bl _)
 .ext e
def K8:jJ K (λx y H Q=>y=.Yf/\Q (.bl (!decide (x=.Yf))) H) pI:=by
 intro O H x y i g h Q n b a e q;unfold pI at e;split at e
 .ext e;ext b;ext a;show#[W,q.at (.bl _)]
 .rename_i f;ext e;ext a;show#[W,?_];rw[a5 (EE b f)];show q.at (.bl _)
 .ext e
def KK(K:lD)(neg:Bool):R2:=λx y H Q=>∃d ds,L2.DV K H x d/\(L2.DV K H y (.list ds)\/L2.DV K H y (.tuple ds))/\d.canLay0=P/\V3.canLayAll0 ds=P/\d.depth<=64/\Q (.bl (if neg then !(ds.any λe=>V3.eqv e d)else ds.any λe=>V3.eqv e d)) H
def PB(p:X.A.units+65<cLine):OpR X (Xs .In) (KK X.K V4):=by
 intro g s o H x y v u Q I l e h;let(d,ds,n,a,j,i,m,q):=h;let(as,f):=n.reads I l;let hm:min (V3.depthAll ds) d.depth<=64:=WU (aev _ _) m;rcases a with a|a
 .let(bs,b):=a.reads I e;show aiT b f i j () #[.bl _,H,I,W,q]
 .let(bs,b):=a.reads I e;show aiU b f i j () #[.bl _,H,I,W,q]
def Ml(p:X.A.units+65<cLine):OpR X (Xs .NotIn) (KK X.K P):=by
 intro g s o H x y v u Q I l e h;let(d,ds,n,a,j,i,m,q):=h;let(as,f):=n.reads I l;let hm:min (V3.depthAll ds) d.depth<=64:=WU (aev _ _) m;rcases a with a|a
 .let(bs,b):=a.reads I e;show aiV b f i j () #[.bl _,H,I,W,q]
 .let(bs,b):=a.reads I e;show aiW b f i j () #[.bl _,H,I,W,q]
def IK(d e:D):z RV:=match eP e with
 |some ds=>if(lO d&&V3.canLayAll0 ds)=P then M (.fz (.bool (ds.any λe=>V3.eqv e d)))else R
 |none=>R
def sL(d e:D):z RV:=match eP e with
 |some ds=>if(lO d&&V3.canLayAll0 ds)=P then M (.fz (.bool (!ds.any λe=>V3.eqv e d)))else R
 |none=>R
def D8(a:DX O K H y e)(h:eP e=M ds):L2.DV K H y (.list ds)\/L2.DV K H y (.tuple ds):=by
 unfold eP at h;split at h
 .ext h;show .inr a.plain
 .ext h;show .inl a.plain
 .ext h
def Po:jJ K (KK K I) IK:=by
 intro O H x y i h j Q n f b e q;unfold IK at e;split at e
 .rename_i ds g
  split at e
  .rename_i a;ext e;unfold lO at a;simp only[VZ,decide_eq_true_eq]at a;show#[i,ds,f.plain,D8 b g,a.1.1,a.2,a.1.2,q.at (.bl _)]
  .ext e
 .ext e
def Ll:jJ K (KK K P) sL:=by
 intro O H x y i h j Q n f b e q;unfold sL at e;split at e
 .rename_i ds g
  split at e
  .rename_i a;ext e;unfold lO at a;simp only[VZ,decide_eq_true_eq]at a;show#[i,ds,f.plain,D8 b g,a.1.1,a.2,a.1.2,q.at (.bl _)]
  .ext e
 .ext e
def aX(d e:D):z RV:=match eP d,e with
 |some ds,.int i=>(lz ds i).map .fz
 |_,_=>R
def DN(h:XU O K H xs ds)(e:lz ds i=M d):∃v,lz xs i=M v/\DV O K H v d:=by
 unfold lz at e⊢;rw[h.length];cases q:IJ ds.length i with
 |none=>simp_all
 |some j=>rw[q]at e;show h.get e
def EW:jJ K (Sf K) aX:=by
 intro O H x y t o r Q n l m e q;unfold aX at e;split at e
 .rename_i ds i b
  ext m;cases p:lz ds i with
  |none=>simp_all
  |some d=>
   rw[p]at e;ext e;unfold eP at b;split at b
   .ext b;let(a,xs,rfl,h,g):=II l;let(v,f,j):=DN g p;show .inr (.inl #[a,xs,i,v,W,W,h.1,f,q.at j])
   .ext b;let(a,xs,rfl,h,g):=Ch l;let(v,f,j):=DN g p;show .inl #[a,xs,i,v,W,W,h.sq,f,q.at j]
   .ext b
 .ext e
def pP:D->z RV
 |.int i=>M (.fz (.int (-i)))
 |_=>R
def K7:U3 K (rU λi=>.int (-i)) pP:=by
 intro O H x f b Q n a e q;unfold pP at e;split at e
 .ext e;ext a;show#[_,W,q.at (.int _)]
 .ext e
def br:G D->z RV
 |[d]=>(match eP d with
  |some ds=>M (.fz (.int ds.length))
  |none=>R)
 |_=>R
def D5:BZ K (λxs H Q=>∃x n,xs=[x]/\Mu K x H n/\Q (.int n) H) br:=by
 intro O H xs ds i Q n h e q;unfold br at e;split at e
 .split at e
  .rename_i es f
   ext e;cases h with
   |cons b g=>
    ext g;unfold eP at f;split at f
    .ext f;let(a,xs,rfl,b,g):=II b;show#[_,xs.length,W,.inr #[xs,b.1,W],by rw[g.length];show q.at (.int _)]
    .ext f;let(a,xs,rfl,b,g):=Ch b;show#[_,xs.length,W,.inl #[xs,b.sq,W],by rw[g.length];show q.at (.int _)]
    .ext f
  .ext e
 .ext e
def eE:G D->z RV
 |[.tuple ds]=>M (.fz (.tuple ds))
 |[.list ds]=>M (.fz (.tuple ds))
 |_=>R
def GY:BZ K (λxs H Q=>∃p ys,xs=[.ref p]/\((ZV K H p ys/\∀l,H l=R->Q (.ref l) (a8 H l (.tup ys)))\/(ZI K H p ys/\Q (.ref p) H))) eE:=by
 intro O H xs ds h Q n g e q;unfold eE at e;split at e
 .ext e
  cases g with
  |cons b f=>ext f;let(a,xs,rfl,b,f):=II b;show#[a,xs,W,.inr #[b.1,q.at (.tup b f)]]
 .ext e
  cases g with
  |cons b f=>ext f;let(a,xs,rfl,b,f):=Ch b;show#[a,xs,W,.inl #[b.sq,Fin.aeC f n q]]
 .ext e
def sW:G D->z RV
 |[d]=>(eP d).map .ow
 |_=>R
def Ly:BZ K (λxs H Q=>∃p ys,xs=[.ref p]/\(ZV K H p ys\/ZI K H p ys)/\∀l,H l=R->Q (.ref l) (a8 H l (.lst ys))) sW:=by
 intro O H xs ds i Q n g e q;unfold sW at e;split at e
 .rename_i d
  cases g with
  |cons b f=>
   ext f;cases h:eP d with
   |none=>simp_all
   |some es=>
    rw[h]at e;ext e;unfold eP at h;split at h
    .ext h;let(a,xs,rfl,b,f):=II b;show#[a,xs,W,.inr b.1,Fin.new f q]
    .ext h;let(a,xs,rfl,b,f):=Ch b;show#[a,xs,W,.inl b.sq,Fin.new f q]
    .ext h
 .ext e
def sj:G D->z RV
 |[.int i,.int j]=>M (.fz (.int (if j>i then j else i)))
 |_=>R
def KB:BZ K (λxs H Q=>∃i j,xs=[.int i,.int j]/\Q (.int (if j>i then j else i)) H) sj:=by
 intro O H xs ds h Q n b e q;unfold sj at e;split at e
 .ext e
  cases b with
  |cons g a=>
   cases a with
   |cons a f=>ext f;ext g;ext a;show#[_,_,W,q.at (.int _)]
 .ext e
end
end L3
namespace PySem
open Sem (wp)
open AutoSeq1 (wpAny_loadPart')
open Builtin Builtin.Str
section
variable{Y:Ws}{w:WO}{A:WK}{E:Ld->V7->Prop}{s:V7}
def ny(a:s.heap.IsTupleIter it t i)(j:s.heap.IsTuple t items)(h:items[i]?=M x)
  (m:∀c,c.IsTupleIter it t (i+1)->Heap.SameBut it s.heap c->Q x {s with heap:=c}):wpAny (model Y w) A (Xe.SmallTypes.nextOf (.ref it)) Q E s:=by
 let(o,e,l,b):=id a;let(n,f,_,p,g):=j;ext Xe.SmallTypes.nextOf;show CL (Yh a.typeIs F.slot_tuple_iterator_next
  (YE F.slot_tuple_iterator_next a.typeIs F.entry_tuple_iterator_next ?_ (F.args_tuple_iterator_next_1 _)))
 show wpAny _ _ (field (.ref it) 0>>=_) _ _ s;show CL (WQ e b W ?_);show wpAny _ _ (if(Ld.ref t==Ld.none)=P then _ else _) _ _ s;rw[aE (show¬((Ld.ref t==Ld.none)=P)from Wv)];show CL (WQ e b W ?_);show CL (Xz f g ?_);simp only[Xo,h];show CL (Xq e b (by simp) (Wb #[x,W,Wb (m _ ?_ (Heap.SameBut.update ..))]));show#[_,cv _ e (dN (dt b _)),(Obj.cls_mapFields ..).trans l,by rw[dt b];simp[rawInt]]
def oo(j:A.handled=R)(a:s.heap.IsTupleIter it t i)(m:s.heap.IsTuple t items)(l:items[i]?=R)
  (n:∀c e,Heap.ExtBut it s.heap c->(∃o,c.get? e=M o/\o.cls=.type "StopIteration")->E (.ref e) {s with heap:=c}):wpAny (model Y w) A (Xe.SmallTypes.nextOf (.ref it)) Q E s:=by
 let(o,f,r,h):=id a;let(p,b,_,q,g):=m;ext Xe.SmallTypes.nextOf;show CL (Yh a.typeIs F.slot_tuple_iterator_next
  (YE F.slot_tuple_iterator_next a.typeIs F.entry_tuple_iterator_next ?_ (F.args_tuple_iterator_next_1 _)))
 show wpAny _ _ (field (.ref it) 0>>=_) _ _ s;show CL (WQ f h W ?_);show wpAny _ _ (if(Ld.ref t==Ld.none)=P then _ else _) _ _ s;rw[aE (show¬((Ld.ref t==Ld.none)=P)from Wv)];show CL (WQ f h W ?_);show CL (Xz b g ?_);simp only[Xo,l];show CL (ZF (CL (Xq f h (by simp) ?_)));show CL ?_;simp only[newExc,newTuple];show CL (XT ?_ (by size_fits));show CL (abX (by first|rfl|(simp only[firstArgMember];rfl)) ?_);show XT ?_ (by size_fits);simp only[raiseNew];show CL (wpAny_handled ?_)
 first|rw[show A.in1.handled=R from j]|rw[j]
 show CL (Wb (wpAny_throw ?_));show n _ _ (((Heap.SameBut.update ..).extBut.push _).push _) #[_,ck _ W,W]
end
end PySem
namespace L3
open PySem PySem.Spec PyProof.Rows L2
def JZ(I:Inv X pins σ H s)(j:ZI X.K H a xs)(i:ZI X.K H a ys):xs=ys:=by
 let(f,h,(o,e1,_,n,l),_):=I.tuple j;let(b,g,(m,e2,_,p,e),_):=I.tuple i;rw[e1]at e2;ext e2;rw[l]at e;let:f=b:=by
  let q:f.toArray=b.toArray:=by injection e
  simpa using q
 subst this;show h.inj g
def C3{bs:G Bool}(r:Vals (bs.map V.bl) o){i:Nat}(h:o[i]?=M v):∃b,bs[i]?=M b/\v=.bool b:=by
 let e:=r.length;rw[V1]at e;let g:i<bs.length:=by rw[e];show(V2.mp h).1
 let(u,a,f):=r.get (by rw[Wg,V9 g];rfl);rw[h]at a;ext a;show#[bs[i],V9 g,f]
def yB(bs:G Bool):((V6 bs.length).all λi=>(bs[i]?).getD P)=bs.all id:=by
 rw[aew,Xj,Xj];constructor
 .intro h b a;let(i,f,e):=ac7.mp a;let:=h i (WX.mpr f);rw[V9 f,e]at this;show this
 .intro h i f;let f:=WX.mp f;rw[V9 f];show h _ (Yb f)
section
variable{X:Cx}
def HX(w:X.calm=P):Yg X (.builtin "all") (λxs H Q=>∃(p:U) (bs:bg Bool),xs=[.ref p]/\ZV X.K H p (bs.map V.bl)/\Q (.bl (bs.all id)) H):=by
 intro f s B H xs C Q I r h;let(l,bs,rfl,n,q):=h;let(u,rfl,m):=jE r;ext m;let(j,N,pl,G):=I.list n;let a:=N.length;rw[V1]at a;let z:l<s.heap.objs.size:=by let(_,_,e,_):=pl;show cj e
 show call_all_walk (Zm pl.isList ?_);show#[s.heap.objs.size,[s.heap.objs.size,l],[s.heap.objs.size],j.toArray.size,_,_,λi=>(bs[i]?).getD P,W,Walks.list (A:=X.A.in1) (I.ok.hd w) _ l (Wz z) j.toArray,
  #[#[_,ck _ W,W,W],pl.isList.push _],λi v F L M y g=>?_,λJ E t=>?_]
 .let(b,e,rfl):=C3 N (by simpa using y);simp only[e,adz]at g;show Xy g
 .rw[Wt,<-a,yB];show#[.bl _,H,I.kept λb o e=>t b o (λhm=>?_) (b4 _ e),W,q];rw[WI.mp hm]at e;show Xk _ (cj e)
end
section
variable{K:lD}
def pf:G D->z (G Bool)
 |[]=>M []
 |.bool b::r=>(pf r).map (b::·)
 |_=>R
theorem BS:∀{xs:G V} {ds:G D} {bs:G Bool},XU O K H xs ds->pf ds=M bs->xs=bs.map V.bl
 |_,_,_,.nil,e=>by ext e;rfl
 |_,_,bs,.cons (ds:=r) h t,e=>by
  cases h with
  |bl b=>
   let a:(pf r).map (b::·)=M bs:=e;cases q:pf r with
   |none=>rw[q]at a;ext a
   |some f=>rw[q]at a;ext a;rw[BS t q];rfl
  |_=>ext e
def pM:G D->z RV
 |[.list ds]=>(pf ds).map λbs=>.fz (.bool (bs.all id))
 |_=>R
def PD:BZ K (λxs H Q=>∃(p:U) (bs:G Bool),xs=[.ref p]/\ZV K H p (bs.map V.bl)/\Q (.bl (bs.all id)) H) pM:=by
 intro O H xs ds j Q n g e q;unfold pM at e;split at e
 .rename_i es
  cases i:pf es with
  |none=>rw[i]at e;ext e
  |some bs=>
   rw[i]at e;ext e;cases g with
   |cons f b=>ext b;let(a,h,rfl,f,b):=Ch f;let:=BS b i;subst this;show#[a,bs,W,f.sq,q.at (.bl _)]
 .ext e
def jR:G D->z (G Int)
 |[]=>M []
 |.int b::r=>(jR r).map (b::·)
 |_=>R
theorem kS:∀{xs:G V} {ds:G D} {bs:G Int},XU O K H xs ds->jR ds=M bs->xs=bs.map V.int
 |_,_,_,.nil,e=>by ext e;rfl
 |_,_,bs,.cons (ds:=r) h t,e=>by
  cases h with
  |int b=>
   let a:(jR r).map (b::·)=M bs:=e;cases q:jR r with
   |none=>rw[q]at a;ext a
   |some f=>rw[q]at a;ext a;rw[kS t q];rfl
  |_=>ext e
def g7(ns:G Int):jR (ns.map .int)=M ns:=by
 induction ns with
 |nil=>rfl
 |cons n r a=>show(jR (r.map .int)).map (n::·)=_;rw[a];rfl
def za(x:Int):G Int->G Int
 |[]=>[x]
 |y::r=>if x<=y then x::y::r else y::za x r
def jX:G Int->G Int
 |[]=>[]
 |x::r=>za x (jX r)
theorem oj(x:Int):∀l,(za x l).Perm (x::l)
 |[]=>aaR _
 |y::r=>by
  ext za;split
  .show aaR _
  .show((oj x r).cons y).trans (amS x y r)
theorem eD:∀l,(jX l).Perm l
 |[]=>aaR _
 |x::r=>(oj x _).trans ((eD r).cons x)
theorem oU(x:Int):∀l:G Int,l.Pairwise (·<=·)->(za x l).Pairwise (·<=·)
 |[],_=>by simp[za]
 |y::r,h=>by
  ext za;let(f,g):=Zi.mp h;split
  .rename_i a
   show Zi.mpr #[λz b=>?_,h];rcases WE.mp b with e|e
   .rw[e];show a
   .let:=f z e;ext
  .rename_i a
   show Zi.mpr #[λz b=>?_,oU x r g];rcases WE.mp ((oj x r).mem_iff.mp b)with e|e
   .rw[e];ext
   .show f z e
theorem dY:∀l,(jX l).Pairwise (·<=·)
 |[]=>ZY
 |x::r=>oU x _ (dY r)
theorem kT{l m:G Int}(e:l.Perm m)(f:l.Pairwise (·<=·))(hm:m.Pairwise (·<=·)):l=m:=e.eq_of_pairwise (λa b _ _ h g=>aeX h g) f hm
def uQ:G D->z RV
 |[.list ds]=>(match jR ds with
  |some a=>if a.length<64 then M (.ow ((jX a).map .int))else R
  |none=>R)
 |_=>R
def su(ns:G Int):XU O K H (ns.map V.int) (ns.map .int):=by
 induction ns with
 |nil=>show .nil
 |cons n r a=>show .cons (.int n) a
def C6:BZ K (λxs H Q=>∃(p:U) (ns:G Int),xs=[.ref p]/\ZV K H p (ns.map V.int)/\ns.length<64/\∀(l:U) (b:G Int),H l=R->b.Perm ns->b.Pairwise (·<=·)->Q (.ref l) (a8 H l (.lst (b.map V.int)))) uQ:=by
 intro O H xs ds t Q n f e q;unfold uQ at e;split at e
 .rename_i es
  cases r:jR es with
  |none=>rw[r]at e;ext e
  |some ns=>
   rw[r]at e;dsimp only at e;split at e
   .rename_i g
    ext e;cases f with
    |cons i h=>ext h;let(a,o,rfl,i,h):=Ch i;let:=kS h r;subst this;show#[a,ns,W,i.sq,g,λl b g f j=>?_];let m:=kT (f.trans (eD ns).symm) j (dY ns);subst m;show Fin.new (su _) q l g
   .ext e
 .ext e
end
def U1(K:lD)(H:Hp)(x:V)(t:String):Prop:=match x with
 |.Yf=>t= "NoneType"
 |.bl _=>t= "bool"
 |.int _=>t= "int"
 |.str _=>t= "str"
 |.ref a=>(t= "list"/\∃xs,ZV K H a xs)\/(t= "tuple"/\∃xs,ZI K H a xs)
 |_=>False
def NK(K:lD):G V->Hp->VK->Prop:=λxs H Q=>∃x n t b,xs=[x,.ty n]/\U1 K H x t/\adL K (.type t) (.type n)=M b/\Q (.bl b) H
def Dn{X:Cx}:Yg X (.builtin "isinstance") (NK X.K):=by
 intro j s v H xs C Q I r h;let(x,n,t,b,rfl,ty,e,q):=h;let(u,w,rfl,g,A):=Aa r;obtain rfl:w=Ld.type n:=A;let f:∀l,EP X j v Q (.bool b) {s with toks:=l}:=λl=>#[.bl b,H,I.tok l,W,q];cases x with
 |Yf=>cases(show t= "NoneType" from ty);cases(show u=Ld.none from g);show Yz PySem.W.kitx_none I.kIn True.intro e (λz=>nomatch z) f
 |bl y=>cases(show t= "bool" from ty);cases(show u=Ld.bool y from g);show Yz PySem.W.kitx_bool I.kIn True.intro e (λz=>nomatch z) f
 |int i=>cases(show t= "int" from ty);let(t,q):=(show∃t,u=Ld.int i t from g);ext q;show Yz PySem.W.kitx_int I.kIn True.intro e (λz=>nomatch z) f
 |str y=>cases(show t= "str" from ty);let(t,q):=(show∃t,u=Ld.str y t from g);ext q;show Yz PySem.W.kitx_str I.kIn True.intro e (λz=>nomatch z) f
 |ref a=>
  cases(show u=Ld.ref a from g);rcases ty with⟨rfl,xs,h⟩|⟨rfl,xs,h⟩
  .let(B,r,(o,k,p,m,_),_):=I.list h;show Yz PySem.W.kitx_list I.kIn #[_,p,m] e (λz=>nomatch z) f
  .let(B,r,(o,p,m,_),_):=I.tuple h;show Yz PySem.W.kitx_tuple I.kIn #[o,p,m] e (λz=>nomatch z) f
 |_=>show(show False from ty).elim
section
variable{K:lD}{E:XK}{B O N:bG}{X H L:Hp}{T:L2.St}{Y S:aU}{v:V}
def G1:D->z String
 |.none=>M "NoneType"
 |.bool _=>M "bool"
 |.int _=>M "int"
 |.str _=>M "str"
 |.list _=>M "list"
 |.tuple _=>M "tuple"
 |.dict _=>R
def L5(n t:String):Bool:=n==t||(n== "int"&&t== "bool")
def MH{n t:String}(b:n= "int"\/n= "bool"\/n= "str"\/n= "list"\/n= "tuple"){d:D}(a:G1 d=M t):adL K (.type t) (.type n)=M (L5 n t):=by ext d<;>(ext a;try (rcases b with rfl|rfl|rfl|rfl|rfl<;>rfl))
def TD{x:V}{d:D}{t:String}(h:DX O K H x d)(e:G1 d=M t):U1 K H x t:=by
 cases d with
 |none=>ext e;ext h;rfl
 |bool b=>ext e;ext h;rfl
 |int b=>ext e;ext h;rfl
 |str b=>ext e;ext h;rfl
 |dict b=>ext e
 |list ds=>ext e;let(a,xs,rfl,f,_):=Ch h;show .inl #[W,xs,f.sq]
 |tuple ds=>ext e;let(a,xs,rfl,f,_):=II h;show .inr #[W,xs,f.1]
def jW(n:String)(b:FE):FE:=λY=>(b Y).bind λa=>(Res.W5 (sH a.2 a.1)).bind λd=>(Res.W5 (G1 d)).bind λt=>.ok (.fz (.bool (L5 n t)),a.2)
def Q4{n:String}{c:TE}{j:FE}(k:n= "int"\/n= "bool"\/n= "str"\/n= "list"\/n= "tuple")(l:EO K E c j):EO K E (Ax (NK K) (d6 c (d6 (tC (.ty n)) g6))) (jW n j):=by intro B X O T H Y Q R w;show l B X O T H Y _ R (w.bind.imp λa b h x i e1 f g=>?_);let(d,q,b):=b.W5;let(t,e,b):=b.W5;show#[x,n,t,L5 n t,W,TD (jC f g q) e,MH k e,b h _ i e1 f (.bl _)]
end
def B6{P:Ws}{w:WO}{K:lD}{D l:Str->b3 Ld}{k:Nat}{N a:U}{fd:Xf}{x:Str}{F:FN}{b:V7}{c:bg Ld}{ns:bg Int}
  (p:K.In b.heap) (f:b.heap.Ns Wr D) (y:b.heap.Ns builtinsNs l) (g:∀x:Str,x≠ "__name__"->l x=Xa x) (i:b.heap.NoLimit) (t:b.gens= #v[])
  (L:b.heap.get? a=M {cls:=.type "list",data:=.seq c.toArray}) (S:IntsAre c ns) (m:ns.length<=We) (q:X0 k callerA)
  (G:∀base:Heap,K.In base->base.Ns Wr D->FnOk P w K D base lu k N fd [x] (CM K 1 F)) (j:∀(s:V7) (u:Ld),aah s fd #[[u],[]] [(x,u)])
  (B:F [.list (ns.map .int)]=.ok (.fz (.bool V0))):
  codeAny (model P w) callerA (.call (.ref N) #[[.ref a],[]]) (λr d=>r=.ok (.ret (.bool V0))/\OldK b.heap d.heap/\d.os=b.os/\AllBare d.gens) b:=by
 show GH (sp:=λc H Q E=>CM K 1 F c H Q E\/(c.length=1/\False)) p f y g i t L S m q (λbase k1 k2=>(G base k1 k2).imp λc H Q E h=>?_) j (λH I A=>?_) λ_ _ _ h=>h
 .rcases h with h|h
  .show h
  .show h.2.elim
 .show .inl #[W,noO,[.list (ns.map .int)],λa z=>z.elim,.cons (.lst #[?_,λz=>z.elim] (su ns)) .nil,?_]
  .rcases A with h|⟨o,W3,n,h1,h2,h3,X,Y,T⟩
   .show .inl h
   .let e:=p a o h1;rw[L]at e;ext e;ext X;show .inr #[c,0,h1,by rw[V1];show m,by simpa using T]
  .rw[B];show λv J s C=>by ext C;rfl
def Sq{l:adA}{n k:Nat}{q:Ws}{i:bg Str}{N:(Str->b3 Ld)->Heap->Prop}{A:WO->Heap->Prop}{d:DefRec}{K:Params->lD}{F:FN}{x:Str}
  (D:l.most=cL n) (m:n<=We) (r:d.params.defaults=[]) (C:X0 k callerA)
  (J:∀(w:WO) (h:Heap),A w h->(K w.params).In h)
  (O:∀(w:WO) (b:Str->b3 Ld) (c:V5) (h:Heap),(K w.params).In h->h.Ns Wr b->b d.name=cL (.ref c)->
   ∃fd:Xf,(∀(s:V7) (u:Ld),aah s fd #[[u],[]] [(x,u)])/\∀base:Heap,(K w.params).In base->base.Ns Wr b->FnOk l.prog w (K w.params) b base lu k c fd [x] (CM (K w.params) 1 F))
  (L:∀ns:bg Int,ns.length<=n->F [.list (ns.map .int)]=.ok (.fz (.bool V0))):
  PySem.W.WalkO q i N A l.row.toRowW d [] (λf g=>agH f g):=by
 show Att.attach_call D r λw z y b Q c o P U M a g ns G Y R S H p v j e E=>?_;let B:=J w _ Y;let(fd,I,t):=O w b c _ B G.T.g p;show B6 B G.T.g G.T.b G.T.builtins G.T.nolimit E v j (WU e m) C t I (L ns e)
def UU{P:Ws}{w:WO}{K:lD}{d:Str->z B}{base:Heap}{x a:Str}{b:XY}{f:U}{fd:Xf}{N c:G Str}{k n m:Nat}{g:FS}{h:FN}(F:Fun K x a b f fd)(S:Ye N c (au b))(l:c.length=n)(hm:N.length=m)(i:h=gj m g)
  (j:∀(e:B) (A:WK) (outer:G Env) (s:V7) (H:Hp) (E:XK),X0 k (A.deeper (WT a (au b) s.heap.objs.size f e))->
   ∃t,PSs (eF lu P w K d base N a (au b) f e A outer s H E).nox (bO b) t/\SO K E t g):FnOk P w K d base lu (k+1) f fd c (CM K n h):=by
 subst i hm;show Vl F S l j
abbrev T9(P:Ws)(w:WO)(K:lD)(b:Str->z B)(base:Heap)(k:Nat)(x:Str)(a:G Str)(n:Nat)(F:FN):Prop:=wH P w K b base k x a (CM K n F)
end L3
namespace L3
open PySem L2
abbrev nd(n:Nat):D:=.int (n:Int)
def bh(ns:G Nat):G D:=ns.map nd
def gH(ns:G Nat):(bh ns).length=ns.length:=by ext bh;rw[V1]
def Jj(xs a:G Nat):bh (xs++a)=bh xs++bh a:=by ext bh;rw[Wu]
def vI{i:Nat}(h:(bh ns)[i]?=M d):∃n,ns[i]?=M n/\d=nd n:=by
 unfold bh at h;rw[Wg]at h;cases e:ns[i]? with
 |none=>rw[e]at h;ext h
 |some n=>rw[e]at h;show#[n,W,(Wm h).symm]
theorem aM(a:α):Res.W5 (M a)=.ok a:=W
theorem yo(a:α):jN (Res.ok a)=.ok a:=W
theorem zL(i:Nat)(a:aU):aa i a=A2 a i a[i]? :=W
theorem HI(a:aU)(i:Nat)(d:D):A2 a i (M (M (.fz d)))=.ok (.fz d,a):=W
theorem FL(a:aU)(i:Nat)(ds:G D):A2 a i (M (M (.ow ds)))=.ok (.pl i,a):=W
theorem nQ(ds:G D):Ha (M (M (.ow ds)))=M ds:=W
theorem DR(i:Nat)(d:D)(a:aU):gN i (.fz d) a=.ok (a.set i (M (.fz d))):=W
theorem xt(b:Bool):UD (.bool b)=M b:=W
theorem kr(ds:G D):br [.tuple ds]=M (.fz (nd ds.length)):=W
theorem gZ(ds:G D):br [.list ds]=M (.fz (nd ds.length)):=W
theorem ou(i j:Int):J1 (.int i) (.int j)=M (.fz (.bool (decide (i<j)))):=W
theorem AF(i j:Int):DB (.int i) (.int j)=M (.fz (.bool (decide (j<i)))):=W
theorem wM(i j:Int):N8 (.int i) (.int j)=M (.fz (.bool (decide (j<=i)))):=W
theorem fL(i j:Int):c7 (.int i) (.int j)=M (.fz (.int (i+j))):=W
theorem qp(i j:Int):rM (.int i) (.int j)=M (.fz (.int (i - j))):=W
def wk(h:0<j):pG (.int i) (.int j)=M (.fz (.int (i % j))):=by show(if OG i j=P then _ else _)=_;rw[ax (show OG i j=P from a4 h)]
def HY(h:0<j/\j<2^128):zH (.int i) (.int j)=M (.fz (.int (i/j))):=by show(if Pn i j=P then _ else _)=_;rw[ax (show Pn i j=P from a4 h)]
def Jc(h: -(2^64)<i/\i<2^64):zO (.int i) (.int j)=M (.fz (.int (i*j))):=by show(if(gG i||gG j)=P then _ else _)=_;rw[ax (by rw[show gG i=P from a4 h,YM])]
def KZ(h: -(2^64)<j/\j<2^64):zO (.int i) (.int j)=M (.fz (.int (i*j))):=by show(if(gG i||gG j)=P then _ else _)=_;rw[ax (by rw[show gG j=P from a4 h,aaN])]
def na(h:jA j):gv [.int j]=M (eU 0 j.toNat):=by show(if jA j then _ else _)=_;rw[ax h]
def Ix(n:Nat):eU 0 n=bh (V6 n):=by unfold eU bh;apply Xx;intro k _;rw[agI]
def kP(h:n<=1000000):gv [nd n]=M (bh (V6 n)):=by rw[na (by ext jA;ext),Ix,Xo]
def DP(h:f C=.ok (.nx o)):bp f g C=g o:=by ext bp;rw[h];rfl
def FW(h:f o=.ok (.rt C)):bp f g o=.ok (.rt C):=by ext bp;rw[h];rfl
def UE(h:c C=.ok (P,o)):jD c f g C=f o:=by ext jD;rw[h];rfl
def Sv(h:c C=.ok (I,o)):jD c f g C=g o:=by ext jD;rw[h];rfl
def zq(h:J C=.ok (ds,o)):mV J gt b C=pw gt b ds o:=by ext mV;rw[h];rfl
def QT(h:j<=1000000/\i.natAbs<2^64):EF (.int i) (nd j)=M (.fz (.int (i^j))):=by show(if xD i (j:Int)=P then M (RV.fz (.int (i^((j:Nat):Int).toNat)))else R)=_;rw[ax (by ext xD;show a4 #[by ext,by ext,h.2]),Xo]
theorem M7:EF (.int 10) (.int 18)=M (.fz (.int (10^18))):=QT #[by decide,by decide]
def kz(gt:FG)(f:FT)(g:FE)(d:D)(c:aU):Res (z D×aU):=(gt (.fz d) c).bind λe=>(f e).bind λb=>if b.1=P then(g b.2).bind λa=>(Res.W5 (xj a.2 a.1)).bind λx=>.ok (M x.1,cY x.2)else .ok (R,cY b.2)
def qL(h:kz gt ft fe d J=.ok (o,C))(g:acc.length<1000000):c9 gt ft fe (d::r) J acc=c9 gt ft fe r C (acc++o.toList):=by
 unfold kz at h;show(gt (.fz d) J).bind _=_;cases l:gt (.fz d) J with
 |er x=>rw[l]at h;ext h
 |bad=>rw[l]at h;ext h
 |ok f=>
  rw[l,ej]at h;rw[ej];cases j:ft f with
  |er x=>rw[j]at h;ext h
  |bad=>rw[j]at h;ext h
  |ok b=>
   let(b,e):=b;rw[j,ej]at h;rw[ej];cases b with
   |false=>rw[aE Wv]at h⊢;ext h;rw[ac8,WL]
   |true=>
    rw[ax W]at h⊢;cases i:fe e with
    |er x=>rw[i]at h;ext h
    |bad=>rw[i]at h;ext h
    |ok a=>
     rw[i,ej]at h;rw[ej];cases m:xj a.2 a.1 with
     |none=>rw[m]at h;ext h
     |some x=>rw[m]at h;ext h;show(if acc.length<1000000 then _ else _)=_;rw[ax g];rfl
def JV(c:Nat)(h:c<=1000):Jt (.int 1) (nd c)=M (.fz (nd (2^c))):=by show(if xD 1 (c:Int)=P then M (RV.fz (.int (1*2^((c:Nat):Int).toNat)))else R)=_;rw[ax (by ext xD;show a4 #[by ext,by ext,by decide]),Int.one_mul,Xo];congr 3
def Im(a b:Nat):decide ((a:Int)=(b:Int))=decide (a=b):=by
 by_cases h:a=b
 .rw[a4 h,a4 (by rw[h])]
 .rw[a5 h,a5 ()]
theorem Gh(a b:Nat):V3.eqv (nd a) (nd b)=decide (a=b):=Im a b
def iG(a b:Int):cP (.int a) (.int b)=M (.fz (.bool (decide (a=b)))):=by rfl
def vE(a b:Int):sI (.int a) (.int b)=M (.fz (.bool (!decide (a=b)))):=by rfl
def yZ(a b:Nat):cP (nd a) (nd b)=M (.fz (.bool (decide (a=b)))):=by rw[iG,Im]
theorem jw:∀ns:G Nat,V3.canLayAll0 (bh ns)=P
 |[]=>rfl
 |n::r=>by show(V3.canLay0 (nd n)&&V3.canLayAll0 (bh r))=P;rw[jw r];rfl
theorem jt:∀ns:G Nat,V3.depthAll (bh ns)=0
 |[]=>rfl
 |n::r=>by show max (V3.depth (nd n)) (V3.depthAll (bh r))=0;rw[jt r];rfl
theorem z7:∀xs ys:G Nat,V3.eqvAll (bh xs) (bh ys)=decide (xs=ys)
 |[],[]=>rfl
 |[],_::_=>rfl
 |_::_,[]=>rfl
 |n::r,m::t=>by show(V3.eqv (nd n) (nd m)&&V3.eqvAll (bh r) (bh t))=_;rw[z7 r t,Gh];rw[aew];simp
def QG(ns:G Nat):lO (.list (bh ns))=P:=by show(V3.canLayAll0 (bh ns)&&decide (V3.depthAll (bh ns)+1<=64))=P;rw[jw,jt];rfl
def vK(xs a:G Nat):cP (.list (bh xs)) (.list (bh a))=M (.fz (.bool (decide (xs=a)))):=by ext cP;rw[QG,show V3.canLay0 (.list (bh a))=P from jw a,Yj,ax W,show V3.eqv (.list (bh xs)) (.list (bh a))=_ from z7 xs a]
def LM(x:Nat)(xs:G Nat):((bh xs).any λe=>V3.eqv e (nd x))=decide (x∈xs):=by
 induction xs with
 |nil=>rfl
 |cons y r a=>
  show(V3.eqv (nd y) (nd x)||(bh r).any λe=>V3.eqv e (nd x))=_;rw[a,Gh];by_cases h:y=x
  .rw[a4 h,a4 (show x∈y::r by rw[h];show Wk),YM]
  .rw[a5 h,Zz]
   by_cases g:x∈r
   .rw[a4 g,a4 (Wf _ g)]
   .rw[a5 g,a5 (λz=>(WE.mp z).elim (λe=>h e.symm) g)]
def wj(x:Nat)(xs:G Nat):IK (nd x) (.tuple (bh xs))=M (.fz (.bool (decide (x∈xs)))):=by show(if(lO (nd x)&&V3.canLayAll0 (bh xs))=P then _ else _)=_;rw[jw,show lO (nd x)=P from rfl,Yj,ax W,LM]
theorem zT{i:Nat}(h:xs[i]?=M v):lz xs (i:Int)=M v:=AL h
def M6(h:ds[i]?=M d):aX (.tuple ds) (nd i)=M (.fz d):=by show(lz ds (i:Int)).map RV.fz=_;rw[zT h];rfl
def wz(h:ds[i]?=M d):aX (.list ds) (nd i)=M (.fz d):=by show(lz ds (i:Int)).map RV.fz=_;rw[zT h];rfl
section
variable{Y ρ1 X N:aU}{S Z E T:FE}{pa L pv:PV}{dx J d:D}{rv:RV}{Q:bg PV}{ds:bg D}
def ag(h:Y[i]?=M (M (.fz d))):aa i Y=.ok (.fz d,Y):=by rw[zL,h,HI]
def jZ(h:Y[i]?=M (M (.ow ds))):aa i Y=.ok (.pl i,Y):=by rw[zL,h,FL]
theorem aD:pC d Y=.ok (.fz d,Y):=W
def aB(c:S Y=.ok (pa,ρ1))(g:Z ρ1=.ok (L,X))(b:sH X (cy pa)=M dx)(a:sH X L=M J)(e:f dx J=M rv):aF f S Z Y=.ok (rv.pv,X):=by ext aF;rw[c,ej,g,ej,b,aM,ej,a,aM,ej,e,aM,ej]
def A9(c:S Y=.ok (pa,ρ1))(a:sH ρ1 pa=M dx)(b:f dx=M rv):CP f S Y=.ok (rv.pv,ρ1):=by ext CP;rw[c,ej,a,aM,ej,b,aM,ej]
def aN(c:S Y=.ok (pa,ρ1))(a:sH ρ1 pa=M (.bool b)):az S Y=.ok (b,ρ1):=by ext az;rw[c,ej,a,aM,ej,xt,aM,ej]
def vF(c:f Y=.ok (a,ρ1))(e:a=P->g ρ1=.ok (b,ρ1)):x4 f g Y=.ok (a&&b,ρ1):=by
 ext x4;rw[c,ej];cases a with
 |true=>rw[ax W,e W,ZA]
 |false=>rw[aE Wv,aac]
def gW(c:f Y=.ok (a,ρ1))(e:a=I->g ρ1=.ok (b,ρ1)):xq f g Y=.ok (a||b,ρ1):=by
 ext xq;rw[c,ej];cases a with
 |true=>rw[ax W,YM]
 |false=>rw[aE Wv,e W,Zz]
def eB(b:f Y=.ok (a,ρ1)):lw f Y=.ok (!a,ρ1):=by ext lw;rw[b,ej]
def mJ(c:az S Y=.ok (a,ρ1))(e:a=P->Z ρ1=.ok (.fz (.bool b),ρ1)):nt S Z Y=.ok (.fz (.bool (a&&b)),ρ1):=by
 ext nt;rw[c,ej];cases a with
 |true=>rw[ax W,e W,ZA]
 |false=>rw[aE Wv,aac]
theorem ay:ar Y=.ok ([],Y):=W
def aj(b:S Y=.ok (pa,ρ1))(a:fr ρ1=.ok (Q,X)):ae S fr Y=.ok (cy pa::Q,X):=by ext ae;rw[b,ej,a,ej]
def bU(b:fr Y=.ok (Q,ρ1))(hd:xB ρ1 Q=M ds)(a:f ds=M rv):dU f fr Y=.ok (rv.pv,ρ1):=by ext dU;rw[b,ej,hd,aM,ej,a,aM,ej]
def cM(c:fr Y=.ok (Q,ρ1))(hd:pH ρ1 Q=M (ds,X))(b:ds.length=n)(a:F ds=.ok rv):d8 F n fr Y=.ok (rv.pv,X):=by ext d8;rw[c,ej,hd,aM,ej];dsimp only;rw[ax b,a,yo,ej]
def hW(b:fr Y=.ok (Q,ρ1))(hd:pH ρ1 Q=M (ds,X))(a:ds.length<=1000):b7 fr Y=.ok (.fz (.tuple ds),X):=by ext b7;rw[b,ej,hd,aM,ej];dsimp only;rw[ax a]
def qG(b:fr Y=.ok (Q,ρ1))(hd:pH ρ1 Q=M (ds,X))(a:ds.length<=1000):cx fr Y=.ok (.ow ds,X):=by ext cx;rw[b,ej,hd,aM,ej];dsimp only;rw[ax a]
def ip(c:S Y=.ok (pa,ρ1))(a:sH ρ1 pa=M dx)(b:G1 dx=M t):jW n S Y=.ok (.fz (.bool (L5 n t)),ρ1):=by ext jW;rw[c,ej,a,aM,ej,b,aM,ej]
def yL(g:Y[i]?=M (M (.ow es)))(c:T Y=.ok (pa,ρ1))(b:xj ρ1 pa=M (d,X))(f:X[i]?=M (M (.ow ds)))(e:ds.length<1000000)(a:X.set i (M (.ow (ds++[d])))=x):yH i T Y=.ok (.fz .none,x):=by ext yH;rw[g,nQ,aM,ej,c,ej,b,aM,ej];dsimp only;rw[f,nQ,aM,ej,ax e,a]
def dn(c:fi Y=.ok (ds,ρ1))(b:uy ρ1 o=M (cs,X))(a:jN (c9 gt C T ds (Wd n R++cs.map λd=>M (.fz d)) [])=.ok xs):cQ n o fi gt C T Y=.ok (.ow xs,X):=by ext cQ;rw[c,ej];dsimp only;rw[b,aM,ej];dsimp only;rw[a,ej]
theorem i7:aX (.tuple (a::r)) (.int 0)=M (.fz a):=M6 W
theorem jO:aX (.tuple (a::b::r)) (.int 1)=M (.fz b):=M6 W
theorem rh:aX (.tuple (a::b::c::r)) (.int 2)=M (.fz c):=M6 W
def Px(b:k<=1000)(a:xs.length<=1000):zO (.list xs) (nd k)=M (.ow (Wd k xs).flatten):=by show(if xs.length*((k:Nat):Int).toNat<=1000000/\ -(2^63)<=(k:Int)/\(k:Int)<2^63 then M (RV.ow (Wd ((k:Nat):Int).toNat xs).flatten)else R)=_;rw[Xo,ax #[WU (aal a b) (),by ext,by ext]]
def d5(c:T Y=.ok (pa,ρ1))(a:xj ρ1 pa=M (d,X))(b:eP d=M es):dZ T Y=.ok (es,X):=by ext dZ;rw[c,ej,a,aM,ej];dsimp only;rw[b,aM,ej]
def uA(b:fr Y=.ok (Q,ρ1))(hd:xB ρ1 Q=M ds)(a:f ds=M es):lH f fr Y=.ok (es,ρ1):=by ext lH;rw[b,ej,hd,aM,ej,a,aM,ej]
def yW(b:T Y=.ok (pv,ρ1))(a:g pv ρ1=.ok X)(c:X=N):gJ T g Y=.ok (.nx N):=by ext gJ;rw[b,ej];dsimp only;rw[a,ej,c]
def BP(a:T Y=.ok (pv,ρ1)):o9 T Y=.ok (.nx ρ1):=by ext o9;rw[a,ej]
def n6(b:T Y=.ok (pv,ρ1))(a:B8 ρ1 pv=M rv):cR T Y=.ok (.rt rv):=by ext cR;rw[b,ej];dsimp only;rw[a,aM,ej]
def K4(e:gt (.fz d) Y=.ok ρ1)(b:ft ρ1=.ok (P,X))(g:T X=.ok (pv,N))(a:xj N pv=M (x,C))(f:cY C=o):kz gt ft T d Y=.ok (M x,o):=by ext kz;rw[e,ej,b,ej,ax W,g,ej,a,aM,ej,f]
def Te(b:gt (.fz d) Y=.ok ρ1)(a:C ρ1=.ok (I,X))(e:cY X=o):kz gt C T d Y=.ok (R,o):=by ext kz;rw[b,ej,a,ej,aE Wv,e]
end
end L3
namespace PySem
open Sem (wp)
open Builtin
open AutoSeq1 (wpAny_loadPart')
theorem nW:fillsNumberSlot (.type "tuple") "mul"=pure I:=
 fillsNumberSlot_seq F.slot_tuple_mul.lookup (by left) F.slot_tuple_rmul.lookup (by left)
def vY:seqRepeat? (.type "tuple")=pure (M (.builtin "tuple.__mul__")):=by unfold seqRepeat?;rw[seqSlot_of (name:= "__mul__") F.slot_tuple_mul.lookup (by left),seqSlot_of (name:= "__rmul__") F.slot_tuple_rmul.lookup (by left)];rfl
theorem qJ(a:Int)(t:Tok)(l:U)(b:Array B)(n:Nat)(dct:z U)(f:Array (z B)):
  Meets (Xe.«int.__rmul__» #[[.int a t,.ref l],[]]) (λ_ R s=>s.heap.get? l=M {cls:=.type "tuple",dict:=dct,data:=.seq b n,slots:=f}/\R (.ok (.ret Ld.notImplemented)) s):=
 .of_wp λe w A R s h=>by let(m,g,d,i,j):=s;let(o,h):=h;wp_walk;show#[_,W,h]
theorem xk(l:U)(a:Array B)(n:Nat)(dct:z U)(e:Array (z B))(u:Tok):
  Meets (Xe.«tuple.__mul__» #[[.ref l,.int 1 u],[]]) (λ_ R s=>s.heap.get? l=M {cls:=.type "tuple",dict:=dct,data:=.seq a n,slots:=e}/\R (.ok (.ret (Ld.ref l))) s):=
 .of_wp λb w A R s h=>by
  let(j,g,d,f,i):=s;let(m,h):=h
  wp_walk
  show#[_,W,h]
theorem xp(l:U)(a:Array Ld)(n:Nat)(dct:b3 U)(j:Array (b3 Ld))(x:Int)(u:Tok)(I:2<=x)(r:x<=1000)(e:a.isEmpty=V4)(D:a.size<=1000):
  Meets (Xe.«tuple.__mul__» #[[.ref l,.int x u],[]]) (λ_ R s=>s.heap.get? l=M {cls:=.type "tuple",dict:=dct,data:=.seq a n,slots:=j}/\R (.ok (.ret (Ld.ref s.heap.objs.size))) {s with heap:=s.heap.push {cls:=Ld.type "tuple",data:=Data.seq (ZT (λk c=>k++c) #v[] (Wd x.toNat a))},toks:=s.toks}):=
 .of_wp λf w A R s h=>by
  let(G,g,d,E,F):=s;let(q,h):=h;let C:¬(decide (x< -(2^63))||decide (x≥2^63))=P:=by simp;ext
  let B:(x==1)=V4:=by simp;ext
  let z:decide (x<=0)=V4:=by simp;ext
  let K:(a.isEmpty||x==1)=V4:=by rw[e,B];rfl
  let J:(decide (x<=0)||a.isEmpty)=V4:=by rw[e,z];rfl
  let i:(a.size:Int)*x<=1000000:=by let:(a.size:Int)*x<=1000*1000:=Int.mul_le_mul () r () ();ext
  let y:¬(a.size:Int)*x>(2^63 - 1)/8:=by ext
  let v:¬Tuple.tupleTooMany ((a.size:Int)*x)=P:=by
   ext Tuple.tupleTooMany;simp;let:(We:Nat)=16777216:=by decide
   ext
  wp_walk
  rw[aE C]
  wp_walk using wpAny_loadPart' q
  rw[aE y];dsimp only;rw[aE v];let p:(ZT (λk c=>k++c) #v[] (Wd x.toNat a)).size<=We:=by
   let t:∀(m:Nat) (b:Array Ld),(ZT (λk c=>k++c) b (Wd m a)).size=b.size+m*a.size:=by
    intro m
    induction m with
    |zero=>intro b;simp
    |succ m o=>intro b;rw[Xl,ZX,o,Array.size_append,agG];ext
   rw[t];let H:x.toNat*a.size<=1000*1000:=aal () D;let:(We:Nat)=16777216:=by decide
   simp;ext
  wp_walk
  show#[_,W,h]
end PySem
namespace L3
open PySem PySem.Spec PyProof.Rows L2
def NA(K:lD):R2:=λx y H Q=>∃(a:U) (k:Nat) (xs:G V),x=.ref a/\y=.int (k:Int)/\ZI K H a xs/\xs≠[]/\1<=k/\k<=1000/\xs.length<=1000/\
 (k=1->Q (.ref a) H)/\(2<=k->∀p,H p=R->Q (.ref p) (a8 H p (.tup (Wd k xs).flatten)))
def Lg:OpR X (XJ .Mult) (NA X.K):=by
 intro j s R H x y v u Q I C B h;let(a,k,xs,rfl,rfl,J,i,Y,O,M,G,E):=h;ext C;let(t,rfl):=B;let(f,r,L,U):=I.tuple J;let((cls,dd,p,g),e,o,n,m):=id L;simp only at o m;subst o m;let l:=r.length;show ac6 () #[_,e,W] (λA=>aa2 A k t) nW F.fills_int_mul F.slot_int_rmul vY F.slot_int_index.lookup
  (ZE F.slot_int_rmul (aa2 s k t) F.entry_int_rmul (F.args_int_rmul_2 _ _) (qJ k t a f.toArray n dd g) #[e,W,#[_,e,W],?_])
 by_cases N:k=1
 .subst N;show ZE F.slot_tuple_mul #[_,e,W] F.entry_tuple_mul (F.args_tuple_mul_2 _ _) (xk a f.toArray n dd g t) #[e,#[.ref a,H,I,W,G W]]
 .show ZE F.slot_tuple_mul #[_,e,W] F.entry_tuple_mul (F.args_tuple_mul_2 _ _) (xp a f.toArray n dd g k t () () ?_ (by rw[Wt];ext)) #[e,?_]
  .cases f with
   |nil=>ext r;show a7 W i
   |cons y S=>rfl
  .let P:ZT (λz w=>z++w) #v[] (Wd ((k:Nat):Int).toNat f.toArray)=(Wd k f).flatten.toArray:=by
    let:=oM f k [];rw[YD]at this;rw[Xo];show this
   rw[P];show#[.ref s.heap.objs.size,_,I.laid (λb T q=>b4 _ q) (Wa _) ?_,W,E () _ (I.Xr.fresh (Wa _))];show#[?_,_,r.rep k,aa8.new _ _];rw[Bk];show WU (aal O M) ()
def NV(K:lD):R2:=λx y H Q=>E8 K x y H Q\/NA K x y H Q
theorem Ki:OpR X (XJ .Mult) (NV X.K):=OpR.or Mq Lg
def gL:D->D->z RV
 |.tuple xs,.int k=>if xs≠[]/\1<=k/\k<=1000/\xs.length<=1000 then M (.fz (.tuple (Wd k.toNat xs).flatten))else R
 |d,e=>zO d e
def G5{K:lD}:jJ K (NV K) gL:=by
 intro O H x y o j l Q n g f e q;unfold gL at e;split at e
 .rename_i ds k
  split at e
  .rename_i h
   ext e;ext f;let(a,xs,rfl,i,b):=II g;obtain⟨m,rfl⟩:∃m:Nat,k=(m:Int):=#[k.toNat,by ext];rw[Xo]at q;show .inr #[a,m,xs,W,W,i.1,λz=>h.1 (b.ne.mp z),by ext,by ext,by rw[b.length];show h.2.2.2,λe=>?_,λ_=>Fin.aeC (b.flat m) n q];subst e;let e1:(Wd 1 ds).flatten=ds:=by simp
   rw[e1]at q;show q.at (.tup i b)
  .ext e
 .show .inl (Mc O H x y o j l Q n g f e q)
theorem xc(i j:Int):gL (.int i) (.int j)=zO (.int i) (.int j):=W
theorem mW(h: -(2^64)<i/\i<2^64):gL (.int i) (.int j)=M (.fz (.int (i*j))):=(xc i j).trans (Jc h)
theorem HW(h: -(2^64)<j/\j<2^64):gL (.int i) (.int j)=M (.fz (.int (i*j))):=(xc i j).trans (KZ h)
end L3
namespace PySem
open Sem (wp)
open Builtin Builtin.Str
def itAt:Bool->Heap->U->U->Nat->Prop
 |true,h,it,a,i=>h.IsTupleIter it a i
 |false,h,it,a,i=>h.IsListIter it a i
def sqAt:Bool->Heap->U->Array B->Prop
 |true,h,a,xs=>h.IsTuple a xs
 |false,h,a,xs=>h.IsList a xs
def xh:Bool->String
 |true=> "tuple_iterator"
 |false=> "list_iterator"
def itAt.ext(x:itAt b h it a i)(e:Heap.ExtBut c h h')(n:it≠c):itAt b h' it a i:=by
 cases b with
 |true=>show Heap.IsTupleIter.extBut x e n
 |false=>show Heap.IsListIter.extBut x e n
def itAt.to(x:itAt b h it a i)(e:∀o,h.get? it=M o->h'.get? it=M o):itAt b h' it a i:=by
 cases b with
 |true=>show Heap.IsTupleIter.at x e
 |false=>show Heap.IsListIter.at x e
def itAt.live(x:itAt b h it a i):∃o,h.get? it=M o/\∀v,o.data≠.cell v:=by
 cases b with
 |true=>let(o,e,_,d):=(show h.IsTupleIter it a i from x);show#[o,e,λv z=>by rw[d]at z;ext z]
 |false=>let(o,e,_,d):=(show h.IsListIter it a i from x);show#[o,e,λv z=>by rw[d]at z;ext z]
def sqAt.ext(x:sqAt b h a xs)(e:Heap.ExtBut c h h')(n:a≠c):sqAt b h' a xs:=by
 cases b with
 |true=>show Heap.IsTuple.extBut x e n
 |false=>show Heap.IsList.extBut x e n
def sqAt.psh(x:sqAt b h a xs)(o:Obj):sqAt b (h.push o) a xs:=by
 cases b with
 |true=>show Heap.IsTuple.push x o
 |false=>show Heap.IsList.push x o
def sqAt.lt(x:sqAt b h a xs):a<h.objs.size:=by
 cases b with
 |true=>let(o,e,_):=(show h.IsTuple a xs from x);show cj e
 |false=>let(o,e,_):=(show h.IsList a xs from x);show cj e
section
variable{prog:Ws}{w:WO}{A:WK}{E:Ld->V7->Prop}{s:V7}
def uN(d:itAt b s.heap it l i)(e:sqAt b s.heap l xs)(a:xs[i]?=M x)
  (q:∀c,itAt b c it l (i+1)->Heap.SameBut it s.heap c->Q x {s with heap:=c}):wpAny (model prog w) A (SmallTypes.nextOf (.ref it)) Q E s:=by
 cases b with
 |true=>show ny d e a q
 |false=>show wpAny_nextOf_list_item d e a q
def AB(g:A.handled=R)(d:itAt b s.heap it l i)(f:sqAt b s.heap l xs)(a:xs[i]?=R)
  (q:∀c e,Heap.ExtBut it s.heap c->(∃o,c.get? e=M o/\o.cls=.type "StopIteration")->E (.ref e) {s with heap:=c}):wpAny (model prog w) A (SmallTypes.nextOf (.ref it)) Q E s:=by
 cases b with
 |true=>show oo g d f a q
 |false=>show wpAny_nextOf_list_end g d f a q
def Ar(a:sqAt b s.heap l xs)
  (q:Q (.ref s.heap.objs.size) {s with heap:=s.heap.push {cls:=.type (xh b),data:=.fields #v[.ref l,.int 0 0]}}):wpAny (model prog w) A (pyIter (.ref l)) Q E s:=by
 cases b with
 |true=>show aax a q
 |false=>show Zm a q
def Ce{Q:Ld->V7->Prop}(D:abi z0 TI TO i1 i2 l1 l2)(k:acF s.heap z0 TI TO .none)
  (hTI:IsPair s.heap TI (.ref i1) (.ref i2)) (hTO:IsPair s.heap TO a b) (h1:itAt b1 s.heap i1 l1 n) (h2:itAt b2 s.heap i2 l2 n) (hl1:sqAt b1 s.heap l1 xs) (V:sqAt b2 s.heap l2 ys) (hx:xs[n]?=cL x) (hy:ys[n]?=cL y)
  (q:∀d,acF d z0 TI TO (rawInt s.heap.objs.size)->IsPair d TO x y->itAt b1 d i1 l1 (n+1)->itAt b2 d i2 l2 (n+1)->IsPair d s.heap.objs.size x y->d.objs.size=s.heap.objs.size+1->
   (∀c o,c≠z0->c≠TO->c≠i1->c≠i2->s.heap.get? c=cL o->d.get? c=cL o)->Q (.ref s.heap.objs.size) {s with heap:=d}):
  wpAny (model prog w) A (Xe.«zip.__next__» #[[.ref z0],[]]) (λfin s'=>∃v,fin=.done (.ret v)/\Q v s') E s:=by
 show wpAny _ _ (field (.ref z0) 2>>=_) _ _ _;show CL (WQ k W W ?_);show wpAny _ _ (field (.ref z0) 3>>=_) _ _ _;show CL (WQ k W W ?_);show CL (Xz hTI W ?_);show wpAny _ _ (SmallTypes.ownedTupleIsFree (.ref z0)>>=_) _ _ _;show CL ?_;ext SmallTypes.ownedTupleIsFree;show CL (WQ k W W (Wb ?_));simp only[if_true];show CL (ZF ?_);show CL (WQ k W W ?_);show CL (Ym k (by simp) λk₁ t g=>?_);let aeA:=t;clear t;show CL ?_;simp only[aeh,aex,ZZ,abv];show CL (CL (aaY ?_));show wpAny _ _ (SmallTypes.nextOf (.ref i1)>>=_) _ _ _;show CL (uN (h1.ext g.extBut D.i1z) (hl1.ext g.extBut D.l1z) hx λk₂ Y i=>Wb ?_);let J:=i.extBut _ _ D.TOi1 (g.extBut _ _ D.TOz hTO);show CL (Xz J W ?_);show CL (aaI J λk₃ I h=>?_);let M:=I;clear I;show CL (YA (Wb ?_));show CL (CL (aaY ?_));show wpAny _ _ (SmallTypes.nextOf (.ref i2)>>=_) _ _ _;show CL (uN (((h2.ext g.extBut D.i2z).ext i.extBut D.i12.symm).ext h.extBut D.TOi2.symm) (((V.ext g.extBut D.l2z).ext i.extBut D.l2i1).ext h.extBut D.l2TO) hy λk₄ X l=>Wb ?_);let H:=l.extBut _ _ D.TOi2 M;show CL (Xz H W ?_);show CL (aaI H λf G j=>?_);let p:IsPair f TO x y:=G;clear G;show CL (YA (Wb (Wb ?_)));show CL (Xz p W ?_);show CL (wpAny_newTuple ?_);let U:f.objs.size=s.heap.objs.size:=by rw[j.1,l.1,h.1,i.1,g.1]
 let C:=j.extBut _ _ D.TOz.symm (l.extBut _ _ D.i2z.symm (h.extBut _ _ D.TOz.symm (i.extBut _ _ D.i1z.symm aeA)));let kp:∀c o,c≠z0->c≠TO->c≠i1->c≠i2->s.heap.get? c=cL o->f.get? c=cL o:=λc o N Z c3 c4 e=>
  j.extBut _ _ Z (l.extBut _ _ c4 (h.extBut _ _ Z (i.extBut _ _ c3 (g.extBut _ _ N e))))
 let T:=((Y.ext h.extBut D.TOi1.symm).ext l.extBut D.i12).ext j.extBut D.TOi1.symm;let S:=X.ext j.extBut D.TOi2.symm;let Zo:=cj C;show wpAny _ _ (SmallTypes.ownedTupleHandOut (.ref z0) (.ref f.objs.size)>>=_) _ _ _;show CL ?_;ext SmallTypes.ownedTupleHandOut;let R:acF (f.push {cls:=.type "tuple",data:=.seq #v[x,y]}) z0 TI TO .ellipsis:=b4 _ C;show CL (Ym R (by simp) λk₇ P B=>?_);let L:=P;show Ym L (by simp) λr O u=>?_;let m:=O;let up:∀c o,c≠z0->f.get? c=cL o->r.get? c=cL o:=λc o N e=>u.extBut _ _ N (B.extBut _ _ N (b4 _ e));let F:=u.extBut _ _ (Xn Zo) (B.extBut _ _ (Xn Zo) (ck _ W));let K:r.objs.size=f.objs.size+1:=by rw[u.1,B.1,da]
 rw[U]at m F K;show Wb #[_,W,?_];rw[U];show q r m (up _ _ D.TOz p) (T.to λo e=>up _ o D.i1z e) (S.to λo e=>up _ o D.i2z e) F K λc o N Z c3 c4 e=>up c o N (kp c o N Z c3 c4 e)
def Fy(T:A.handled=VY)(D:abi z0 TI TO i1 i2 l1 l2)(d:acF s.heap z0 TI TO .none)
  (M:IsPair s.heap TI (.ref i1) (.ref i2)) (L:IsPair s.heap TO a b) (U:itAt b1 s.heap i1 l1 n) (Z:itAt b2 s.heap i2 l2 n) (F:sqAt b1 s.heap l1 xs) (J:sqAt b2 s.heap l2 ys) (O:xs[n]?=VY\/ys[n]?=VY)
  (q:∀k e,(∀c o,c≠z0->c≠TO->c≠i1->c≠i2->s.heap.get? c=cL o->k.get? c=cL o)->(∃o,k.get? e=cL o/\o.cls=.type "StopIteration")->E (.ref e) {s with heap:=k}):
  wpAny (model prog w) A (Xe.«zip.__next__» #[[.ref z0],[]]) Q E s:=by
 show wpAny _ _ (field (.ref z0) 2>>=_) _ _ _;show CL (WQ d W W ?_);show wpAny _ _ (field (.ref z0) 3>>=_) _ _ _;show CL (WQ d W W ?_);show CL (Xz M W ?_);show wpAny _ _ (SmallTypes.ownedTupleIsFree (.ref z0)>>=_) _ _ _;show CL ?_;ext SmallTypes.ownedTupleIsFree;show CL (WQ d W W (Wb ?_));simp only[if_true];show CL (ZF ?_);show CL (WQ d W W ?_);show CL (Ym d (by simp) λS y f=>?_);let H:=y;show CL ?_;simp only[aeh,aex,ZZ,abv];show CL (CL (aaY ?_));show wpAny _ _ (SmallTypes.nextOf (.ref i1)>>=_) _ _ _;cases hx:xs[n]? with
 |none=>
  show CL (AB T (U.ext f.extBut D.i1z) (F.ext f.extBut D.l1z) hx λC e g K=>?_);let(I,i,j):=K;let m:=g _ _ D.i1z.symm H;let ne:e≠z0:=λt=>by subst t;rw[m]at i;ext i;simp at j
  show Ym m (by simp) λr _ h=>q r e (λc o G _ N _ t=>h.extBut _ _ G (g _ _ N (f.extBut _ _ G t))) #[I,h.extBut _ _ ne i,j]
 |some x=>
  let Y:ys[n]?=VY:=by
   rcases O with t|t
   .rw[hx]at t;ext t
   .show t
  show CL (uN (U.ext f.extBut D.i1z) (F.ext f.extBut D.l1z) hx λC X g=>Wb ?_);let p:=g.extBut _ _ D.TOi1 (f.extBut _ _ D.TOz L);show CL (Xz p W ?_);show CL (aaI p λr P h=>?_);show CL (YA (Wb ?_));show CL (CL (aaY ?_));show wpAny _ _ (SmallTypes.nextOf (.ref i2)>>=_) _ _ _;show CL (AB T (((Z.ext f.extBut D.i2z).ext g.extBut D.i12.symm).ext h.extBut D.TOi2.symm) (((J.ext f.extBut D.l2z).ext g.extBut D.l2i1).ext h.extBut D.l2TO) Y λR e v K=>?_);let(I,i,j):=K;let l:=v _ _ D.i2z.symm (h.extBut _ _ D.TOz.symm (g.extBut _ _ D.i1z.symm H));let ne:e≠z0:=λt=>by subst t;rw[l]at i;ext i;simp at j
  show Ym l (by simp) λB _ u=>q B e (λc o G c2 N c4 t=>u.extBut _ _ G (v _ _ c4 (h.extBut _ _ c2 (g.extBut _ _ N (f.extBut _ _ G t))))) #[I,u.extBut _ _ ne i,j]
end
section
variable{Y:Ws}{w:WO}{A:WK}{E:Ld->V7->Prop}{s:V7}
def xw(D:abi J TI TO i1 i2 l1 l2)(k:acF s.heap J TI TO .none)
  (h:IsPair s.heap TI (.ref i1) (.ref i2)) (g:IsPair s.heap TO a b) (p:itAt b1 s.heap i1 l1 n) (m:itAt b2 s.heap i2 l2 n) (f:sqAt b1 s.heap l1 xs) (e:sqAt b2 s.heap l2 ys) (l:xs[n]?=M x) (j:ys[n]?=M y)
  (q:∀d,acF d J TI TO (rawInt s.heap.objs.size)->IsPair d TO x y->itAt b1 d i1 l1 (n+1)->itAt b2 d i2 l2 (n+1)->IsPair d s.heap.objs.size x y->d.objs.size=s.heap.objs.size+1->
   (∀c o,c≠J->c≠TO->c≠i1->c≠i2->s.heap.get? c=M o->d.get? c=M o)->Q (M (.ref s.heap.objs.size)) {s with heap:=d}):
  wpAny (model Y w) A (pyNext (.ref J)) Q E s:=by
 let i:s.TypeIs (.ref J) "zip":=#[_,k,W];ext pyNext;show CL (ak0 (Yh i F.slot_zip_next ?_));show YE F.slot_zip_next i F.entry_zip_next (Ce D k h g p m f e l j λd G C B v u t r=>Wb (q d G C B v u t r)) (F.args_zip_next_1 _)
def wJ(r:A.handled=R)(D:abi C TI TO i1 J l1 l2)(k:acF s.heap C TI TO .none)
  (i:IsPair s.heap TI (.ref i1) (.ref J)) (h:IsPair s.heap TO a b) (y:itAt b1 s.heap i1 l1 n) (v:itAt b2 s.heap J l2 n) (g:sqAt b1 s.heap l1 xs) (f:sqAt b2 s.heap l2 ys) (j:xs[n]?=R\/ys[n]?=R)
  (q:∀d,(∀c o,c≠C->c≠TO->c≠i1->c≠J->s.heap.get? c=M o->d.get? c=M o)->Q R {s with heap:=d}):wpAny (model Y w) A (pyNext (.ref C)) Q E s:=by
 let l:s.TypeIs (.ref C) "zip":=#[_,k,W];ext pyNext;show CL (ak0 (Yh l F.slot_zip_next ?_));show YE F.slot_zip_next l F.entry_zip_next (Fy r D k i h y v g f j λd e p t=>?_) (F.args_zip_next_1 _);let(o,m,u):=t;show CL (abG #[o,m,u] isSubtype_stop (Wb (q _ p)))
end
abbrev Tk(h:Heap)(b:Bool)(a:U):Heap:=h.push {cls:=.type (xh b),data:=.fields #v[.ref a,.int 0 0]}
abbrev Tb(h:Heap)(f e:Bool)(b a:U):Heap:=(Tk h f b).push {cls:=.type (xh e),data:=.fields #v[.ref a,.int 0 0]}
abbrev SL(h:Heap)(b f:Bool)(a e:U):Heap:=(Tb h b f a e).push {cls:=.type "tuple",data:=.seq #v[.ref h.objs.size,.ref (Tk h b a).objs.size]}
abbrev Ru(h:Heap)(f e:Bool)(b a:U):Heap:=(SL h f e b a).push {cls:=.type "tuple",data:=.seq #v[.none,.none]}
abbrev UB(h:Heap)(f e:Bool)(b a:U):Heap:=(Ru h f e b a).push {cls:=.type "zip",data:=.fields #v[.none,.bool I,.bool I,.ref (Tb h f e b a).objs.size,.ref (SL h f e b a).objs.size]}
theorem rD(e f:Bool)(a b:U)(xs n:Array B):
  Meets (Xe.«zip.__new__» #[[.type "zip",.ref a,.ref b],[]]) (λ_ R s=>sqAt e s.heap a xs/\sqAt f s.heap b n/\R (.ok (.ret (.ref (Ru s.heap e f a b).objs.size))) {s with heap:=UB s.heap e f a b}):=
 .of_wp λp w A R s h=>by
  let(r,g,d,o,q):=s;let(j,i,h):=h;let t:=sub_zip;let m:sqAt e (V7.heap #[r,g,d,o,q]) a xs:=j;let l:sqAt f (V7.heap #[r.push {cls:=.type (xh e),data:=.fields #v[.ref a,.int 0 0]},g,d,o,q]) b n:=sqAt.psh i _
  wp_walk using Ar m,Ar l
  show#[_,W,h]
section
variable{Y:Ws}{w:WO}{A:WK}{E:Ld->V7->Prop}{s:V7}
def EN(e:h.get? it=M {cls:=.type (xh b),data:=.fields #v[.ref l,.int 0 0]}):itAt b h it l 0:=by
 cases b with
 |true=>show#[_,e,W,W]
 |false=>show#[_,e,W,W]
def Ds(l:sqAt b1 s.heap l1 xs)(j:sqAt J s.heap C ys)
  (q:∀d,acF d (s.heap.objs.size+4) (s.heap.objs.size+2) (s.heap.objs.size+3) .none->IsPair d (s.heap.objs.size+2) (.ref s.heap.objs.size) (.ref (s.heap.objs.size+1))->
   IsPair d (s.heap.objs.size+3) .none .none->itAt b1 d s.heap.objs.size l1 0->itAt J d (s.heap.objs.size+1) C 0->(∀c o,s.heap.get? c=M o->d.get? c=M o)->Q (.ref (s.heap.objs.size+4)) {s with heap:=d}):
  wpAny (model Y w) A (call (.type "zip") [.ref l1,.ref C]) Q E s:=by
 show callType_new F.called_zip () (F.typeCall_zip_2 _ _) (F.newCall_zip_2 _ _) (λobj=>F.args_object_init_3 obj _ _) F.entry_zip_new (rD b1 J l1 C xs ys) #[l,j,?_];let i:(Tk s.heap b1 l1).objs.size=s.heap.objs.size+1:=da ..;let h:(Tb s.heap b1 J l1 C).objs.size=s.heap.objs.size+2:=by rw[da,i]
 let g:(SL s.heap b1 J l1 C).objs.size=s.heap.objs.size+3:=by rw[da,h]
 let p:(Ru s.heap b1 J l1 C).objs.size=s.heap.objs.size+4:=by rw[da,g]
 let v:∀c o,s.heap.get? c=M o->(Tk s.heap b1 l1).get? c=M o:=λc o e=>b4 _ e;let n:∀c o,(Tk s.heap b1 l1).get? c=M o->(Tb s.heap b1 J l1 C).get? c=M o:=λc o e=>b4 _ e;let f:∀c o,(Tb s.heap b1 J l1 C).get? c=M o->(SL s.heap b1 J l1 C).get? c=M o:=λc o e=>b4 _ e;let b:∀c o,(SL s.heap b1 J l1 C).get? c=M o->(Ru s.heap b1 J l1 C).get? c=M o:=λc o e=>b4 _ e;let a:∀c o,(Ru s.heap b1 J l1 C).get? c=M o->(UB s.heap b1 J l1 C).get? c=M o:=λc o e=>b4 _ e;let m:(UB s.heap b1 J l1 C).get? (Ru s.heap b1 J l1 C).objs.size=M _:=ck _ W;let r:=a _ _ (ck _ W);let t:=a _ _ (b _ _ (ck _ W));let u:=a _ _ (b _ _ (f _ _ (ck _ W)));let y:=a _ _ (b _ _ (f _ _ (n _ _ (ck _ W))));rw[h,g,p]at m;rw[i,h]at t;rw[g]at r;rw[i]at u;rw[p];show#[#[_,m,W],q _ m t r (EN y) (EN u) λc o e=>a _ _ (b _ _ (f _ _ (n _ _ (v _ _ e))))]
end
end PySem
namespace L3
open PySem PySem.Spec PyProof.Rows L2
def Dz(b:Bool)(K:lD)(H:Hp)(a:U)(xs:G V):Prop:=match b with
 |true=>ZI K H a xs
 |false=>ZV K H a xs
def Uu(K:lD)(e b:Bool)(a c:U):It:=
 #[λi H=>∃xs ys x y,Dz e K H a xs/\Dz b K H c ys/\xs[i]?=M x/\ys[i]?=M y,
  λi H v f=>∃p x y,H p=R/\v=.ref p/\(∀xs,Dz e K H a xs->xs[i]?=M x)/\(∀ys,Dz b K H c ys->ys[i]?=M y)/\f=a8 H p (.tup [x,y]),
  λi H=>∃xs ys,Dz e K H a xs/\Dz b K H c ys/\(xs.length<=i\/ys.length<=i)]
def Jm(I:Inv X pins σ H s)(i:ZV X.K H a xs)(h:ZV X.K H a ys):xs=ys:=by
 let(e,g,(o,k,e1,_,n,l),_):=I.list i;let(b,f,(m,k2,e2,_,p,j),_):=I.list h;rw[e1]at e2;ext e2;let:e=b:=by
  let q:e.toArray=b.toArray:=by injection l.symm.trans j
  simpa using q
 subst this;show g.inj f
def n9(I:Inv X pins σ H s)(h:Dz b X.K H a xs):∃c,Vals xs c/\sqAt b s.heap a c.toArray:=by
 cases b with
 |true=>let(c,f,p,e):=I.tuple h;show#[c,f,p]
 |false=>let(c,f,p,e):=I.list h;show#[c,f,p.isList]
def Bo(I:Inv X pins σ H s)(f:Dz b X.K H a xs)(e:Dz b X.K H a ys):xs=ys:=by
 cases b with
 |true=>show JZ I f e
 |false=>show Jm I f e
def Dp{ch:G U}(I:Inv X pins σ H s)(g:∀b∈ch,ox X pins H b)
  (k:∀b u,b∉ch->s.heap.get? b=M u->C.get? b=M u):Inv X pins σ H {s with heap:=C,toks:=J}:=by
 let f:∀b u,H b=M u->b∉ch:=λb u e z=>by rw[(g b z).1]at e;ext e
 show I.step (λb j=>?_) (λb u _ _ a e _=>k b u a e) (λb u _ _ a e _=>#[u.slots,k b u a e]) (λ_ _ _ _ n=>n)
  (λb u a e=>#[u,k b u a e]) (λ_ _ e=>e) (λ_ _ _ e=>e) (λb y e=>#[#v[],by rw[e];simp]) (λm hm=>?_) (λb u e=>?_) I.bare
 .let(_,t,_,p,o,l):=g b j;show#[p,t,o,l]
 .let(h,es,w,i,r):=hm;show#[h,es,w,k _ h (λz=>(g _ z).2.1 W) i,r]
 .show(I.Xr b u e).Zw (λc v a q=>k c v ?_ q) (λ_ q=>q) λ_ _ q=>q
  rcases a with z|z
  .rw[z];show f b u e
  .show f c _ z
theorem G4{K:lD}{d}(b1 V:Bool)(z TI F B A Y U:V5)(D:abi z TI F B A Y U):
  Turn Pz0 w K (.Tuple elts d tp) (Uu K b1 V Y U) [z,TI,F,B,A] z (λi h=>acF h z TI F .none/\IsPair h TI (.ref B) (.ref A)/\(∃a b,IsPair h F a b)/\itAt b1 h B Y i/\itAt V h A U i) where
 mem:=by simp
 obj:=λi h f b e=>by
  let(l,g,(a,c,m),r,p):=f;simp only[WE,XB,or_false]at e;rcases e with rfl|rfl|rfl|rfl|rfl
  .show#[_,l,λv q=>by cases(show Data.fields _=Data.cell v from q)]
  .show#[_,g,λv q=>by cases(show Data.seq _ _=Data.cell v from q)]
  .show#[_,m,λv q=>by cases(show Data.seq _ _=Data.cell v from q)]
  .show r.live
  .show p.live
 keep:=λi h h' f k=>by let(l,g,(a,c,m),r,p):=f;show#[k z (by simp) _ l,k TI (by simp) _ g,#[a,c,k F (by simp) _ m],r.to λo q=>k B (by simp) o q,p.to λo q=>k A (by simp) o q]
 item:=by
  intro X hP hw hK hc i j s σ H E I N f hg;subst hP hw hK;let(l,g,(a,c,m),r,p):=f;let(xs,ys,x,y,L,J,hx,hy):=hg;let(W3,R,T):=n9 I L;let(G,Q,S):=n9 I J;let(u,hu,ru):=R.get hx;let(t,ht,rt):=Q.get hy;show xw D l g m r p T S (by simpa using hu) (by simpa using ht) λk z1 o1 g1 g2 pr sz M=>#[_,W,?_];show wpAny_letOwnedTupleGo_zip z1 λC z2 e2=>?_;let Z:=cj l;let hIl:=cj g;let hOl:=cj m;let h1l:B<s.heap.objs.size:=by let(_,q,_):=r.live;show cj q
  let h2l:A<s.heap.objs.size:=by let(_,q,_):=p.live;show cj q
  let hn:=I.Xr.fresh (Wa _);let d:∀b o,b∉[z,TI,F,B,A]->s.heap.get? b=cL o->C.get? b=cL o:=λb o e q=>by simp only[WE,XB,or_false,not_or]at e;show(e2.2 b e.1).trans (M b o e.1 e.2.2.1 e.2.2.2.1 e.2.2.2.2 q)
  let hT2:=(e2.2 _ (Xn Z)).trans pr
  let I2:Inv X j σ (a8 H s.heap.objs.size (.tup [x,y])) {s with heap:=C}:=
   I.acW N d (Wa _) #[by show 2<=We;decide,[u,t],.cons ru (.cons rt .nil),#[_,hT2,#[W,_,W],W]]
  let O:∀b o,b≠z->k.get? b=cL o->C.get? b=cL o:=λb o n q=>(e2.2 b n).trans q;show#[.ref s.heap.objs.size,_,I2,W,#[_,x,y,hn,W,λzs hs=>by rw[Bo I hs L];show hx,λzs hs=>by rw[Bo I hs J];show hy,W],
   #[z2,O _ _ D.TIz (M _ _ D.TIz D.TITO D.TIi1 D.TIi2 g),#[_,_,O _ _ D.TOz o1],g1.to λo q=>O _ _ D.i1z q,g2.to λo q=>O _ _ D.i2z q],λb e=>?_]
  let hb2:b<s.heap.objs.size:=by simp only[WE,XB,or_false]at e;rcases e with rfl|rfl|rfl|rfl|rfl<;>assumption
  rw[aw (Wz hb2)];show(N b e).1
 done:=by
  intro X hP hw hK hc i j s σ H E I N f hg;subst hP hw hK;let(l,g,(a,c,m),r,p):=f;let(xs,ys,L,J,hxy):=hg;let(W3,R,T):=n9 I L;let(G,Q,S):=n9 I J;let hl1:=R.length;let hl2:=Q.length;let hd:W3.toArray[i]?=VY\/G.toArray[i]?=VY:=by
   rcases hxy with q|q
   .show .inl (by simp;ext)
   .show .inr (by simp;ext)
  show wJ (I.ok.hd hc) D l g m r p T S hd λk M=>#[W,?_];show Dp I N λb o e q=>by simp only[WE,XB,or_false,not_or]at e;show M b o e.1 e.2.2.1 e.2.2.2.1 e.2.2.2.2 q
 self:=λ_ _ _ _ _ f h=>agJ f.1 h
def Cj(n b a:Nat)(f:b<n)(e:a<n):abi (n+4) (n+2) (n+3) n (n+1) b a:=by constructor<;>(show(_:Nat)≠_;ext)
def M0(K:lD)(d:TA):TI:=λe H R=>d e H λg b=>∃a c b1 f,g=[.ref a,.ref c]/\(∃xs,Dz b1 K b a xs)/\(∃ys,Dz f K b c ys)/\R (Uu K b1 f a c) b
def GI:Xa "zip"=M (.type "zip"):=by left
def Qa{d}(Q:Gl X "zip")(hm:X.mg "zip"=VY)(k:PA X [l,m] ta)(N:Wn [l,m] X.env=(V4,eval l X.env)::Wn [m] X.env:=by rfl)(O:(backTo pos (Wn [m] X.env)).any (·.1)=V4:=by rfl):
  PI X (.Tuple elts d tp) (.Call (.Name "zip" p) [l,m] [] pos) (M0 X.K ta):=by
 intro f s y H R I h;show Call_ (oP I Q hm GI (YV (bT (k pos f s y H _ I h) λus g #[vs,w,j,F,G]=>?_) N O));let(a,c,Y,U,e,(xs,C),(Z,B),q):=G;subst e;let(u,t,rfl,E,rt):=Aa F;ext E;ext rt;let(W3,rx,r):=n9 j C;let(M,ry,o):=n9 j B;let T:∀b∈[g.heap.objs.size+4,g.heap.objs.size+2,g.heap.objs.size+3,g.heap.objs.size,g.heap.objs.size+1],ox X f w b:=λb v=>by
  let i:g.heap.objs.size<=b:=by simp only[WE,XB,or_false]at v;let S:=v;ext
  show j.abJ i (j.Xr.fresh i)
 show Ds r o λh1 n L J A z P=>?_;show agJ n ?_;show#[g.heap.objs.size+4,_,_,_,w,W,j.kept P,G4 Y U _ _ _ _ _ a c (Cj _ _ _ r.lt o.lt),#[n,L,#[_,_,J],A,z],T,q]
def Qd:Ww->Bool
 |.Starred _ _=>P
 |_=>I
def tT(e:Ww)(es:G Ww)(env:Env)(h:Qd e=I):Wn (e::es) env=(I,eval e env)::Wn es env:=by ext e<;>first|rfl|ext h
def j9:G D->G D->G D
 |x::r,y::q=>.tuple [x,y]::j9 r q
 |_,_=>[]
theorem xT:∀(xs a:G D),(j9 xs a).length=min xs.length a.length
 |[],_=>by simp[j9]
 |_::_,[]=>by simp[j9]
 |_::r,_::q=>by simp only[j9,Wi,xT r q];ext
theorem wO:∀(xs a:G D) (i:Nat),(j9 xs a)[i]?=(xs[i]?).bind λx=>(a[i]?).map λy=>.tuple [x,y]
 |[],_,_=>by simp[j9]
 |x::r,[],i=>by ext i<;>simp[j9]
 |x::r,y::q,0=>by simp[j9]
 |x::r,y::q,i+1=>by simp only[j9,ab7];show wO r q i
section
variable{K:lD}{E:XK}{B O Z:bG}{T H X:Hp}{S:L2.St}{Y N:aU}{v:V}
def aca(b:Bool)(O:bG)(K:lD)(H:Hp)(a:U)(xs:G V):Prop:=match b with
 |true=>Z4 O K H a xs
 |false=>aaW O K H a xs
def aca.ev(h:aca b O K H a xs)(e:Ev O H Z X):aca b Z K X a xs:=by
 cases b with
 |true=>show Z4.ev h e
 |false=>show aaW.ev h e
def aca.at(h:aca b O K H a xs):Dz b K H a xs:=by
 cases b with
 |true=>show(show Z4 O K H a xs from h).1
 |false=>show(show aaW O K H a xs from h).1.sq
def OC(h:aca b1 O K H a xs)(hd:XU O K H xs ds)(g:aca b2 O K H c ys)(C:XU O K H ys es):zJ K (Uu K b1 b2 a c) O H (j9 ds es):=by
 intro Z X e n;let j:=h.ev e;let f:=hd.ev e;let m:=g.ev e;let l:=C.ev e;rw[xT];show#[λi hi=>?_,#[xs,ys,j.at,m.at,?_]]
 .let w:i<ds.length:=by ext
  let u:i<es.length:=by ext
  let(x,A,dx):=f.get (V9 w);let(y,z,F):=l.get (V9 u);show#[#[xs,ys,x,y,j.at,m.at,A,z],?_];rintro t G ⟨p,J,I,b,rfl,Q,L,rfl⟩;let r:=Q xs j.at;let o:=L ys m.at;rw[A]at r;rw[z]at o;ext r;ext o;show#[bM b _,.tuple [ds[i],es[i]],?_,.tup #[ZI.of aI,λq=>a7 q (n p b)] (.cons (dx.ev (Ev.grow (bM b _))) (.cons (F.ev (Ev.grow (bM b _))) .nil))];rw[wO,V9 w,V9 u];rfl
 .rw[hd.length,C.length];ext
def Ng(h:DV O K H v d)(q:eP d=M ds):∃b a xs,v=.ref a/\aca b O K H a xs/\XU O K H xs ds:=by
 cases h with
 |tup h e=>ext q;show#[P,_,_,W,h,e]
 |lst h e=>ext q;show#[I,_,_,W,h,e]
 |_=>ext q
def uC(c:FA):FI:=λY=>(c Y).bind λa=>(Res.W5 (pH a.2 a.1)).bind λb=>match b.1 with
 |[d,e]=>(Res.W5 (eP d)).bind λds=>(Res.W5 (eP e)).bind λes=>.ok (j9 ds es,b.2)
 |_=>.bad
def O9(h:AO K E ta fa):IO K E (M0 K ta) (uC fa):=by
 intro B T O S H Y J R w;show h B T O S H Y _ R (w.bind.imp λa b L Q G e1 C m=>?_);let((ds,i),q,b):=b.W5;let(F,e2,R2,p):=qE C m q;dsimp only at b;cases p with
 |nil=>show b.elim
 |cons o e=>
  cases e with
  |nil=>show b.elim
  |cons e n=>
   cases n with
   |cons _ _=>show b.elim
   |nil=>let(es,l,b):=WR.W5 b;let(fs,j,b):=WR.W5 b;let(y,A,xs,rfl,g,t):=Ng o l;let(u,z,I,rfl,f,r):=Ng e j;show#[A,z,y,u,W,#[_,g.at],#[_,f.at],b F _ G (e1.trans e2) R2 (OC g t f r)]
def gf(d e:D):b3 RV:=match d,e with
 |.str z,.int i=>if z.length<=1000000 then(lz z.cps.toList i).map λc=>.fz (.str #[#v[c]])else R
 |_,_=>R
def IU:jJ K (Sf K) gf:=by
 intro O H x y l g j Q n b a e q;unfold gf at e;split at e
 .split at e
  .rename_i z i f
   cases h:lz z.cps.toList i with
   |none=>rw[h]at e;ext e
   |some c=>rw[h]at e;ext e;ext b;ext a;show .inr (.inr #[z,i,c,W,W,BQ f,h,q.at (.str _)])
  .ext e
 .ext e
end
end L3
namespace L3
open PySem L2
def UP(N C:aU->Prop)(T:RV->Prop):Res Fl->Prop
 |.ok (.nx a)=>N a
 |.ok (.ct a)=>C a
 |.ok (.rt v)=>T v
 |_=>False
structure Go(r:Res Fl)(N C:aU->Prop)(T:RV->Prop):Prop where
 out:UP N C T r
section
variable{ρ ρ1 ρ2 ρ3:aU}{f g:FS}{fe:FE}{pv:PV}{d:D}{rv:RV}{ds:bg D}{N C:aU->Prop}{T:RV->Prop}
def Go.eq(e:r=r')(h:Go r' N C T):Go r N C T:=by rw[e];show h
def Go.imp(h:Go r N C T)(b:∀ρ,N ρ->N' ρ)(e:∀ρ,C ρ->C' ρ)(a:∀v,T v->T' v):Go r N' C' T':=by
 show#[?_];let h:=h.out;cases r with
 |bad=>show h
 |er x=>show h
 |ok i=>
  cases i with
  |nx r=>show b _ h
  |ct r=>show e _ h
  |rt v=>show a _ h
  |bk r=>show h
def Gd(h:Go (f ρ) (λr=>Go (g r) N C T) C T):Go (bp f g ρ) N C T:=by
 show#[?_];let h:=h.out;ext bp;cases q:f ρ with
 |bad=>rw[q]at h;show h.elim
 |er x=>rw[q]at h;show h.elim
 |ok a=>
  rw[q]at h;cases a with
  |nx r=>show(show Go (g r) N C T from h).out
  |ct r=>show h
  |rt v=>show h
  |bk r=>show h.elim
def IA(h:c ρ=.ok (b,ρ1))(a:b=P->Go (f ρ1) N C T)(e:b=I->Go (g ρ1) N C T):Go (jD c f g ρ) N C T:=by
 ext jD;rw[h,ej];cases b with
 |true=>show a W
 |false=>show e W
theorem DJ(b:fe ρ=.ok (pv,ρ1))(a:gt pv ρ1=.ok ρ2)(h:N ρ2):Go (gJ fe gt ρ) N C T:=.eq (yW b a W) #[h]
theorem uV(a:fe ρ=.ok (pv,ρ1))(h:N ρ1):Go (o9 fe ρ) N C T:=.eq (BP a) #[h]
theorem fJ(b:fe ρ=.ok (pv,ρ1))(a:B8 ρ1 pv=M rv)(h:T rv):Go (cR fe ρ) N C T:=.eq (n6 b a) #[h]
theorem vV(h:N ρ):Go (cC ρ) N C T:=#[h]
theorem Aj(I:Nat->aU->Prop):∀(ds:G D) (k:Nat) (ρ:aU),I k ρ->(∀i d ρ,ds[i]?=M d->I (k+i) ρ->∃ρ1,gt (.fz d) ρ=.ok ρ1/\Go (b ρ1) (I (k+i+1)) (I (k+i+1)) T)->Go (pw gt b ds ρ) (I (k+ds.length)) C T
 |[],k,ρ,h0,_=>#[h0]
 |d::r,k,ρ,h0,u=>by
  let(ρ1,o,a):=u 0 d ρ W h0;let a:=a.out;let l:∀j,I (k+1) j->Go (pw gt b r j) (I (k+(r.length+1))) C T:=λj h=>by
   let e:k+(r.length+1)=k+1+r.length:=by ext
   rw[e];show Aj I r (k+1) j h λi t m w n=>?_;let e:k+1+i=k+(i+1):=by ext
   rw[e]at n⊢;show u (i+1) t m (by simpa using w) n
  show#[?_];show UP _ _ _ ((gt (.fz d) ρ).bind _);rw[o,ej];cases q:b ρ1 with
  |bad=>rw[q]at a;show a.elim
  |er x=>rw[q]at a;show a.elim
  |ok p=>
   rw[q]at a;cases p with
   |nx r=>show(l _ a).out
   |ct r=>show(l _ a).out
   |rt v=>show a
   |bk r=>show a.elim
def Eb(I:Nat->aU->Prop)(k:o ρ=.ok (ds,ρ1))(j:I 0 ρ1)(a:∀i d ρ,ds[i]?=M d->I i ρ->∃ρ1,gt (.fz d) ρ=.ok ρ1/\Go (b ρ1) (I (i+1)) (I (i+1)) T)(e:∀c,I ds.length c->N c):Go (mV o gt b ρ) N C T:=by let:=Aj (C:=C) I ds 0 ρ1 j (by simpa using a);rw[Xg]at this;show .eq (zq k) (this.imp e (λ_ h=>h) λ_ h=>h)
def sg(a:ds.map (λd=>M (.fz d))++Wd (n - ds.length) R=ρ)(h:Go (g ρ) (λ_=>T (.fz .none)) (λ_=>False) T):∃rv,gj n g ds=.ok rv/\T rv:=by
 let h:=h.out;ext gj;rw[a];cases q:g ρ with
 |bad=>rw[q]at h;show h.elim
 |er x=>rw[q]at h;show h.elim
 |ok b=>
  rw[q]at h;cases b with
  |nx r=>show#[_,W,h]
  |ct r=>show h.elim
  |rt v=>show#[_,W,h]
  |bk r=>show h.elim
def g8(a:ds.map (λd=>M (.fz d))++Wd (n - ds.length) R=ρ)(h:Go (g ρ) (λ_=>RV.fz .none=v) (λ_=>False) (λr=>r=v)):gj n g ds=.ok v:=by let(rv,e,b):=sg (T:=λr=>r=v) a h;rw[e,b]
theorem eY(b:fe ρ=.ok (pv,ρ1))(a:gt pv ρ1=.ok ρ2)(c:ρ2=ρ3)(h:Go (g ρ3) N C T):Go (bp (gJ fe gt) g ρ) N C T:=.eq (DP (yW b a c)) h
theorem iX(b:fe ρ=.ok (pv,ρ1))(a:B8 ρ1 pv=M rv)(h:T rv):Go (bp (cR fe) g ρ) N C T:=.eq (FW (n6 b a)) #[h]
theorem di(h:Go (g ρ) N C T):Go (bp cC g ρ) N C T:=.eq W h
def De:bp (bp f1 f2) g ρ=bp f1 (bp f2 g) ρ:=by
 ext bp;cases f1 ρ with
 |bad=>rfl
 |er x=>rfl
 |ok a=>ext a<;>rfl
theorem Ik(h:Go (bp f1 (bp f2 g) ρ) N C T):Go (bp (bp f1 f2) g ρ) N C T:=.eq De h
def iw(i:c ρ=.ok (b,ρ1))(a:b=P->Go (bp f1 g ρ1) N C T)(h:b=I->Go (bp f2 g ρ1) N C T):Go (bp (jD c f1 f2) g ρ) N C T:=by
 let e:bp (jD c f1 f2) g ρ=if b=P then bp f1 g ρ1 else bp f2 g ρ1:=by unfold bp jD;rw[i,ej];ext b<;>rfl
 show .eq e ?_;cases b with
 |true=>show a W
 |false=>show h W
theorem rq(I:Nat->aU->Prop)(j:o ρ=.ok (ds,ρ1))(h:I 0 ρ1)(a:∀i d ρ,ds[i]?=M d->I i ρ->∃ρ1,gt (.fz d) ρ=.ok ρ1/\Go (b ρ1) (I (i+1)) (I (i+1)) T)(e:∀c,I ds.length c->Go (g c) N C T):Go (bp (mV o gt b) g ρ) N C T:=
 Gd (Eb I j h a e)
theorem uc(I:aU->Prop)(P:Nat->D->Prop):∀(ds:G D) (k:Nat) (ρ:aU) (acc:G D),I ρ->acc.length+ds.length<=1000000->(∀i d,ds[i]?=M d->∀ρ,I ρ->∃x c,kz gt J fe d ρ=.ok (M x,c)/\I c/\P (k+i) x)->
  ∃xs,c9 gt J fe ds ρ acc=.ok (acc++xs)/\xs.length=ds.length/\∀i x,xs[i]?=M x->P (k+i) x
 |[],k,ρ,acc,_,_,_=>#[[],by show Res.ok acc=_;simp,W,λi x h=>by simp at h]
 |d::r,k,ρ,acc,h0,v,u=>by
  let(x,c,n,m,l):=u 0 d W ρ h0;rw[Wi]at v;let(xs,q,p,o):=uc I P r (k+1) c (acc++[x]) m (by rw[V8];simp;ext) λi t w a j=>by
   let e:k+1+i=k+(i+1):=by ext
   rw[e];show u (i+1) t (by simpa using w) a j
  show#[x::xs,?_,by rw[Wi,p,Wi],λi y b=>?_]
  .rw[qL n ()];show c9 gt J fe r c (acc++[x])=_;rw[q,Wy];rfl
  .cases i with
   |zero=>cases(show M x=M y from b);show l
   |succ i=>
    let e:k+(i+1)=k+1+i:=by ext
    rw[e];show o i y (by simpa using b)
def xI(I:aU->Prop)(P:Nat->D->Prop)(e:I ρ)(b:ds.length<=1000000)(a:∀i d,ds[i]?=M d->∀ρ,I ρ->∃x c,kz gt ft fe d ρ=.ok (M x,c)/\I c/\P i x):
  ∃xs,jN (c9 gt ft fe ds ρ [])=.ok xs/\xs.length=ds.length/\∀i x,xs[i]?=M x->P i x:=by
 let(xs,l,j,h):=uc I P ds 0 ρ [] e (by simpa using b) (by simpa using a);show#[xs,by rw[l];rfl,j,by simpa using h]
theorem uI{α:Type}{f:α->D}{Q:Nat->α->Prop}:∀(xs:G D) (k:Nat),(∀i x,xs[i]?=M x->∃a,x=f a/\Q (k+i) a)->∃as:G α,xs=as.map f/\∀i a,as[i]?=M a->Q (k+i) a
 |[],_,_=>#[[],W,λi a h=>by simp at h]
 |x::r,k,h=>by
  let(a,e,q):=h 0 x W;let(as,e2,l):=uI (f:=f) (Q:=Q) r (k+1) λi y m=>by
   let e:k+1+i=k+(i+1):=by ext
   rw[e];show h (i+1) y (by simpa using m)
  show#[a::as,by rw[e,e2];rfl,λi b j=>?_];cases i with
  |zero=>cases(show M a=M b from j);show q
  |succ i=>
   let e:k+(i+1)=k+1+i:=by ext
   rw[e];show l i b (by simpa using j)
def Ul(c:V3.strOk a=P)(e:V3.strOk b=P):cP (.str a) (.str b)=M (.fz (.bool (a==b))):=by ext cP;rw[show lO (.str a)=P by ext lO;rw[show V3.canLay0 (.str a)=P from c];rfl,show V3.canLay0 (.str b)=P from e,Yj,ax W];rfl
def NT(b:V3.strOk a=P):cP (.str a) (.str a)=M (.fz (.bool P)):=by rw[Ul b b,eh]
def A1(c:V3.strOk a=P)(e:V3.strOk b=P)(h:(a==b)=I):cP (.str a) (.str b)=M (.fz (.bool I)):=by rw[Ul c e,h]
theorem uT{α:Type}{xs:G α}{i:Int}{v:α}(a:0<=i)(h:xs[i.toNat]?=M v):lz xs i=M v:=PN a h
def KS(a:0<=i)(h:ds[i.toNat]?=M d):aX (.list ds) (.int i)=M (.fz d):=by show(lz ds i).map RV.fz=_;rw[uT a h];rfl
def LP{s:G Nat}(e:s.Pairwise (·<·))(h:∀k∈s,k<n):s.length<=n:=by
 let:∀(s:G Nat) (a:Nat),s.Pairwise (·<·)->(∀k∈s,a<=k/\k<n)->s.length<=n - a:=by
  intro s
  induction s with
  |nil=>intro a _ _;show W8 _
  |cons x r i=>intro a e h;let(l,j):=Zi.mp e;let m:=h x Wk;let:=i (x+1) j λk b=>#[l k b,(h k (Wf _ b)).2];rw[Wi];ext
 show this s 0 e λk b=>#[W8 _,h k b]
def wa(c:fr ρ=.ok (o,ρ1))(hd:pH ρ1 o=M ([d,e],ρ2))(b:eP d=M es)(a:eP e=M fs):uC fr ρ=.ok (j9 es fs,ρ2):=by ext uC;rw[c,ej,hd,aM,ej];dsimp only;rw[b,aM,ej,a,aM,ej]
def qO{f g:D->D->z RV}(k:fa ρ=.ok (pa,ρ))(j:fb ρ=.ok (J,ρ))(i:fc ρ=.ok (pc,ρ))(b:sH ρ (cy pa)=M dx)(a:sH ρ (cy J)=M o)(c:sH ρ pc=M dz)(h:f dx o=M (.fz (.bool b1)))(e:b1=P->g o dz=M (.fz (.bool b2))):lX f g fa fb fc ρ=.ok (.fz (.bool (b1&&b2)),ρ):=by
 ext lX;rw[k,ej,j,ej];dsimp only;rw[b,aM,ej,a,aM,ej,h,aM,ej];cases b1 with
 |false=>rfl
 |true=>dsimp only;rw[i,ej];dsimp only;rw[a,aM,ej,c,aM,ej,e W,aM,ej];rfl
end
end L3
namespace L3
open PySem PySem.Spec PyProof.Rows L2 PySem.Builtin PySem.Builtin.Str
section
variable{K:lD}{E:XK}{B O X:bG}{T H S:Hp}{N:L2.St}{L Y:aU}{v:V}
def VR(K:lD)(r:V->G V->Hp->VK->Prop)(f:Str->G D->b3 RV):Prop:=∀(O:bG) (H:Hp) (z:Str) (xs:G V) (ds:G D) (a:RV) (Q:VK),lM O H->Paired (DX O K H) xs ds->f z ds=M a->Fin O K H Q a->r (.str z) xs H Q
end
end L3
namespace L2
open PySem PySem.Spec PyProof.Rows
section
variable{Y:Type}[DecidableEq Y]
def jM(b:G (Y×V))(k:Y):z V:=(b.find? λa=>decide (a.1=k)).map (·.2)
def i8(b:G (Y×V))(k:Y)(v:V):G (Y×V):=
 if(b.any λa=>decide (a.1=k))=P then b.map (λa=>if a.1=k then(a.1,v)else a)else b++[(k,v)]
def mP(b:G (Y×V))(k:Y):G (Y×V):=b.filter λa=>decide (a.1≠k)
def rJ{k:Y}(e:p.1=k):jM (p::r) k=M p.2:=by simp[jM,WZ,e]
def si{k:Y}(e:¬p.1=k):jM (p::r) k=jM r k:=by simp[jM,WZ,e]
theorem xQ(k:Y):∀a:G (Y×V),(a.any λb=>decide (b.1=k))=(jM a k).isSome
 |[]=>rfl
 |p::r=>by
  rw[Y2];by_cases e:p.1=k
  .simp only[rJ e,a4 e,YM,ac5]
  .rw[si e,a5 e,Zz];show xQ k r
def jY(a:G (Y×V))(k:Y)(v:V):(i8 a k v).length<=a.length+1:=by
 ext i8;split
 .rw[V1];ext
 .rw[V8,Wi,Yi];ext
def Zu.Zv(r:Zu o u):o.isSome=u.isSome:=by
 cases o with
 |none=>cases u with
  |none=>rfl
  |some _=>show(show False from r).elim
 |some _=>cases u with
  |none=>show(show False from r).elim
  |some _=>rfl
def KV.val{d:G (Y×V)}{c:G (Y×B)}(r:KV d c)(k:Y):Zu (jM d k) (valueAt c k):=by
 unfold KV at r
 induction r with
 |nil=>show True.intro
 | @cons p q l i h t j=>
  let(f,g):=h;by_cases e:p.1=k
  .let a:q.1=k:=f.symm.trans e
   let b:valueAt (q::i) k=M q.2:=by simp[valueAt,WZ,a]
   rw[rJ e,b];show g
  .let a:¬q.1=k:=λz=>e (f.trans z)
   let b:valueAt (q::i) k=valueAt i k:=by simp[valueAt,WZ,a]
   rw[si e,b];show j
def KV.any(r:KV WA vs)(k:Y):(WA.any λb=>decide (b.1=k))=vs.any λb=>decide (b.1=k):=by
 unfold KV at r
 induction r with
 |nil=>rfl
 |cons h t a=>rw[Y2,Y2,a,h.1]
def KV.afR(r:KV WA vs)(k:Y)(b:RelV y u):
  KV (WA.map λc=>if c.1=k then(c.1,y)else c) (vs.map λc=>if c.1=k then(c.1,u)else c):=by
 unfold KV at r⊢
 induction r with
 |nil=>show .nil
 | @cons p q j i h t g=>
  rw[Wl,Wl];show .cons ?_ g;let(a,f):=h;by_cases e:p.1=k
  .rw[ax e,ax (a.symm.trans e)];show#[a,b]
  .rw[aE e,aE (λz=>e (a.trans z))];show#[a,f]
def KV.put(r:KV WA vs)(k:Y)(a:RelV y u):KV (i8 WA k y) (stored vs k u):=by
 unfold i8 stored;rw[r.any k];by_cases e:(vs.any λb=>decide (b.1=k))=P
 .rw[ax e,ax e];show r.afR k a
 .rw[aE e,aE e];show Paired.snoc r #[W,a]
def KV.drop(r:KV WA vs)(k:Y):KV (mP WA k) (without vs k):=by
 unfold KV at r⊢;unfold mP without
 induction r with
 |nil=>show .nil
 | @cons p q m l h t j=>
  let(f,g):=h;rw[ZJ,ZJ];by_cases e:p.1=k
  .let a:¬decide (p.1≠k)=P:=by simp[e]
   let b:¬decide (q.1≠k)=P:=by simp[f.symm.trans e]
   rw[aE a,aE b];show j
  .let i:¬q.1=k:=λz=>e (f.trans z)
   let a:decide (p.1≠k)=P:=by simp[e]
   let b:decide (q.1≠k)=P:=by simp[i]
   rw[ax a,ax b];show .cons #[f,g] j
def KV.keys{b:G (Y×B)}(r:KV WA b):WA.map (·.1)=b.map (·.1):=by
 unfold KV at r
 induction r with
 |nil=>rfl
 |cons h t a=>rw[Wl,Wl,a,h.1]
theorem KV.length(r:KV WA vs):WA.length=vs.length:=Paired.length r
theorem Fv(a:G (Y×V))(k:Y):(mP a k).length<=a.length:=Z6 _ _
end
def tm(r:RelV (kV k) u):(cH a w).is k u=V0:=by
 cases k with
 |inl i=>let(t,e):=(show∃t,u=Ld.int i t from r);subst e;show yh a w i t
 |inr x=>let(t,e):=(show∃t,u=Ld.str x t from r);subst e;show ye a w x t
theorem tY:∀{b:G cw} {us:G B},Vals (b.map kV) us->ItemsAre (cH a w) b us
 |[],_,r=>by rw[YK]at r;ext r;show .nil
 |k::b,_,r=>by
  rw[Wl]at r;cases r with
  |cons h t=>show .cons (tm h) (tY t)
abbrev KT(H:Hp):G (G cw×V)->G (G cw×U×B)->Prop:=Paired λp q=>p.1=q.1/\H q.2.1=M (.tup (p.1.map kV))/\RelV p.2 q.2.2
def KT.val(r:KT H WA xs)(k:G cw):Zu (jM WA k) ((atKey xs k).map (·.2)):=by
 induction r with
 |nil=>show True.intro
 | @cons p q l i h t j=>
  let(f,_,g):=h;by_cases e:p.1=k
  .let a:=f.symm.trans e
   let b:atKey (q::i) k=M q.2:=by simp[atKey,WZ,a]
   rw[rJ e,b];show g
  .let a:¬q.1=k:=λz=>e (f.trans z)
   let b:atKey (q::i) k=atKey i k:=by simp[atKey,WZ,a]
   rw[si e,b];show j
def KT.afR(r:KT H WA xs)(k:G cw)(f:RelV y u):
  KT H (WA.map λc=>if c.1=k then(c.1,y)else c) (xs.map (putAt k u)):=by
 induction r with
 |nil=>show .nil
 | @cons p q l j h t i=>
  rw[Wl,Wl];show .cons ?_ i;let(a,b,g):=h;ext putAt;by_cases e:p.1=k
  .rw[ax e,ax (a.symm.trans e)];show#[a,b,f]
  .rw[aE e,aE (λz=>e (a.trans z))];show#[a,b,g]
def KT.put(r:KT H WA xs)(k:G cw)(g:H b=M (.tup (k.map kV)))(a:RelV y u):
  KT H (i8 WA k y) (storedH xs k b u):=by
 let e:(WA.any λf=>decide (f.1=k))=(atKey xs k).isSome:=by rw[xQ,(r.val k).Zv,Zk]
 unfold i8 storedH;rw[e];by_cases q:(atKey xs k).isSome=P
 .rw[ax q,ax q];show r.afR k a
 .rw[aE q,aE q];show Paired.snoc r #[W,g,a]
theorem KT.keeps(r:KT H WA xs)(a:∀b ys,H b=M (.tup ys)->H' b=M (.tup ys)):KT H' WA xs:=
 Paired.Zt r λ_ _ z=>#[z.1,a _ _ z.2.1,z.2.2]
section
variable{P:Ws}{w:WO}{H:Hp}{h:Heap}{a:V5}
theorem Nw(ok:Z9 P w H h)(e:Rd H a u):ObjOk P w H h a u:=e.ok ok
theorem xN(ok:Z9 P w H h)(e:Rd H a (.dK o)):o.length<=We/\(a==Xu)=I/\∃b,KV o b/\h.DictOf (cH P w) a b:=
 show ObjOk P w H h a (.dK o)from Nw ok e
theorem xS(ok:Z9 P w H h)(e:H a=M (.dK o)):o.length<=We/\(a==Xu)=I/\∃b,KV o b/\h.DictOf (cH P w) a b:=xN ok (.inl e)
def wg{c:G cw}(ok:Z9 P w H h)(e:H a=M (.tup (c.map kV))):(tupleKind (cH P w)).is h c a:=by let(_,i,r,o,g,(f,n,b),_):=(show ObjOk P w H h a (.tup (c.map kV))from ok a _ e);show#[o,i.toArray,n,g,f,b,by simpa using tY r]
def ym(ok:Z9 P w H h)(e:Rd H a (.dT C)):C.length<=We/\(a==Xu)=I/\
  ∃xs,KT H C xs/\h.DictOfH (tupleKind (cH P w)) a xs:=by
 let(z,y,xs,r,o,es,u,n,j,i,g,f):=(show ObjOk P w H h a (.dT C)from Nw ok e);show#[z,y,xs,r,o,es,u,n,j,i,g,λx b=>?_,f];let all:∀{l:G (G cw×V)} {m:G (G cw×U×B)},KT H l m->∀x∈m,(tupleKind (cH P w)).is h x.1 x.2.1:=by
  intro l m q
  induction q with
  |nil=>intro x b;show nomatch b
  | @cons p q J E v t A=>
   intro x b;rcases WE.mp b with e|b
   .subst e;show wg ok (by rw[<-v.1];show v.2.1)
   .show A x b
 show all r x b
theorem Sr(ok:Z9 P w H h)(e:H a=M (.dT o)):o.length<=We/\(a==Xu)=I/\
  ∃xs,KT H o xs/\h.DictOfH (tupleKind (cH P w)) a xs:=ym ok (.inl e)
end
def abS(H:Hp)(a:U)(y:V)(r:z V):Prop:=
 (∃e k,Rd H a (.dK e)/\y=kV k/\r=jM e k)\/∃e k b,Rd H a (.dT e)/\y=.ref b/\H b=M (.tup (k.map kV))/\r=jM e k
def ad9(H:Hp)(a:U)(y v:V)(H':Hp):Prop:=
 (∃e k,H a=M (.dK e)/\y=kV k/\e.length<We/\H'=a8 H a (.dK (i8 e k v)))\/
 ∃e k b,H a=M (.dT e)/\y=.ref b/\H b=M (.tup (k.map kV))/\e.length<We/\H'=a8 H a (.dT (i8 e k v))
theorem abS.k{k:cw}(e:H a=M (.dK WA)):abS H a (kV k) (jM WA k):=.inl #[WA,k,.inl e,W,W]
theorem ad9.k{k:cw}(e:H a=M (.dK WA))(b:WA.length<We):ad9 H a (kV k) v (a8 H a (.dK (i8 WA k v))):=.inl #[WA,k,e,W,b,W]
section
variable{X:Cx}{Z:bg (V5×Obj)}{Y:St}{H:Hp}{s:V7}{a:V5}{y v:V}{u r:Ld}{o:b3 V}{A:WK}{E:Ld->V7->Prop}
def Inv.big(I:Inv X Z Y H s):Xu<s.heap.objs.size:=by let h:=(I.mod.glob.keeps I.bk).lt;show YT () h
def Cm{Q:Ld->V7->Prop}(t:A.units+1<cLine)(I:Inv X Z Y H s)(g:abS H a y (M v))(q:RelV y u)(h:∀c d,Inv X Z Y H d->RelV v c->Q c d):
  wpAny (model X.prog X.w) A (getItem (.ref a) u) Q E s:=by
 rcases g with⟨J,k,e,n,l⟩|⟨J,k,b,e,n,F,l⟩
 .subst n;let(z,C,w,i,dd):=xN I.Xr e;let(c,j,f):=Zu.some_of (v:=v) (o:=valueAt w k) (by rw[l];show i.val k);show wpAny_getItem_of (tm q) dd.mapOf j (h c _ (I.tok _) f)
 .subst n;cases(show u=Ld.ref b from q);let(z,C,xs,i,dd):=ym I.Xr e;let(c,j,f):=Zu.some_of (v:=v) (o:=(atKey xs k).map (·.2)) (by rw[l];show i.val k);let(p,B,m):=ZK.mp j;show afp (aa3 t) (wg I.Xr F) dd B ?_;rw[m];show h c _ (I.tok _) f
def Uq{Q:B->V7->Prop}(n:A.units+1<cLine)(I:Inv X Z Y H s)(g:abS H a y o)(m:RelV y u)(h:∀c,Inv X Z Y H c->Q (.bool o.isSome) c):
  wpAny (model X.prog X.w) A (Xs .In u (.ref a)) Q E s:=by
 rcases g with⟨t,k,e,j,l⟩|⟨t,k,b,e,j,p,l⟩
 .subst j;let(z,i,w,f,dd):=xN I.Xr e;show wpAny_in_of (tm m) i dd.mapOf ?_;rw[<-(f.val k).Zv,<-l];show h _ (I.tok _)
 .subst j;cases(show u=Ld.ref b from m);let(z,i,xs,f,dd):=ym I.Xr e;show ak1 (aa3 n) (wg I.Xr p) i dd ?_;let q:=(f.val k).Zv;rw[Zk]at q;rw[<-q,<-l];show h _ (I.tok _)
theorem mK{c:Heap}{d:Nat}{f:HO}(I:Inv X Z Y H s)(g:R9 (H a))(h:Heap.SameBut a s.heap c)(i:∃q,c.get? a=M q)(new:ObjOk X.prog X.w (a8 H a f) c a f):
  Inv X Z Y (a8 H a f) {s with heap:=c,toks:=d}:=
 I.write (x:=a) (e:=a) g (.inl W) (λb q j z=>(h.2 b j).trans z) i new
theorem yQ(z:J.length<=We)(hd:(a==Xu)=I)(b:KV J C)(dd:h'.DictOf (cH e w) a C):
  ObjOk e w H' h' a (.dK J):=#[z,hd,C,b,dd]
def Dl{H':Hp}{Q:Unit->V7->Prop}(L:A.units+1<cLine)(I:Inv X Z Y H s)(g:ad9 H a y v H')(F:RelV y u)(x:RelV v r)(h:∀d,Inv X Z Y H' d->Q ⟨⟩ d):
  wpAny (model X.prog X.w) A (setItem (.ref a) u r) Q E s:=by
 rcases g with⟨w,k,e,B,l,C⟩|⟨w,k,b,e,B,K,l,C⟩
 .subst B C
  let(z,t,vs,f,dd):=xS I.Xr e;let m:vs.length<=We:=by rw[<-f.length];show z
  let p:(i8 w k v).length<=We:=by let:=jY w k v;ext
  show wpAny_setItem_pairs (hsz:=m) (tm F) dd λG i n=>h _ ?_;let M:∃q,G.get? a=cL q:=let#[q,_,_,j,_]:=i;#[q,j]
  show mK I (by rw[e];show True.intro) n M (yQ p t (f.put k x) i)
 .subst B C
  cases(show u=Ld.ref b from F);let(z,t,xs,f,dd):=Sr I.Xr e;let m:xs.length<=We:=by rw[<-Paired.length f];show z
  let p:(i8 w k v).length<=We:=by let:=jY w k v;ext
  show afq (hsz:=m) (aa3 L) (wg I.Xr K) dd λG i n=>h _ ?_;let(q,es,S,j,R,P,O,_,N):=i;show mK I (by rw[e];show True.intro) n #[q,j] #[p,t,_,(f.put k K x).keeps λc T J=>?_,q,es,S,j,R,P,O,N];rw[aw (Tz J e (λz=>nomatch z))];show J
end
section
variable{X:Cx}{Z:bg (V5×Obj)}{T:St}{H:Hp}{s:V7}{a:V5}{Y:bg (cw×V)}{k:cw}{u:Ld}{A:WK}{E:Ld->V7->Prop}
def Sg{v:V}{b:G Ld}{Q:Ld->V7->Prop}(I:Inv X Z T H s)(e:H a=M (.dK Y))(j:RelV (kV k) u)(l:jM Y k=M v)(hm:b=[]\/∃x,b=[x])
  (h:∀c d,Inv X Z T (a8 H a (.dK (mP Y k))) d->RelV v c->Q c d):wpAny (model X.prog X.w) A (call (.builtin "dict.pop") (.ref a::u::b)) Q E s:=by
 let(z,B,w,f,dd):=xS I.Xr e;let(c,n,m):=Zu.some_of (v:=v) (o:=valueAt w k) (by rw[<-l];show f.val k);let r:(keyPart u).isSome=P:=by
  cases k with
  |inl i=>let(t,q):=(show∃t,u=Ld.int i t from j);subst q;rfl
  |inr x=>let(t,q):=(show∃t,u=Ld.str x t from j);subst q;rfl
 let L:argsOk "dict.pop" #[.ref a::u::b,[]]:=by
  rcases hm with q|⟨x,q⟩
  .subst q;show PySem.F.args_dict_pop_2 _ _
  .subst q;show PySem.F.args_dict_pop_3 _ _ _
 show abj abY dd.typeIs PySem.F.entry_dict_pop L (meets_dict_pop_there (cH X.prog X.w) a (tm j) b hm r)
  #[w,c,dd,by rw[<-f.length];show z,n,λC g p=>h c _ ?_ m]
 let y:∃q,C.get? a=M q:=let#[q,_,_,J,_]:=g;#[q,J]
 show mK I (by rw[e];show True.intro) p y (yQ (WU (Fv Y k) z) B (f.drop k) g)
end
def QD(i:Ww):Prop:=∀a b,subscripted i I a b=operate [a,b] (getItem a b)
def BL{T id:String}
  (m:typeLookup (.type T) "__getitem__"=pure (M (.builtin id))) (l:QD slice)
  (h:wpAny (model prog w) A (eval value env) (λo d=>wpAny (model prog w) A (eval slice env) (λi c=>c.TypeIs o T/\wpAny (model prog w) A (getItem o i) Q E c) E d) E s):
  wpAny (model prog w) A (eval (.Subscript value slice pos) env) Q E s:=by
 show Subscript_ (wpAny_mono h (λo d g=>wpAny_mono g (λi c a=>?_) λ_ _ x=>x) λ_ _ x=>x);let(j,a):=a;ext subscriptTail;show CL ?_;rw[getitemInPython_of_ne j.not_modules];show CL (ahF j m ?_);let e:wpAny (model prog w) A (subscripted slice I o i) (λr b=>wpAny (model prog w) A (letTemporaryGo value o r>>=λ_=>pure r) Q E b) E c:=by rw[l o i];show wpAny_operating (wpAny_mono a (λr b f=>CL (wpAny_letTemporaryGo (Wb f))) λ_ _ x=>x)
 first
  |show Wb (CL e)
  |show CL (Wb (CL e))
  |show CL e
def xf(I:Inv X pins σ H s)(g:abS H a y o):s.TypeIs (.ref a) "dict":=by
 rcases g with⟨f,k,e,_,_⟩|⟨f,k,b,e,_,_,_⟩
 .let(_,_,h,_,dd):=xN I.Xr e;show dd.typeIs
 .let(_,_,xs,_,dd):=ym I.Xr e;show dd.typeIs
def Nt(f ty:TE):TE:=λb H Q=>f b H λx g=>ty b g λy e=>∃a v,x=.ref a/\abS e a y (M v)/\Q v e
def S8(ty f:TE):TE:=λb H Q=>ty b H λy g=>f b g λx e=>∃a o,x=.ref a/\abS e a y o/\Q (.bl o.isSome) e
def Nx(f ty e:TE):TS:=λD b H=>e b H λv i=>f b i λx h=>ty b h λy g=>∃a j,x=.ref a/\ad9 g a y v j/\D.nx b j
section
variable{X:Cx}{o i e Z:Ww}{pos Y ajb:Pos}{T U tv:TE}
def LQ(t:X.A.units+1<cLine)(z:PE X o T)(c:PE X i U)(w:QD i):PE X (.Subscript o i pos) (Nt T U):=by intro b s j H Q I h;show BL abf.lookup w (bT (z b s j H _ I h) λu m #[x,G,E,p,r]=>bT (c b m j G _ E r) λM L a=>?_);let(y,F,l,n,a,v,A,g,q):=a;subst A;obtain rfl:=p;show#[xf l g,Cm t l g n λJ K C f=>#[v,F,C,f,q]]
def DU(r:X.A.units+1<cLine)(c:PE X i U)(t:PE X o T):PC X .In i o (S8 U T):=by intro b s f H Q I h;show bT (c b s f H _ I h) λJ j #[y,E,A,l,p]=>bT (t b j f E _ A p) λu G a=>?_;let(x,C,z,m,a,q,v,g,n):=a;subst v;obtain rfl:=m;show Uq r z g l λF w=>#[.bl q.isSome,C,w,W,n]
def Lz(z:X.A.units+1<cLine)(C:PE X o T)(c:PE X i U)(w:PE X Z tv)(B:Yu Z (cL (.Subscript o i Y)) pos.line X.env=pure V4):
  PS X (.Assign [.Subscript o i Y] Z pos) (Nx T U tv):=by
 intro b s f H D I h;show adM (bT (w b s f H _ I h) λr l #[v,N,K,rv,t]=>bT (C b l f N _ K t) λu j #[x,A,J,n,q]=>bT (c b j f A _ J q) λQ P a=>?_) B;let(y,S,G,m,a,L,E,g,p):=a;subst E;obtain rfl:=n;show Dl z G g m rv λO F=>#[f,L,F,p]
end
def oi(c a:G (cw×V)):G (cw×V):=a.foldl (λb e=>i8 b e.1 e.2) c
def KV.merge:∀{a:G (cw×V)} {b:G (cw×B)} {d:G (cw×V)} {c:G (cw×B)},KV a b->KV d c->KV (oi d a) (merged c b):=by
 intro a b d c r;unfold KV at r
 induction r generalizing d c with
 |nil=>intro q;show q
 | @cons p q j i h t g=>
  intro f;let e:KV (i8 d p.1 p.2) (stored c q.1 q.2):=by let:=f.put p.1 h.2;rw[<-h.1];show this
  show g e
theorem lU:∀(a c:G (cw×V)),(oi c a).length<=c.length+a.length
 |[],c=>by show c.length<=c.length+0;ext
 |p::r,c=>by let e:=lU r (i8 c p.1 p.2);let b:=jY c p.1 p.2;show(oi (i8 c p.1 p.2) r).length<=_;rw[Wi];ext
structure M1(X:Cx)(o:Ww)(m:Str)(apos:Pos)(e:Ww)(Yy:Pos):Prop where
 base:attributeBase o m X.env (eval o X.env)=eval o X.env
 few:((backTo Yy (Wn [e] X.env)).all (λx=> !x.1)&&(backToKw Yy (keywordEach [] X.env)).all (λx=>x.1.isSome)
  &&decide (([e]:G Ww).length+([]:G ZS).length+(if([]:G ZS).isEmpty then 0 else 1)<30))=P
 line:(apos.endLine==Yy.line)=P
 trees:backTo Yy (Wn [e] X.env)=[(I,eval e X.env)]
structure M2(X:Cx)(o:Ww)(m:Str)(apos:Pos)(e f:Ww)(Yy:Pos):Prop where
 base:attributeBase o m X.env (eval o X.env)=eval o X.env
 few:((backTo Yy (Wn [e,f] X.env)).all (λx=> !x.1)&&(backToKw Yy (keywordEach [] X.env)).all (λx=>x.1.isSome)
  &&decide (([e,f]:G Ww).length+([]:G ZS).length+(if([]:G ZS).isEmpty then 0 else 1)<30))=P
 line:(apos.endLine==Yy.line)=P
 trees:backTo Yy (Wn [e,f] X.env)=[(I,eval e X.env),(I,eval f X.env)]
def UT(H:Hp)(a:U):Prop:=(∃b,Rd H a (.dK b))\/∃b,Rd H a (.dT b)
def PZ(I:Inv X pins σ H s)(d:UT H a):
  s.TypeIs (.ref a) "dict"/\(∀b,Ld.ref a=.ref b->∃c,s.heap.get? b=M c/\c.dict=R)/\(a==Xu)=V4:=by
 rcases d with⟨i,e⟩|⟨i,e⟩
 .let(_,f,j,_,dd):=xN I.Xr e;show#[dd.typeIs,λb q=>?_,f];ext q;let(c,_,_,h,g,_):=dd;show#[c,h,g.2.1]
 .let(_,f,xs,_,dd):=ym I.Xr e;show#[dd.typeIs,λb q=>?_,f];ext q;let(c,_,_,h,g,_):=dd;show#[c,h,g.2.1]
def GQ(g ty:TE):TE:=λb H Q=>g b H λx f=>∃a,x=.ref a/\UT f a/\ty b f λy e=>∃h k v,e a=M (.dK h)/\y=kV k/\jM h k=M v/\Q v (a8 e a (.dK (mP h k)))
section
variable{X:Cx}{o e f:Ww}{Z Y:Pos}{T ty S:TE}
def Fu(A:PE X o T)(B:PE X e ty)(m:M1 X o "pop" Z e Y):PE X (.Call (.Attribute o "pop" Z) [e] [] Y) (GQ T ty):=by intro b s i H Q I h;show af6 m.base m.few m.line Zq abY PySem.F.type_dict_pop (bT (A b s i H _ I h) λu q a=>?_);let(x,L,j,t,a,E,d,z):=a;subst E;obtain rfl:=t;let(p,n,_):=PZ j d;show#[p,n,?_];rw[m.trees];show Calls.callWith_builtin W (Calls.evalArgs_plain (Calls.spliced_cons (bT (B b q i L _ j z) λP O a=>?_)));let(y,F,K,r,WA,k,v,G,C,l,w):=a;show Calls.spliced_nil ?_;subst C;show Sg K G r l (.inl W) λM N J g=>#[v,_,J,g,w]
end
end L2
namespace L4
open PySem PySem.Spec PyProof.Rows L2 L3
def Dh(h:Heap)(e:U)(c:B)(d:z U)(a:B)(hd:z U):Prop:=
 ∃b fs,h.get? e=M b/\b.cls=c/\b.dict=d/\b.data=.fields fs/\fs[0]?=M a/\
  match hd with
  |none=>fs[1]?=M .none
  |some T=>fs[1]?=M (.ref T)/\T≠e/\∃g f,h.get? T=M g/\g.data=.fields f/\f[3]?=M .none
structure Lft(l:G Env)(e:U)(hd:z U)(h h':Heap):Prop where
 keep:∀b o,h.get? b=M o->b≠e->hd≠M b->b∉wx l->h'.get? b=M o
 slot:∀b o,h.get? b=M o->b≠e->hd≠M b->∃sl,h'.get? b=M {o with slots:=sl}
 here:∀b o,h.get? b=M o->∃o',h'.get? b=M o'
section
variable{M:ady}{A:WK}{E:Ld->V7->Prop}{s:V7}
def g9
  (I:A.frames=cL (env::outer)) (B:s.heap.FunFrames base (env::outer)) (H:env.frame=cL L) (C:s.heap.get? e=cL ob) (p:ob.data=.fields fs) (m:1<fs.size) (J:fs[0]?=cL a0)
  (k:∀D T,s.heap.objs.size<=T->Dh D e ob.cls ob.dict a0 (cL T)->Lft (env::outer) e R s.heap D->Q ⟨⟩ {s with heap:=D}):
  wpAny M A (frameOf env>>=λfr=>entryPlaceOf L nx>>=λpl=>EntryCells.newEntry hv fr .none (rawInt L) .none pl>>=λb=>setField (.ref e) 1 b) (λ_ V=>wpAny M A (setFlight (.ref e) R) Q E V) E s:=by
 let j:e∉(env::outer).filterMap (·.frame):=λz=>by let(_,o,q,n):=B.mem z;rw[C]at q;ext q;show n fs p
 show CL (af7 I B H λa S=>?_);show CL (afr λpl P=>?_);unfold EntryCells.newEntry newFields;show CL (XT ?_ (P.sizeOk5 _ _ _ _ _));let y:=(S.2.1 e j).trans C;generalize X:({cls:=.type "traceback",dict:=R,data:=.fields ([hv,.ref L,.none,rawInt L,.none]++(if pl.isEmpty then Wd 6 Ld.none else pl)).toArray}:Obj)=N;let g:N.data=.fields ([hv,.ref L,.none,rawInt L,.none]++(if pl.isEmpty then Wd 6 Ld.none else pl)).toArray:=by rw[<-X]
 let K:=dN g;let w:=b4 N y;show Xq w p m ?_;let l:=Xn (cj y);let r:=dt p (·.setIfInBounds 1 (Ld.ref a.objs.size));let i:=cv (Obj.mapFields (·.setIfInBounds 1 (Ld.ref a.objs.size))) w (dN r)
 let u:=
  (cn (a.push N) (Obj.mapFields (·.setIfInBounds 1 (Ld.ref a.objs.size))) l.symm).trans (ck a K)
 ext setFlight;show CL (WQ i r (x:=.ref a.objs.size) (by simp[m]) ?_);rw[ax (show(Ld.ref a.objs.size !=Ld.none)=V0 from by simp)];let t:3<([hv,.ref L,.none,rawInt L,.none]++(if pl.isEmpty then Wd 6 Ld.none else pl)).toArray.size:=by simp only[Wt,V8,Wi,Yi];ext
 show Xq u g t ?_;let v:=cn ((a.push N).update e (Obj.mapFields (·.setIfInBounds 1 (Ld.ref a.objs.size)))) (Obj.mapFields (·.setIfInBounds 3 ((R:b3 U).elim Ld.none λf=>rawInt f))) l;let F:=cv (Obj.mapFields (·.setIfInBounds 3 ((R:b3 U).elim Ld.none λf=>rawInt f))) u (dN (dt g _));let Zw:∀b o,b≠e->a.get? b=cL o->(((a.push N).update e (Obj.mapFields (·.setIfInBounds 1 (Ld.ref a.objs.size)))).update a.objs.size (Obj.mapFields (·.setIfInBounds 3 ((R:b3 U).elim Ld.none λf=>rawInt f)))).get? b=cL o:=λb o ne q=>by rw[cn _ _ (Xn (cj q)),cn _ _ ne.symm];show b4 N q
 show k _ a.objs.size (by rw[S.1];show Wa _) #[_,_,v.trans i,Obj.cls_mapFields _ _,?_,r,?_,?_,l,_,_,F,dt g _,?_] #[λb o q ne _ G=>Zw b o ne ((S.2.1 b G).trans q),λb o q ne _=>?_,λb o q=>?_]
 .cases ob with
  |mk c d O h=>ext O<;>rfl
 .rw[YU ()];show J
 .simp[m]
 .rw[XD t];rfl
 .let(h,z):=S.2.2 b o q;show#[h,Zw b _ ne z]
 .by_cases ne:b=e
  .subst ne;show#[_,v.trans i]
  .let(h,z):=S.2.2 b o q;show#[_,Zw b _ ne z]
def Dr
  (v:A.frames=cL (env::outer)) (u:s.heap.FunFrames base (env::outer)) (h:env.frame=cL L) (F:Dh s.heap e c dx a0 hd)
  (k:∀x T,s.heap.objs.size<=T->Dh x e c dx a0 (cL T)->Lft (env::outer) e hd s.heap x->Q ⟨⟩ {s with heap:=x}):wpAny M A (leaving env (.ref e)) Q E s:=by
 let(N,fs,q,I,H,d,w,r):=F;subst I H;cases hd with
 |none=>let r:=r;unfold leaving noteFrame;simp only[h];show CL (CL (WQ q d r ?_));rw[aE ()];show g9 v u h q d (WJ.mp r).1 w k
 |some T=>
  let(r,C,O,B,g,dT,p):=r;unfold leaving noteFrame;simp only[h];show CL (CL (WQ q d r ?_));rw[ax (show(Ld.ref T !=Ld.none)=P from by simp)];show CL (WQ g dT p ?_);rw[aE (show¬((Ld.none==rawInt L)=P)from by simp[rawInt])];show CL (Xq g dT (WJ.mp p).1 ?_);let f:∀b,b≠T->(s.heap.update T (Obj.mapFields (·.setIfInBounds 3 Ld.none))).get? b=s.heap.get? b:=λb ne=>cn _ _ ne.symm;let a:=cv (Obj.mapFields (·.setIfInBounds 3 Ld.none)) g (dN (dt dT _));let m:∀b o,s.heap.get? b=cL o->(∀S,o.data≠.fields S)->b≠T:=λb o z n y=>by rw[y,g]at z;ext z;show n B dT
  show g9 v (u.of_keeps λb o z n=>#[o,(f b (m b o z n)).trans z,W]) h ((f e C.symm).trans q) d (WJ.mp r).1 w λx J t K i=>k x J (by rw[Heap.size_after_update]at t;show t) K #[λb o z l j G=>?_,λb o z l j=>?_,λb o z=>?_]
  .show i.keep b o ((f b λy=>j (by rw[y])).trans z) l (by simp) G
  .show i.slot b o ((f b λy=>j (by rw[y])).trans z) l (by simp)
  .by_cases y:b=T
   .subst y;show i.here b _ a
   .show i.here b o ((f b y).trans z)
end
theorem Lft.Xr{P:Ws}{w:WO}{l:G Env}{e:U}{hd:b3 U}{H:Hp}{h d:Heap}(L:Lft l e hd h d)(m:Z9 P w H h)(ne:H e=R)(i:∀T,hd=M T->H T=R)(j:∀b∈wx l,H b=R):Z9 P w H d:=λb u q=>by
 let free:∀c v,H c=M v->c≠e/\hd≠M c/\c∉wx l:=λc v z=>#[(λy=>by rw[y,ne]at z;ext z),(λy=>by rw[i c y]at z;ext z),(λy=>by rw[j c y]at z;ext z)];show(m b u q).Zw (λc v n z=>?_) (λ_ z=>z) λ_ _ z=>z;rcases n with y|y
 .rw[y]at z⊢;let(g,f,a):=free b u q;show L.keep b v z g f a
 .let(g,f,a):=free c _ y;show L.keep c v z g f a
def j7(P:Ws)(w:WO):u6:=λa H s E x b=>
 ∃e c f a0 T H',x=.ref e/\s.heap.get? e=R/\s.heap.get? T=R/\Dh b.heap e c f a0 (M T)/\H' e=R/\H' T=R/\
  b.os=s.os/\AllBare b.gens/\Un (wx a) [] H H' s.heap b.heap/\Z9 P w H' b.heap/\E c f H'
def NG{P:Ws}{w:WO}{K:lD}{k:Str->b3 Ld}{base:Heap}{N:bg Str}{i:Str}{a:XS}{f:V5}{v:Ld}{A:WK}{outer:bg Env}{g:V7}{G:Hp}{E:XK}
  {l:bg (V5×Obj)} {J:L2.St} {H:Hp} {s:V7} {e:V5} {c C:Ld} {d hd:b3 V5} (I:L2.Inv (eF (j7 P w) P w K k base N i a f v A outer g G E) l J H s)
  (F:Dh s.heap e c d C hd) (u:g.heap.get? e=VY) (S:∀T,hd=cL T->g.heap.get? T=VY) (ne:H e=VY) (Q:∀T,hd=cL T->H T=VY) (q:E c d H):
  (eF (j7 P w) P w K k base N i a f v A outer g G E).xe (.ref e) s:=by
 let Z:=I.ok.frames;let Y:=I.stack;show Dr (L:=g.heap.objs.size) Z Y W F λh' T t F' L=>?_;let R:=L.Xr I.Xr ne Q I.aaC;let X:H T=VY:=I.Xr.fresh t;let p:∀b o,g.heap.get? b=cL o->b<g.heap.objs.size:=λb o z=>cj z;let h:∀b o,g.heap.get? b=cL o->b≠e/\hd≠cL b:=λb o z=>#[(λy=>by rw[y,u]at z;ext z),(λy=>by rw[S b y]at z;ext z)];let sz:=I.sz;show#[e,c,d,C,T,H,W,u,dk (WU sz t),F',ne,X,I.os,I.bare,?_,R,q];let B:=I.base;show#[λb o z n r _=>?_,λb o z n U _=>?_,λb o z n _=>?_,λb o z _=>?_,B.aa6,B.aaX,B.abb]
 .let j:=B.keep b o z n r (λy=>nomatch y)
  show L.keep b o j (h b o z).1 (h b o z).2 λy=>?_;rcases WE.mp (I.aan b y)with y|y
  .let y:b=g.heap.objs.size:=y;show a7 (p b o z) (by rw[y];show Xk _)
  .show r y
 .let(sl,j):=B.slot b o z n U (λy=>nomatch y);let(m,M):=L.slot b _ j (h b o z).1 (h b o z).2;show#[m,M]
 .show B.free b o z n (λy=>nomatch y)
 .let(O,j):=B.there b o z (λy=>nomatch y);show L.here b O j
def EH{P:Ws}{w:WO}{K:lD}{d:Str->b3 Ld}{base:Heap}{N:G Str}{g:Str}{a:XS}{f:U}{m:Ld}{A:WK}{outer:G Env}{i:V7}{r:Hp}{E:XK}:
  dG (j7 P w) (eF (j7 P w) P w K d base N g a f m A outer i r E) E:=by
 rintro l t H s x u I ⟨e,c,Q,B,T,C,rfl,le,L,F,ne,J,os,bare,un,Xr,q⟩;let p:=I.acr (ch:=[]) os un Xr bare (λb z=>nomatch z);let h:∀b,s.heap.get? b=R->i.heap.get? b=R:=λb z=>by
  cases y:i.heap.get? b with
  |none=>rfl
  |some o=>let(v,j):=I.base.there b o y (λy=>nomatch y);rw[z]at j;ext j
 show NG p F (h e le) (λn z=>by ext z;show h T L) ne (λn z=>by ext z;show J) q
def Rc(x:ObjOk b w H h a o):∃c,h.get? a=M c:=by
 cases o with
 |lst xs=>let(_,_,_,_,e):=x;show#[_,e]
 |tup xs=>let(_,_,_,c,e,_):=x;show#[c,e]
 |dK i=>let(_,_,_,_,o,_,_,e,_):=x;show#[o,e]
 |dT i=>let(_,_,_,_,o,_,_,e,_):=x;show#[o,e]
 |set S n=>let(o,_,_,_,e,_):=x;show#[o,e]
 |ins C m fs=>let(_,_,_,e,_):=x;show#[_,e]
 |own y=>show x
 |xd fs=>let(_,(o,_,_,e,_),_):=x;show#[o,e]
 |rng lo l=>let(_,_,_,e):=x;show#[_,e]
 |frz c u=>show#[c,x.1]
 |tbl j=>show#[_,x]
 |met f y=>show#[_,x]
 |ext g=>show x.2.1
 |exw g=>show x.2.1
def xy(k:Z9 e w H h)(n:h.get? a=R):H a=R:=by
 cases q:H a with
 |none=>rfl
 |some o=>let(b,z):=Rc (k a o q);rw[n]at z;ext z
section
variable{M:ady}{A:WK}{E:Ld->V7->Prop}{s:V7}
def LX{base:Heap}{env:Env}{outer:bg Env}{L e:U}{c B:Ld}{D hd:b3 U}{Q:Unit->V7->Prop}
  (v:A.frames=cL (env::outer)) (u:s.heap.FunFrames base (env::outer)) (h:env.frame=cL L) (F:Dh s.heap e c D B hd)
  (k:∀x T,s.heap.objs.size<=T->Dh x e c D B (cL T)->Lft (env::outer) e hd s.heap x->Q ⟨⟩ {s with heap:=x}):
  wpAny M A (noteFrame (.ref e) env) (λ_ s2=>wpAny M A (setFlight (.ref e) R) Q E s2) E s:=by
 let(O,fs,q,J,I,d,w,r):=F;subst J I;cases hd with
 |none=>let r:fs[1]?=cL .none:=r;ext noteFrame;simp only[h];show CL (WQ q d r ?_);rw[aE ()];show g9 v u h q d (WJ.mp r).1 w k
 |some T=>
  let(r,G,P,C,g,dT,p):=r;ext noteFrame;simp only[h];show CL (WQ q d r ?_);rw[ax (show(Ld.ref T !=Ld.none)=V0 from by simp)];show CL (WQ g dT p ?_);rw[aE (show¬((Ld.none==rawInt L)=V0)from by simp[rawInt])];show CL (Xq g dT (WJ.mp p).1 ?_);let f:∀b,b≠T->(s.heap.update T (Obj.mapFields (·.setIfInBounds 3 Ld.none))).get? b=s.heap.get? b:=λb ne=>cn _ _ ne.symm;let a:=cv (Obj.mapFields (·.setIfInBounds 3 Ld.none)) g (dN (dt dT _));let m:∀b o,s.heap.get? b=cL o->(∀S,o.data≠.fields S)->b≠T:=λb o z n y=>by rw[y,g]at z;ext z;show n C dT
  show g9 v (u.of_keeps λb o z n=>#[o,(f b (m b o z n)).trans z,W]) h ((f e G.symm).trans q) d (WJ.mp r).1 w λx K t N i=>k x K (by rw[Heap.size_after_update]at t;show t) N #[λb o z l j H=>?_,λb o z l j=>?_,λb o z=>?_]
  .show i.keep b o ((f b λy=>j (by rw[y])).trans z) l (by simp) H
  .show i.slot b o ((f b λy=>j (by rw[y])).trans z) l (by simp)
  .by_cases y:b=T
   .subst y;show i.here b _ a
   .show i.here b o ((f b y).trans z)
def Ri{e T:U}{c j:B}{y:z U}{Q:Unit->V7->Prop}(F:Dh s.heap e c y j (cL T))
  (k:∀x,Dh x e c y j (cL T)->(∀b,b≠T->x.get? b=s.heap.get? b)->(∃o,x.get? T=cL o)->Q ⟨⟩ {s with heap:=x}):wpAny M A (setFlight (.ref e) R) Q E s:=by
 let(n,fs,q,t,p,d,u,r,i,w,v,h,dT,m):=F;ext setFlight;show CL (WQ q d r ?_);rw[ax (show(Ld.ref T !=Ld.none)=P from by simp)];let g:=(WJ.mp m).1;show Xq h dT g ?_;let l:∀b,b≠T->(s.heap.update T (Obj.mapFields (·.setIfInBounds 3 ((R:z U).elim Ld.none λf=>rawInt f)))).get? b=s.heap.get? b:=λb ne=>cn _ _ ne.symm;let a:=cv (Obj.mapFields (·.setIfInBounds 3 ((R:z U).elim Ld.none λf=>rawInt f))) h (dN (dt dT _));show k _ #[n,fs,(l e i.symm).trans q,t,p,d,u,r,i,_,_,a,dt dT _,?_] l #[_,a];rw[XD g];rfl
end
section
variable{P:Ws}{w:WO}{K:lD}{mg:Str->b3 Ld}{base:Heap}{N:bg Str}{qual:Str}{scope:XS}{f:V5}{cd:Ld}{A:WK}{outer:bg Env}{s0:V7}{H0:Hp}{E:XK}{CX:u6}
  {σ:L2.St} {H:Hp} {s:V7} {h':Heap} {X:Cx}
def rO(I:L2.Inv X [] σ H s)(S:V5->Prop)(J:X.ex=[])(C:∀p∈X.pn,¬S p.1)(keep:∀b o,s.heap.get? b=cL o->¬S b->b∉wx X.stack->h'.get? b=cL o)
  (slot:∀b o,s.heap.get? b=cL o->¬S b->∃d,h'.get? b=cL {o with slots:=d}) (j:∀b o,s.heap.get? b=cL o->∃k,h'.get? b=cL k)
  (U:∀b,S b->X.s₀.heap.get? b=VY) (Q:¬S X.env.locals) (T:∀x c,X.env.cells.lookup x=cL c->¬S c) (R:∀b,S b->H b=VY):L2.Inv X [] σ H {s with heap:=h'}:=by
 let M:∀b o,X.s₀.heap.get? b=cL o->¬S b:=λb o z y=>by rw[U b y]at z;ext z
 let h:∀b,b∉X.ex:=λb z=>by rw[J]at z;ext z
 let B:=I.base;let a:∀x c,X.env.cells.lookup x=cL c->∀v,s.heap.IsCell c v->h'.IsCell c v:=λx c z v #[o,G,L]=>by let(d,q):=slot c o G (T x c z);show#[_,q,L]
 show#[I.ok,I.os,I.bare,#[λb o z n g _=>?_,λb o z n Z _=>?_,λb o z n x=>B.free b o z n x,λb o z x=>?_,B.aa6,B.aaX,B.abb],?_,λx c z=>?_,I.free,I.Y6,λp F=>?_,λb u q=>?_,I.len]
 .let e:=B.keep b o z n g (h b)
  show keep b o e (M b o z) λy=>?_;rcases WE.mp (I.aan b y)with y|y
  .rw[y]at z;show a7 (cj z) (Nat.not_lt_of_le I.ok.above)
  .show g y
 .let(d,e):=B.slot b o z n Z (h b);let(t,O):=slot b _ e (M b o z);show#[t,O]
 .let(k,e):=B.there b o z x;show j b k e
 .let(m,hn,Y):=I.loc
  let(o,es,ep,G,L,r):=hn;let(d,q):=slot _ o G Q;show#[m,#[_,es,ep,q,L,r],λi x v a1 a2 a3=>?_];let(u,rv,l):=Y i x v a1 a2 a3;show#[u,rv,?_];rcases l with l|⟨kd,c,z,y⟩
  .show .inl l
  .show .inr #[kd,c,z,a x c z _ y]
 .let(v,y):=I.cell x c z;show#[v,a x c z v y]
 .let(z,n,ne,g,dd):=I.pin p F
  rw[WL]at F;show#[keep p.1 p.2 z (C p F) (λy=>?_),n,ne,g,dd];rcases WE.mp (I.aan _ y)with y|y
  .show ne y
  .show g y
 .let free:∀c v,H c=cL v->¬S c/\c∉wx X.stack:=λc v z=>#[(λy=>by rw[R c y]at z;ext z),(λy=>by rw[I.aaC c y]at z;ext z)]
  show(I.Xr b u q).Zw (λc v hc z=>?_) (λ_ z=>z) λ_ _ z=>z;rcases hc with y|y
  .rw[y]at z⊢;show keep b v z (free b u q).1 (free b u q).2
  .show keep c v z (free c _ y).1 (free c _ y).2
end
section
variable{M:ady}{A:WK}{E:Ld->V7->Prop}{h:Heap}{g:Array aaa}{d:adx}{t:Nat}{os:acs}
def Fx{C U e:V5}{j:Obj}{z w y v:Str}{D x:V5}{b1 l s a:bg Ld}{Z Y:Bool}{u r:bg Str}{q p:bg Ld}{a1 a2:Bool}{k c:b3 Bool}{o n:b3 V5}{O N L K J I H G F B:b3 Ld}{f b:String}{Q:Bool->V7->Prop}
  (X:h.get? C=cL (excClassObj z w C D b1 l Z u q a1 k o O N L K J f)) (m:h.get? U=cL (excClassObj y v U x s a Y r p a2 c n I H G F B b)) (R:h.get? e=cL j) (S:j.cls=.ref C)
  (T:a.contains (.type "BaseException")=V0) (hm:(Ld.ref C::l).contains (.ref U)=V0) (P:Q V0 #[h,g,d,t,os]):wpAny M A (excMatches (.ref e) (.ref U)) Q E #[h,g,d,t,os]:=by
 let i:(Ld.ref U::a).contains (.type "BaseException")=V0:=by rw[aaF,T,aaN]
 let ft:=tc_notTuple;ext excMatches
 repeat (first|(specialize X9 R ?_;rw[S])|specialize X9 m ?_|(specialize Zn m ?_;rw[i])|(specialize Zn X ?_;rw[hm])|wp_step)
 show P
end
abbrev Cx.marked(X:Cx)(e:U):Cx:={X with A:=X.A.mark (M (.ref e)),calm:=I,xe:=λ_ _=>False}
section
variable{X:Cx}{Z:L2.St}{H:Hp}{s:V7}{Y:Heap}{e:V5}
theorem qQ(I:L2.Inv X [] Z H s)(e:U):L2.Inv (Cx.marked X e) [] Z H s:=
 #[#[I.ok.mod,I.ok.kind,I.ok.glob,I.ok.blt,I.ok.above,I.ok.inj,I.ok.has,I.ok.cab,(λz=>nomatch z),I.ok.frames,I.ok.stk,I.ok.exf,I.ok.bs,I.ok.bsz,I.ok.ach,I.ok.acd,I.ok.aam,I.ok.frf],I.os,I.bare,I.base,I.loc,I.cell,I.free,I.Y6,I.pin,I.Xr,I.len]
theorem qN(ok:X.Ok)(I:L2.Inv (Cx.marked X e) [] Z H s):L2.Inv X [] Z H s:=
 #[ok,I.os,I.bare,I.base,I.loc,I.cell,I.free,I.Y6,I.pin,I.Xr,I.len]
end
def xa(K:lD)(C:U)(m:G B):Prop:=∃nm q N bs hd sn sub b col dd a k1 k2 k3 k5 id,K.lookup C=M (excClassObj nm q C N bs m hd sn sub b col dd a k1 k2 k3 k5 id)
structure Apart(X:Cx)(a:U):Prop where
 n0:X.s₀.heap.get? a=R
 nL:a≠X.env.locals
 nC:∀y c,X.env.cells.lookup y=M c->c≠a
 nP:∀p∈X.pn,p.1≠a
def HL(X:Cx)(d:XK):B->V7->Prop:=λx a=>∃b H1 e c f a0 T,x=.ref e/\L2.Inv X [] b H1 a/\Dh a.heap e c f a0 (M T)/\Apart X e/\Apart X T/\H1 e=R/\H1 T=R/\d c f H1
def rB(I:L2.Inv X pins σ H s)(e:X.ex=[])(n:s.heap.get? a=R):Apart X a:=by
 let ne:∀b o,s.heap.get? b=M o->b≠a:=λb o z y=>by rw[y,n]at z;ext z
 show#[?_,?_,λy c z=>?_,λp h=>?_]
 .cases z:X.s₀.heap.get? a with
  |none=>rfl
  |some o=>let(g,y):=I.base.there a o z (by rw[e];simp);show a7 W (ne a g y)
 .let(m,(o,_,_,z,_),_):=I.loc;show(ne _ o z).symm
 .let(v,o,f,_):=I.cell y c z;show ne c o f
 .show ne _ _ (I.pin p (Y5 _ h)).1
def yM{X:Cx}(a:X.ex=[]):dG (j7 X.prog X.w) (X.ZH (HL X C)) C:=by rintro g h H s x m I ⟨e,c,r,i,T,l,rfl,le,o,F,ne,n,os,bare,un,Xr,q⟩;let f:=I.Y4;let j:=f.acr os un Xr bare (λb z=>nomatch z);show#[h,l,e,c,r,i,T,W,j.abO (λp z=>nomatch z),F,rB f a le,rB f a o,ne,n,q]
abbrev Cx.pinned(X:Cx)(l:G (U×Obj)):Cx:={X with pn:=l}
theorem JC(I:L2.Inv X pins σ H s):L2.Inv (Cx.pinned X (X.pn++pins)) [] σ H s:=
 #[#[I.ok.mod,I.ok.kind,I.ok.glob,I.ok.blt,I.ok.above,I.ok.inj,I.ok.has,I.ok.cab,I.ok.hd,I.ok.frames,I.ok.stk,I.ok.exf,I.ok.bs,I.ok.bsz,I.ok.ach,I.ok.acd,I.ok.aam,I.ok.frf],I.os,I.bare,I.base,I.loc,I.cell,I.free,I.Y6,(λp a=>I.pin p (by rw[WL]at a;show a)),I.Xr,I.len]
theorem gQ(ok:X.Ok)(I:L2.Inv (Cx.pinned X (X.pn++pins)) [] σ H s):L2.Inv X pins σ H s:=
 #[ok,I.os,I.bare,I.base,I.loc,I.cell,I.free,I.Y6,(λp a=>I.pin p (by rw[WL];show a)),I.Xr,I.len]
end L4
namespace L4
open PySem PySem.Spec PySem.W PyProof.Rows L2 L3
section
variable{Y:Ws}{w:WO}{A:WK}{E:Ld->V7->Prop}{h:Heap}{g:Array aaa}{d:adx}{t:Nat}{T:acs}{a C:V5}{o:Obj}{K:lD}
  {S Q:Str} {N:V5} {L J:bg Ld} {y:Bool} {v:bg Str} {u:bg Ld} {r:Bool} {q:b3 Bool} {p:b3 V5} {n l j i f:b3 Ld} {X:String}
structure aj3(K:lD)(C:U)(m:G B):Prop where
 cl:xa K C m
 be:m.contains (.type "BaseException")=P
 ga:findIn K (.ref C) "__getattribute__"=M (M (.builtin "BaseException.__getattribute__"))
 gt:findIn K (.ref C) "__getattr__"=M R
 cs:findIn K (.ref C) "__class__"=M (M (.builtin "object.__class__"))
 ob:mroIn K C (.type "object")=M P
end
end L4
namespace L3
open PySem PySem.Spec PyProof.Rows L2
def Cg:G Int->Int
 |[]=>0
 |[a]=>a
 |a::r=>if Cg r<=a then a else Cg r
theorem uH:∀{ns:G Int},0<ns.length->Cg ns∈ns/\∀i,i∈ns->i<=Cg ns
 |[a],_=>#[Wk,λi h=>by rw[WI.mp h];show ZC _]
 |a::b::r,_=>by
  let(f,e):=uH (ns:=b::r) (by rw[Wi];ext);show(if Cg (b::r)<=a then a else Cg (b::r))∈a::b::r/\∀i,i∈a::b::r->i<=(if Cg (b::r)<=a then a else Cg (b::r));by_cases q:Cg (b::r)<=a
  .rw[ax q]
   show#[Wk,λi h=>?_];rcases WE.mp h with z|z
   .omega
   .let:=e i z;ext
  .rw[aE q]
   show#[Wf _ f,λi h=>?_];rcases WE.mp h with z|z
   .omega
   .show e i z
end L3
namespace L3
open PySem PySem.Spec PyProof.Rows L2
section
variable{K:lD}{E:XK}
end
end L3
namespace L9
open PySem PySem.Spec PyProof.Rows
section
variable{M:ady}{A:WK}{E:Ld->V7->Prop}{Y:Env}
variable{nm q:Str}{C N:V5}{bs Z:bg Ld}{hdct:Bool}{sn:bg Str}{sub:bg Ld}{ab:Bool}{col:b3 Bool}{dd:b3 V5}{k0 k1 k2 k3 k5:b3 Ld}{newId:String}
def iU(i:Z.contains (.type "BaseException")=P)(o:A.handled=R)
  (h:wpAny M A x (λv c=>∃e k,v=.ref e/\c.heap.get? C=cL (excClassObj nm q C N bs Z hdct sn sub ab col dd k0 k1 k2 k3 k5 newId)/\c.heap.get? e=cL k/\k.cls=.ref C/\(∃fs,k.data=.fields fs/\fs[1]?=cL Ld.none)/\E (.ref e) c) E s):
  wpAny M A (raiseStmt Y (cL x) R) Q E s:=by
 let f:(Ld.ref C::Z).contains (.type "BaseException")=P:=by rw[aaF,i,aaN]
 ext raiseStmt;show CL (wpAny_mono h (λv c a=>?_) λ_ _ x=>x);let(e,k,rfl,m,p,l,(fs,j,b),r):=a;let(y,w,n):=k;dsimp only at l j;subst l j;let(z,g,d,t,u):=c
 repeat (first|specialize X9 p ?_|specialize X9 m ?_|(specialize Zn m ?_;rw[f])|wp_step)
 rw[b]
 repeat wp_step
 show aeY o r
end
section
variable{J:Ws}{w:WO}{A:WK}{E:Ld->V7->Prop}{h:Heap}{g:Array aaa}{d:adx}{t:Nat}{os:acs}
variable{nm q:Str}{C N:V5}{bs S Z:bg Ld}{hdct:Bool}{sn:bg Str}{sub:bg Ld}{ab:Bool}{col:b3 Bool}{dd:b3 V5}{k0 k1 k2 k3 k5:b3 Ld}{B P L Y R X:String}{U:bg Ld}
def pz(Fn:Y3 P L X U)(j:Z.contains (.type P)=V0)(F:Y3 B Y R Z)(T:af8 h Z S)
  (i:h.get? C=M (excClassObj nm q C N bs S hdct sn sub ab col dd k0 k1 k2 k3 k5 L)) (s:h.Ns N mN) (D:mN "__init__"=M (.ref fI)) (p:h.get? fI=M oI) (n:oI.cls=.type "function")
  (z:∀k e,Heap.MadeExcOf h k e (.ref C) rest->wpAny (model J w) A (call (.ref fI) (.ref e::rest)) (λr c=>r=.none/\Q (.done (.ret (.ref e))) c) E #[k,g,d,t,os]) (hrest:rest.length<=We):
  wpAny (model J w) A (Xe.«type.__call__» #[.ref C::rest,[]]) Q E #[h,g,d,t,os]:=by
 repeat (first|specialize X9 i ?_|specialize wpAny_madeBy_exc i ?_|wp_step)
 show codeAny_call_builtin_code (acD.quiet_builtin _ Fn.quiet) (wpAny_check_new_subU Fn j T i ?_);show codeAny_exc_new_subU Fn j F T i ?_ hrest
 let a:=b4 {cls:=.ref C,data:=.fields #v[.ref h.objs.size,.none,.none,.none,.bool I,.none]}
  (b4 {cls:=.type "tuple",data:=.seq rest.toArray} i)
 let v:=b4 {cls:=.ref C,data:=.fields #v[.ref h.objs.size,.none,.none,.none,.bool I,.none]}
  (b4 {cls:=.type "tuple",data:=.seq rest.toArray} p)
 let f:((h.push {cls:=.type "tuple",data:=.seq rest.toArray}).push {cls:=.ref C,data:=.fields #v[.ref h.objs.size,.none,.none,.none,.bool I,.none]}).Ns N mN:=
  let#[o,es,ep,e,r]:=s;#[o,es,ep,b4 _ (b4 _ e),r]
 let l:((h.push {cls:=.type "tuple",data:=.seq rest.toArray}).push
   {cls:=.ref C,data:=.fields #v[.ref h.objs.size,.none,.none,.none,.bool I,.none]}).get? (h.objs.size+1)=M
   {cls:=.ref C,data:=.fields #v[.ref h.objs.size,.none,.none,.none,.bool I,.none]}:=by heap_get
 let u:(Ld.ref C::S).contains (.ref C)=V0:=by simp
 let m:=T.keeps (h':=(h.push {cls:=.type "tuple",data:=.seq rest.toArray}).push {cls:=.ref C,data:=.fields #v[.ref h.objs.size,.none,.none,.none,.bool I,.none]})
  λb o e=>b4 _ (b4 _ e)
 ext isInstance
 repeat (first|specialize X9 l ?_|(specialize Zn a ?_;rw[u])|wp_step)
 show wpAny_typeLookup_tail a f m F.mroIs F.init.lookup ?_;rw[D];show XH (CL ?_);ext bindSpecial;show CL (adN #[_,v,n] ?_);rw[ax ()];show Wb (CL (wpAny_mono (z _ (h.objs.size+1) #[λb o G=>b4 _ (b4 _ G),dk (abe _),h.objs.size,l,dk (Wa _),?_]) (λr c y=>?_) λ_ _ x=>x))
 .show b4 _ (Heap.get?_push_at W W)
 .let(rfl,H):=y
  wp_walk
  show H
def zB(Fn:Y3 P L X U)(i:Z.contains (.type P)=V0)(F:Y3 B Y R Z)(T:af8 h Z S)
  (a:h.get? C=M (excClassObj nm q C N bs S hdct sn sub ab col dd k0 k1 k2 k3 k5 L)) (p:h.Ns N mN) (s:mN "__init__"=M (.ref fI)) (f:h.get? fI=M o) (b:o.cls=.type "function")
  (j:∀c e,Heap.MadeExcOf h c e (.ref C) rest->wpAny (model J w) (A.under (.builtin "type.__call__" #[.ref C::rest,[]])) (call (.ref fI) (.ref e::rest)) (λr k=>r=.none/\Q (.ref e) k) E #[c,g,d,t,os]) (hrest:rest.length<=We):
  wpAny (model J w) A (call (.ref C) rest) Q E #[h,g,d,t,os]:=by
 let n:=tc_lookup;let m:=tc_bind (.ref C);let l:(#[h,g,d,t,os]:V7).TypeIs (.ref C) "type":=#[_,a,W];show aai (codeAny_of_tree ?_)
 repeat (any_goals (first|assumption|specialize X9 a ?_|wp_step))
 show#[W,?_];show codeAny_call_builtin_at (acD.quiet_builtin _ (by left)) entry_typeCall (wpAny_check_type_call_sub a (pz (hrest:=hrest) Fn i F T a p s f b λc e hm=>?_));show j c e hm
end
section
variable{prog:Ws}{w:WO}{A:WK}{E:Ld->V7->Prop}{s:V7}{env:Env}
variable{nm q:Str}{C N:V5}{bs Y Z:bg Ld}{hdct:Bool}{sn:bg Str}{sub:bg Ld}{ab:Bool}{col:b3 Bool}{dd:b3 V5}{k0 k1 k2 k3 k5:b3 Ld}{B Bn newId X R U:String}{S:bg Ld}
def xL(Fn:Y3 Bn newId U S)(u:Z.contains (.type Bn)=V0)(F:Y3 B X R Z)
  (m:Y.contains (.type "BaseException")=V0) (p:A.handled=VY) (y:(backTo Yy (Wn args env)).any (·.1)=V4) (hi:mN "__init__"=cL (.ref fI)) (t:oI.cls=.type "function")
  (h:wpAny (model prog w) A (eval (.Name x np) env) (λf k=>f=.ref C/\wpAny (model prog w) A (evalArgs (.ref C) V0 (backTo Yy (Wn args env)) [])
   (λa c=>a.kw=[]/\a.pos.length<=We/\c.heap.get? C=cL (excClassObj nm q C N bs Y hdct sn sub ab col dd k0 k1 k2 k3 k5 newId)/\c.heap.Ns N mN/\c.heap.get? fI=cL oI/\af8 c.heap Z Y/\
    ∀h' e,Heap.MadeExcOf c.heap h' e (.ref C) a.pos->wpAny (model prog w) (A.under (.builtin "type.__call__" #[.ref C::a.pos,[]])) (call (.ref fI) (.ref e::a.pos)) (λr V=>r=.none/\∃D,V.heap.get? C=cL (excClassObj nm q C N bs Y hdct sn sub ab col dd k0 k1 k2 k3 k5 newId)/\V.heap.get? e=cL D/\D.cls=.ref C/\(∃fs,D.data=.fields fs/\fs[1]?=cL Ld.none)/\E (.ref e) V) E {c with heap:=h'}) E k) E s):
  wpAny (model prog w) A (exec (.Raise (cL (.Call (.Name x np) args [] Yy)) VY pos) env) Q E s:=by
 rw[arm_exec_Raise]
 first
  |show CL (Yd (iU m p (CL (wpAny_mono (abk (wpAny_mono h (λf k i=>?_) λ_ _ x=>x)) (λv l b=>CL (Yd (Wb b))) λ_ _ x=>x))))
  |(simp only[evalOpt,Option.map];show CL (Yd (iU (C:=C) (nm:=nm) (q:=q) (N:=N) (bs:=bs) (hdct:=hdct) (sn:=sn) (sub:=sub) (ab:=ab) (col:=col) (dd:=dd) (k0:=k0) (k1:=k1) (k2:=k2) (k3:=k3) (k5:=k5) (newId:=newId) m p (CL (wpAny_mono (abk (wpAny_mono h (λf k i=>?_) λ_ _ x=>x)) (λv l b=>CL (Yd (Wb b))) λ_ _ x=>x)))))
  |(show CL (Yd (iU m p ?_));show CL (wpAny_mono (abk (wpAny_mono h (λf k i=>?_) λ_ _ x=>x)) (λv l b=>CL (Yd (Wb b))) λ_ _ x=>x))
 let(rfl,i):=i;ext callWith;show CL (XH (wpAny_mono i (λa c j=>CL (Yd ?_)) λ_ _ x=>x));let(G,P):=a;let(o,n,z,hn,I,T,j):=j;obtain rfl:=o;let(hp,g,d,tk,os):=c;simp only[y];show CL (wpAny_keeperOf_exc z ?_);show CL (zB (hrest:=n) Fn u F T z hn hi I t λh' e hm=>wpAny_mono (j h' e hm) (λr V #[H,D,O,Mz0,L,K,J]=>#[H,CL (XH (wpAny_point (Wb ?_)))]) λ_ _ x=>x);show#[e,D,W,O,Mz0,L,K,J]
end
end L9
namespace L9
open PySem PySem.W PyProof.Rows Builtin Builtin.ObjectAttr
abbrev IL:G B:=[.type "ValueError",.type "Exception",.type "BaseException",.type "object"]
section
variable{prog:Ws}{w:WO}{A:WK}{K:Frag}{B C x:V5}{s:V7}{R:abE->V7->Prop}{Z:ClassData}{name:Str}{Y:Tok}{v:Ld}{fs:Array Ld}
def Kr(X:K.In s.heap)(z:clsIn K C=cL Z)(hm:Z.mro=.ref C:: .ref B::IL)(hd:Z.hasDict=V0)(D:findIn K (.ref C) name=cL VY)(i:s.heap.get? x=cL #[.ref C,VY,.fields fs,#v[]])
  (H:∀c k,c.get? x=cL #[.ref C,cL s.heap.objs.size,.fields fs,#v[]]->c.Ns1 s.heap.objs.size (λy=>if y=name then cL v else VY)->(∀b o,b≠x->s.heap.get? b=cL o->c.get? b=cL o)->R (.ok (.ret .none)) {s with heap:=c,toks:=k}):
  codeAny (model prog w) A (.call (.builtin "object.__setattr__") #[[.ref x,.str name Y,v],[]]) R s:=by
 let I:InstAt s.heap x #[.ref C,VY,.fields fs,#v[]] C VY:=#[i,W,W,True.intro];let m:=PySem.F.store_object;let sub:Looks (model prog w) s.heap (isInstance (.ref x) (.type "object")) V0:=I.type.andThen (looks_mroIn X (by ext mroIn;rw[z,Option.bind_some,hm,aE (by simp)];simp));show Zd m.slot.plain m.entry (@check_slot (model prog w) _ _ s "object.__setattr__" "object" "__setattr__" (.ref x) [.str name Y,v] [] _ m.kind m.split sub (m.args (.ref x) (.str name Y) v) ?_);let l:Looks (model prog w) s.heap (mroOf (.ref C)) Z.mro:=(looks_clsIn X z).andThen .now;rw[osa_eq,refuse_eq];show CL (CL (I.type.here (CL (l.here ?_))));rw[hm,aiX,aiX,PySem.F.store_ValueError.passes];show Wb (CL (I.type.here (CL ((looks_findIn X D).here (CL (Wb ?_))))));ext storeInOwnDict;show CL (Wb (CL ?_));unfold ownDictForStores instanceDict;show CL (aiQ i (CL ((looks_clsIn X z).here ?_)));rw[hd,aE ()];show wpAny _ _ (if(!V0|| !typeHasDict (.ref C))=V0 then pure VY else(do
        let d<-alloc {cls:=Ld.type "dict",data:=Data.dict #v[]}
        update x λo=>{cls:=o.cls,dict:=cL d,data:=o.data,slots:=o.slots}
        dictMade (.ref C) x d)) _ _ _
 rw[aE (by simp[typeHasDict])];let(h,g,d,t,S):=s;dsimp only at X i H I sub l⊢;let f:(h.push {cls:=.type "dict",data:=.dict #v[]}).get? x=cL #[.ref C,VY,.fields fs,#v[]]:=b4 _ i;let a:=Wz (cj i);show CL (wpAny_alloc' ?_);show CL (wpAny_update' f ?_);show Wb ?_
 let q:((h.push {cls:=.type "dict",data:=.dict #v[]}).update x λo=>{cls:=o.cls,dict:=cL h.objs.size,data:=o.data,slots:=o.slots}).get? h.objs.size
   =cL {cls:=.type "dict",data:=.dict #v[]}:=
  (Heap.get?_update_ne _ _ _ _ a.symm).trans (Heap.get?_push_at W W)
 let p:((h.push {cls:=.type "dict",data:=.dict #v[]}).update x λo=>{cls:=o.cls,dict:=cL h.objs.size,data:=o.data,slots:=o.slots}).Ns h.objs.size (λ_=>VY):=
  #[_,#v[],_,q,W,λe M=>a7 M (by simp),λ_=>W]
 unfold storeInDict newKeyGuard;show CL (Wb (CL (wpAny_nsSet1 (Heap.Ns1.of_empty p) λc j G=>?_)));let(U,O,P,n,r,u):=j.count (Within.cons name v Within.nil);show CL (agD n (by rw[r];show agE (WU u (by rw[Wi,Yi,X8];ext))) ?_);show Wb (H c _ ?_ ?_ λb T E J=>?_)
 .show(G.2 x a).trans (cv _ f W)
 .let(L,es,Q,e1,e2,e3,N,e4):=j;show#[L,es,Q,e1,e2,e3,N,λy=>by rw[e4 y]]
 .show(G.2 b (Wz (cj J))).trans ((Heap.get?_update_ne _ _ _ _ E).trans (b4 _ J))
theorem KJ(X:K.In s.heap)(g:clsIn K C=M Z)(hm:Z.mro=.ref C:: .ref B::IL)(hd:Z.hasDict=P)(a:findIn K (.ref C) "__setattr__"=M (M (.builtin "object.__setattr__")))(h:findIn K (.ref C) name=M VY)(e:s.heap.get? x=M #[.ref C,VY,.fields fs,#v[]])
  (f:∀c d,c.get? x=M #[.ref C,M s.heap.objs.size,.fields fs,#v[]]->c.Ns1 s.heap.objs.size (λy=>if y=name then M v else VY)->(∀b o,b≠x->s.heap.get? b=M o->c.get? b=M o)->Q ⟨⟩ {s with heap:=c,toks:=d}):
  wpAny (model prog w) A (setAttr (.ref x) name v) Q E s:=
 set_plain X (#[e,W,W,True.intro]:InstAt s.heap x #[.ref C,VY,.fields fs,#v[]] C VY) a (Kr X g hm hd h e f)
end
section
variable{L:Ws}{w:WO}{A:WK}{E:Ld->V7->Prop}{h:Heap}{g:Array aaa}{d:adx}{t:Nat}{y:acs}
variable{u q:Str}{C N:V5}{bs v Z:bg Ld}{J:Bool}{r:bg Str}{sub:bg Ld}{ab:Bool}{col:b3 Bool}{dd:b3 V5}{k0 k1 k2 k3 k5:b3 Ld}{B S X Y:String}
def BV(F:Y3 B X Y Z)(T:af8 h Z v)
  (p:h.get? C=M (excClassObj u q C N bs v J r sub ab col dd k0 k1 k2 k3 k5 S)) (j:h.get? e=M #[.ref C,R,.fields fs,#v[]]) (l:fs[0]?=M (.ref t0))
  (m:∀s k,s.get? e=M #[.ref C,R,.fields k,#v[]]->k[0]?=M (.ref h.objs.size)->(∀i,i≠0->k[i]?=fs[i]?)->(∀b o,b≠e->h.get? b=M o->s.get? b=M o)->Q .none #[s,g,d,t,y]) (c:rest.length<=We):
  wpAny (model L w) A (call (.builtin Y) (.ref e::rest)) Q E #[h,g,d,t,y]:=by
 show aai (Zd F.init.plain F.initEntry (wpAny_check_init_subU F T p j W ?_));unfold Xe.«BaseException.__init__»;dsimp only;rw[aE (by simp)];unfold newTuple Xe.BaseException.bexcPut;let f:=(WJ.mp l).1;let a:(h.push {cls:=.type "tuple",data:=.seq rest.toArray}).get? e=M #[.ref C,R,.fields fs,#v[]]:=b4 _ j;show CL (XT (CL (CL (WQ a W l (CL (Xq a W f ?_))))) (by show rest.toArray.size<=We;rw[Wt];show c));show YA (Wb (m _ (fs.setIfInBounds 0 (.ref h.objs.size)) ?_ (by simp[f]) (λi hi=>by rw[YU (d0 hi)]) λb o n z=>?_))
 .show cv (Obj.mapFields (·.setIfInBounds 0 (.ref h.objs.size))) a W
 .show(cn _ _ (d0 n)).trans (b4 _ z)
end
end L9
namespace L9
open PySem PySem.Spec PyProof.Rows L2
def Rx(v:V):Prop:=v=.Yf\/∃i:Int,v=.int i/\i.natAbs.log2<1920
def IS{i:Int}(h:i.natAbs.log2<1920):(Str.ofString (toString i)).length<=5000:=by let e:=int_text_length_le () h;rw[PySem.ofString_length];ext
def Qj(I:Inv X pins σ H s)(r:RelV v u)(f:Rx v)
  (h:∀(y:Str) (t:Tok) (a:V7),y.length<=5000->Inv X pins σ H a->Q (.str y t) a):wpAny (model X.prog X.w) A (formatField u Str.empty) Q E s:=by
 rcases f with rfl|⟨i,rfl,b⟩
 .obtain rfl:=r;show wpAny_formatField_none (h _ _ _ () (I.tok _))
 .let(t,rfl):=r;show formatField_int_small b (h _ _ _ (IS b) (I.tok _))
def PJ(X:Cx)(es:G Ww)(n:Nat)(t:L2.St->Hp->(Hp->Prop)->Prop):Prop:=
 ∀(a:G (U×Obj)) (s:V7) (e:L2.St) (H:Hp) (b:Str) (Q:Hp->Prop),Inv X a e H s->b.length+n<=1000000->t e H Q->
  wpAny (model X.prog X.w) X.A (joinParts b (evalEach es X.env)) (λv h=>∃(y:Str) (g:Tok) (f:Hp),v=.str y g/\Inv X a e f h/\Q f) X.xe s
section
variable{X:Cx}{e:Ww}{es:bg Ww}{n:Nat}{T:TE}{t:L2.St->Hp->(Hp->Prop)->Prop}{Y:Pos}
def Qn:PJ X [] 0 (λ_ H Q=>Q H):=by intro a s f H b Q I g h;show joinParts_nil #[_,_,H,W,I.tok _,h] (by rw[X8];ext)
def Ra(i:x.length<=5000)(g:PJ X es n t):PJ X (.Constant (.str x) k Y::es) (n+5000) t:=by intro a s f H b Q I j h;show joinParts_consE (joinParts_cons (Calls.Constant_str ?_));let e:=ak2 b x;show#[by rw[X8];ext,g a _ f H (b++x) Q (I.tok _) () h]
def Pt(i:PE X e T)(g:PJ X es n t):PJ X (.FormattedValue e (-1) R Y::es) (n+5000) (λσ H Q=>T σ H λv H1=>Rx v/\t σ H1 Q):=by intro a s σ H b Q I z h;show joinParts_consE (joinParts_cons (FormattedValue_plain (bT (i a s σ H _ I h) λu o a=>?_)));let(v,H1,j,r,f,q):=a;show Qj j r f λy m p w l=>?_;let e:=ak2 b y;show#[by rw[X8];ext,g a _ σ H1 (b++y) Q l () q]
def Ko(h:PJ X (e1::e2::es) n t)(c:n<=900000):PE X (.JoinedStr (e1::e2::es) Y) (λσ H Q=>t σ H λH1=>∀y:Str,Q (.str y) H1):=by intro a s σ H Q I b;show JoinedStr_many (bT (h a s σ H Str.empty _ I (by show 0+n<=1000000;ext) b) λv j #[y,i,H1,f,g,q]=>?_);subst f;show#[.str y,H1,g,#[_,W],q y]
end
def IG(C e:U):Heap->Prop:=λh=>∃fs t0,h.get? e=M #[.ref C,R,.fields fs,#v[]]/\fs[0]?=M (.ref t0)/\fs[1]?=M .none
def Rn(C e p:U):Heap->Prop:=λh=>∃fs a0,h.get? e=M #[.ref C,M p,.fields fs,#v[]]/\fs[0]?=M a0/\fs[1]?=M .none
structure XC(K:lD)(C B fI:U):Prop where
 obj:∃nm q N bs sn sub ab col dd k0 k1 k2 k3 k5,K.lookup C=M (excClassObj nm q C N bs (.ref B::IL) P sn sub ab col dd k0 k1 k2 k3 k5 "ValueError.__new__")/\aa4 K N=P/\WC K N "__init__"=M (M (.ref fI))
 base:YX K B IL "ValueError.__new__"=P
 sa:W0 K (.ref C) "__setattr__"=M (M (.builtin "object.__setattr__"))
def yk{K:lD}(q:YX K g IL n=P):Z1 K IL (.ref g::IL)=P:=by
 unfold YX at q;split at q
 .rename_i dd f e b
  split at q
  .simp only[VZ,beq_iff_eq,Yn]at q;let(((((_,_),_),_),Xr),a):=q;ext Z1;dsimp only;rw[b];dsimp only;rw[Xr,a,show Z1 K IL IL=P from by ext Z1;rw[eh,YM],eh,Yj,Yj,aaN]
  .ext q
 .ext q
section
variable{X:Cx}{B C fI:V5}{pos U Y:Pos}{Z:Ww}{as:bg Ww}{t:TA}{b:Str}
def FQ(h:H a=M o):a8 H a o=H:=by
 funext c;by_cases z:c=a
 .rw[z,aI,h]
 .rw[aw z]
def OP(C:V5)(t:TA):TE:=λf H Q=>t f H λg a=>∃e y,g=[.ref e,.str y]/\a e=M (.ext (IG C e))/\Q .Yf a
def Gz{pl:Sem Bool}(V:Gl X b)(hm:X.mg b=cL (.ref B))(D:aaS X.K B (.type "type")=V0)(hf:aaT X.K (.ref B) (.type "type") "__init__"=cL (.val (.builtin "ValueError.__init__")))
  (k:YG X.K (.ref B) "__getattribute__"=cL (cL (.builtin "type.__getattribute__"))) (A:XC X.K C B fI) (ha:PA X (Z::as) t)
  (cV:Wn (Z::as) X.env=(V4,eval Z X.env)::Wn as X.env:=by rfl) (l:(backTo pos (Wn as X.env)).any (·.1)=V4:=by rfl) (m:(b==("__debug__":Str))=V4:=by decide)
  (c:eval (.Call (.Attribute (.Name b U) "__init__" Y) (Z::as) [] pos) X.env=(do
   let ov<-eval (.Name b U) X.env
   standAt Y.atName
   let(f,first)<-holding [ov] (getMethod ov "__init__" pl)
   callWith pos f first (backTo pos (Wn (Z::as) X.env)) (backToKw pos (keywordEach [] X.env))):=by rfl):
  PE X (.Call (.Attribute (.Name b U) "__init__" Y) (Z::as) [] pos) (OP C t):=by
 intro a s G H Q I h;show ZO (pl:=pl) (kO I V hm ?_ m) c;show PySem.W.method_cls I.kIn k (PySem.W.cls_value I.kIn D hf () ?_);let E:=ha pos a {s with toks:=s.toks+1} G H _ (I.tok _) h;rw[cV]at E⊢;show Calls.callWith_builtin (by show(V4||(backTo pos (Wn as X.env)).any (·.1))=V4;rw[l]<;>rfl) (Calls.evalArgs_plain (bT E λus v #[vs,F,i,r,e,y,ev,n,q]=>?_));subst ev;let(O,u2,rfl,S,R):=Aa r;obtain rfl:O=.ref e:=S;let(tk,rfl):=R;let((fs,t0,g1,g2,g3),_,gk):=(show ObjOk X.prog X.w F v.heap e (.ext (IG C e))from i.Xr e _ n);let(nm,q',N,bs,sn,sub,ab,col,dd,k0,k1,k2,k3,k5,lk,Xr,hin):=A.obj;let T:=acG i.kIn (yk A.base);let(h2,g,d,j,os):=v;show BV Yo T (i.kIn _ _ lk) g1 g2 (λh' p e1 e2 e3 e4=>?_) (by show 1<=We;decide);show#[.Yf,F,?_,W,q];let w:=i.write (x:=e) (e:=e) (o:=.ext (IG C e)) (h':=h') (t':=j) (by rw[n];show True.intro) (.inl W) (λb u hb z=>e4 b u hb z) #[_,e1] #[#[p,_,e1,e2,by rw[e3 1 ()];show g3],#[_,e1],λh1 h2 #[f1,Pz0,Mz0,L,J] hk=>#[f1,Pz0,hk _ Mz0,L,J]];rw[FQ n]at w;show w
def Sy(C:V5)(f:Str)(c h:TE):TS:=λD a H=>h a H λv i=>c a i λx g=>∃e,x=.ref e/\g e=M (.ext (IG C e))/\∀p,g p=R->p≠e->D.nx a (a8 (a8 g e (.ext (Rn C e p))) p (.xd [(f,v)]))
def Mh(O:XC X.K C B fI)(V:W0 X.K (.ref C) f=cL VY)(ha:PE X o ta)(c:PE X value tv)(d:Yu value (cL (.Attribute o f pos')) pos.line X.env=pure V4):PS X (.Assign [.Attribute o f pos'] value pos) (Sy C f ta tv):=by
 intro l s F H D I h;show abt (bT (c l s F H _ I h) λu s1 #[v,H1,I1,rv,q]=>bT (ha l s1 F H1 _ I1 q) λov p a=>?_) d;let(x,Q,A,rx,e,ex,j,q2):=a;subst ex;obtain rfl:=rx;let((fs,t0,P,g2,g3),_,gk):=(show ObjOk X.prog X.w Q p.heap e (.ext (IG C e))from A.Xr e _ j);let(nm,q',N,bs,sn,sub,ab,col,dd,k0,k1,k2,k3,k5,lk,Xr,hin):=O.obj;obtain⟨E,hc,J,L⟩:∃E,aei X.K C=cL E/\E.mro=.ref C:: .ref B::IL/\E.hasDict=V0:=by ext aei;rw[lk];show#[_,W,W,W]
 show KJ A.kIn hc J L O.sa V P λh' tk' e1 e2 e3=>?_;let pe:=Xn (cj P);let r:=A.Xr.fresh (Wa _);show#[F,_,?_,q2 p.heap.objs.size r pe];let m:∀b o,p.heap.get? b=cL o->b≠p.heap.objs.size:=λb o z=>Wz (cj z);show A.un #[λb o z n _ _=>e3 b o (λy=>by rw[y,j]at n;ext n) z,λb o z n _ _=>#[o.slots,e3 b o (λy=>by rw[y,j]at n;ext n) z],λb o z n _=>?_,λb o z _=>?_,λb xs z=>?_,λb o u z=>?_,λb ps z=>#[#v[],?_]] ?_
 .rw[aw (m b o z),aw (λy=>by rw[y,j]at n;ext n)];show n
 .by_cases y:b=e
  .subst y;show#[_,e1]
  .show#[o,e3 b o y z]
 .rw[aw (λy=>by rw[y,r]at z;ext z),aw (λy=>by rw[y,j]at z;ext z)];show z
 .rw[aw (λy=>by rw[y,r]at z;ext z),aw (λy=>by rw[y,j]at z;ext z)];show z
 .rw[aw (λy=>by rw[y,r]at z;ext z),aw (λy=>by rw[y,j]at z;ext z),z];simp
 .intro a o z
  by_cases M:a=p.heap.objs.size
  .subst M
   rw[aI]at z;ext z;show#[_,e2,λg=>?_];show Zu (match g==f with|true=>cL v|false=>X4 g []) (if g=f then cL u else VY);cases i:g==f with
   |true=>rw[ax (beq_iff_eq.mp i)];show rv
   |false=>rw[aE (λw=>by rw[beq_iff_eq.mpr w]at i;ext i)];show True.intro
  .rw[aw M]at z
   by_cases G:a=e
   .subst G;rw[aI]at z;ext z;show#[#[fs,_,e1,g2,g3],#[_,e1],λh1 h2 #[f1,t1,T,S,R1] hk=>#[f1,t1,hk _ T,S,R1]]
   .rw[aw G]at z
    let own:∀b,Q b=cL (.own a)->b≠e/\b≠p.heap.objs.size:=λb y=>#[(λk=>by rw[k,j]at y;ext y),(λk=>by rw[k,r]at y;ext y)];show(A.Xr a o z).Zw (λb w i y=>e3 b w (λk=>?_) y) (λb y=>by rw[aw (own b y).2,aw (own b y).1];show y) λb xs y=>by rw[aw (λk=>by rw[k,r]at y;ext y),aw (λk=>by rw[k,j]at y;ext y)];show y
    rcases i with i|i
    .show G (i.symm.trans k)
    .show(own b i).1 k
end
end L9
namespace L9
open PySem PySem.Spec PyProof.Rows L2 L4
def RA(H:Hp)(e:U):Hp:=λa=>if a=e then R else H a
theorem rF:RA H e e=R:=ax W
theorem jp(h:a≠e):RA H e a=H a:=aE h
def yG{K:lD}(X:K.In h)(G:h.Ns N C)(e:WC K N n=M (M v)):C n=M v:=by
 let(o,es,p,f,j,_,g):=G;unfold WC at e;split at e
 .rename_i l m b a
  let:=(X _ _ a).symm.trans f;ext this;ext j;split at e
  .rename_i q i;ext e;rw[<-g];unfold nsFind findBy;rw[<-ade,i];rfl
  .split at e<;>ext e
 .ext e
def Qz{K:lD}(i:Yc K (.ref f)=P)(l:K.lookup f=M o):o.cls=.type "function":=by unfold Yc adK at i;dsimp only at i;rw[l]at i;show Wm (beq_iff_eq.mp i)
section
variable{X:Cx}{Z:bg (V5×Obj)}{Y:L2.St}{H:Hp}{s:V7}{T:Heap}{e:V5}{o:HO}
def KU(I:L2.Inv X Z Y H s)(k:∀b u,s.heap.get? b=M u->T.get? b=M u)(n:s.heap.get? e=R)(new:ObjOk X.prog X.w (a8 H e o) T e o):L2.Inv X Z Y (a8 H e o) {s with heap:=T,toks:=t'}:=by
 let f:=xy I.Xr n;let ne:∀b u,s.heap.get? b=M u->b≠e:=λb u z y=>by rw[y,n]at z;ext z
 show I.un #[λb u z _ _ _=>k b u z,λb u z _ _ _=>#[u.slots,k b u z],λb u z q _=>by rw[aw (ne b u z)];show q,λb u z _=>#[u,k b u z],λb xs z=>?_,λb u v z=>?_,λb g z=>#[#v[],?_]] ?_
 .rw[aw (λy=>by rw[y,f]at z;ext z)];show z
 .rw[aw (λy=>by rw[y,f]at z;ext z)];show z
 .rw[aw (λy=>by rw[y,f]at z;ext z),z];simp
 .intro a u z
  by_cases y:a=e
  .subst y;rw[aI]at z;ext z;show new
  .rw[aw y]at z;show(I.Xr a u z).Zw (λb w _ q=>k b w q) (λb q=>by rw[aw (λw=>by rw[w,f]at q;ext q)];show q) λb xs q=>by rw[aw (λw=>by rw[w,f]at q;ext q)];show q
def Ks(I:L2.Inv X Z Y H s)(f:H e=M (.ext C)):L2.Inv X Z Y (RA H e) s:=by
 let:=I.un (t':=s.toks) (H':=RA H e) #[λb u z _ _ _=>z,λb u z _ _ _=>#[u.slots,z],λb u z q _=>?_,λb u z _=>#[u,z],λb xs z=>?_,λb u v z=>?_,λb g z=>#[#v[],?_]] ?_
 .show this
 .by_cases y:b=e
  .rw[y];show rF
  .rw[jp y];show q
 .rw[jp (λy=>by rw[y,f]at z;ext z)];show z
 .rw[jp (λy=>by rw[y,f]at z;ext z)];show z
 .rw[jp (λy=>by rw[y,f]at z;ext z),z];simp
 .intro a u z
  let y:a≠e:=λy=>by rw[y,rF]at z;ext z
  rw[jp y]at z;show(I.Xr a u z).Zw (λb w _ q=>q) (λb q=>by rw[jp (λw=>by rw[w,f]at q;ext q)];show q) λb xs q=>by rw[jp (λw=>by rw[w,f]at q;ext q)];show q
end
def BH(C:U)(sp:Sp)(E:XK)(c:TA):TS:=λ_ f H=>c f H λg b=>g.length<=We/\∀e,b e=R->sp (.ref e::(g++[])) (a8 b e (.ext (IG C e))) (λv a=>v=.Yf/\∃p,a e=M (.ext (Rn C e p))/\E (.ref C) (M p) (RA a e)) E0
def Di{K:lD}
  (c:XC K C Bz0 fI) (X:K.lookup fI=cL oI) (d:Yc K (.ref fI)=V0) (FI:FnOk Pz0 w K mg base lu k fI fdI ps sp) (bI:Binds K fdI ps [])
  (hr:X0 (k+1) (eF (j7 Pz0 w) Pz0 w K mg base N qual scope f cd A outer s0 H0 E).A)
  (hg:Gl (eF (j7 Pz0 w) Pz0 w K mg base N qual scope f cd A outer s0 H0 E) x) (hm:mg x=cL (.ref C)) (ha:PA (eF (j7 Pz0 w) Pz0 w K mg base N qual scope f cd A outer s0 H0 E) (e0::es) ta)
  (L:(x==("__debug__":Str))=V4:=by decide)
  (Z:Wn (e0::es) (eF (j7 Pz0 w) Pz0 w K mg base N qual scope f cd A outer s0 H0 E).env=(V4,eval e0 (eF (j7 Pz0 w) Pz0 w K mg base N qual scope f cd A outer s0 H0 E).env)::Wn es (eF (j7 Pz0 w) Pz0 w K mg base N qual scope f cd A outer s0 H0 E).env:=by rfl)
  (G:(backTo Yy (Wn es (eF (j7 Pz0 w) Pz0 w K mg base N qual scope f cd A outer s0 H0 E).env)).any (·.1)=V4:=by rfl):
  PS (eF (j7 Pz0 w) Pz0 w K mg base N qual scope f cd A outer s0 H0 E) (.Raise (cL (.Call (.Name x np) (e0::es) [] Yy)) VY pos) (BH C sp E ta):=by
 intro l s σ H D I h;let(nm,qn,Nn,bs,sn,sub,ab,col,dd,k0,k1,k2,k3,k5,U,Xr,J):=c.obj;let a:=I.ok.mod.kin;let oC:=a _ _ U;let S:=Heap.Ns.of_isNs (PySem.W.isNs_of_in a Xr);let ni:=yG a S J;let oF:=a _ _ X;let T:=acG a (yk c.base);show xL (nm:=nm) (q:=qn) (N:=Nn) (bs:=bs) (hdct:=V0) (sn:=sn) (sub:=sub) (ab:=ab) (col:=col) (dd:=dd) (k0:=k0) (k1:=k1) (k2:=k2) (k3:=k3) (k5:=k5) Yo (by left) Yo (T.hasType Yo.hasBase) (I.ok.hd W)
  (by rw[Z];show(Zz _).trans G) ni (Qz d X) (kO I hg hm #[W,?_] L)
 let go:=ha Yy l s σ H _ I h;rw[Z]at go⊢;show Calls.evalArgs_plain (bT go λg j a=>?_);let(vs,H1,i,r,hl,q):=a;show#[W,by rw[<-r.length];show hl,i.bk _ _ oC,S.keeps i.bk,i.bk _ _ oF,T.keeps i.bk,λh' e m=>?_];let(t,y,y2,y3):=m.there;let hn:=xy i.Xr m.new;let Y:=q e hn;let O:=KU (t':=j.toks) (o:=.ext (IG C e)) i m.keeps m.new #[#[_,t,y,W,W],#[_,y],λh1 h2 #[f1,t1,z1,z2,z3] hk=>#[f1,t1,hk _ z1,z2,z3]];let R:Vals (V.ref e::(vs++[])) (Ld.ref e::(g++[])):=.cons W (r.append .nil);let n:(Ld.ref e::g++[]).length=ps.length:=by let z:=R.length;rw[FI.len _ _ _ _ Y]at z;show z.symm
 let F:s0.heap.get? e=VY:=by
  cases z:s0.heap.get? e with
  |none=>rfl
  |some o=>let(o',Q):=i.base.there e o z (λy=>nomatch y);rw[m.new]at Q;ext Q
 let bi:=bI {heap:=h',gens:=j.gens,drawn:=j.drawn,toks:=j.toks,os:=j.os} (Ld.ref e::g) O.kIn n;rw[aej]at bi;show aai (aaj (FI.run _ (eF (j7 Pz0 w) Pz0 w K mg base N qual scope f cd A outer s0 H0 E).stack _ _ #[Ld.ref e::g,[]] (Ld.ref e::(g++[])) _ _ E0 (hr.make C g []) (O.afx.make C g []) bi R Y) λr s' b=>?_);cases r with
 |error e=>show b.elim
 |ok fl=>
  cases fl with
  |ret u=>let(v,H',M,rv,ev,p,hE,q3):=O.after b;subst ev;let((fs,a0,g1,g2,g3),_,_):=(show ObjOk _ _ H' s'.heap e (.ext (Rn C e p))from M.Xr e _ hE);show#[rv,_,M.kIn _ _ U,g1,W,#[fs,W,g3],?_];show NG (hd:=VY) (Ks M hE) #[_,_,g1,W,W,W,g2,g3] F (λT z=>nomatch z) rF (λT z=>nomatch z) q3
  |next=>show False.elim b
  |brk=>show False.elim b
  |cont=>show False.elim b
end L9
namespace L9
open PySem PySem.Spec PySem.W PyProof.Rows L2 L3 L4
section
variable{Y:Ws}{w:WO}{A:WK}{E:Ld->V7->Prop}{h:Heap}{g:Array aaa}{d:adx}{t:Nat}{S:acs}{a C:V5}{o:Obj}{K:lD}{Q:b3 Obj}{X:Str}{v:Ld}
  {N L:Str} {J:V5} {y u:bg Ld} {r:Bool} {q:bg Str} {p:bg Ld} {n:Bool} {m:b3 Bool} {l:b3 V5} {j i f e b:b3 Ld} {T:String}
end
def uY(C:U)(f:Str):Sp:=λa H Q _=>∃e v,a=[.ref e,v]/\Rx v/\H e=M (.ext (IG C e))/\∀p,H p=R->p≠e->Q .Yf (a8 (a8 H e (.ext (Rn C e p))) p (.xd [(f,v)]))
def Ts:D->Bool
 |.none=>P
 |.int i=>decide (i.natAbs.log2<1920)
 |_=>I
end L9
namespace L3
open PySem PySem.Spec PyProof.Rows L2
mutual
def UQ:V3->Bool
 |.tuple ds=>Oc ds
 |.int _=>V0
 |.str _=>V0
 |.bool _=>V0
 |.none=>V0
 |_=>V4
def Oc:bg V3->Bool
 |[]=>V0
 |d::r=>UQ d&&Oc r
end
section
variable{K:lD}{E:XK}{B:bG}{Y:Hp}{O Z:bG}{X:L2.St}{H T:Hp}{S:aU}
def Jp(h:ZI K H a xs)(l:H a=M (.lst ys)):ZI K (λ_=>R) a xs:=by
 rcases h with(h|⟨o,h⟩)|h
 .rw[l]at h;ext h
 .rw[l]at h;ext h
 .show .inr h
mutual
theorem K9(f:∀b,O b->¬Z b->∃ys,H b=cL (.lst ys)):∀{v:V} {d:D},DV Z K H v d->UQ d=V0->DV O K H v d
 |_,_,.Yf,_=>.Yf
 |_,_,.bl b,_=>.bl b
 |_,_,.int i,_=>.int i
 |_,_,.str x,_=>.str x
 |_,_,.tup (a:=a) h hs,e=>.tup ⟨h.1,λz=>by
   by_cases y:Z a
   .exact h.2 y
   .obtain⟨ys,q⟩:=f a z y;exact Jp h.1 q⟩ (w9 f hs e)
 |_,_,.lst h hs,e=>by cases e
theorem w9(a:∀b,O b->¬Z b->∃ys,H b=cL (.lst ys)):∀{vs:bg V} {ds:bg D},XU Z K H vs ds->Oc ds=V0->XU O K H vs ds
 |_,_,.nil,_=>.nil
 |_,_,.cons h hs,e=>by have f:=Bool.and_eq_true_iff.mp e;exact .cons (K9 a h f.1) (w9 a hs f.2)
end
end
end L3
namespace PyProof.Rows
open PySem
section
variable{Y:Ws}{w:WO}{A:WK}{E:Ld->V7->Prop}{s:V7}
def rV(b:h.get? a=M (seqObj "list" o.toArray n)):∃e,(sortedHeap h a o out).get? a=M (seqObj "list" out e):=by let f:=get?_update_seq b (λ_=> #v[]);show#[_,get?_update_seq (b4 _ (b4 _ f)) _]
theorem oS(f:b≠a)(e:h.get? b=M o):(sortedHeap h a C out).get? b=M o:=
 (cn _ _ (d0 f)).trans (b4 _ (b4 _ ((cn _ _ (d0 f)).trans e)))
def y6{l:U}{c:G Ld}{ns:G Int}{Q:Ld->V7->Prop}(j:s.heap.IsTuple l c.toArray)(v:IntsAre c ns)(i:c.length<64)
  (h:∀(a d:Heap) (out:Array Ld) (e:Nat) (f:G Int),(∀b o,s.heap.get? b=M o->a.get? b=M o)->d.get? a.objs.size=M (seqObj "list" out e)->(∀b o,a.get? b=M o->d.get? b=M o)->IntsAre out.toList f->f.Perm ns->f.Pairwise (·<=·)->Q (.ref a.objs.size) {s with heap:=d}):
  wpAny (model Y w) A (call (.builtin "sorted") [.ref l]) Q E s:=by
 let(o,p,u,n,t):=j;show Calls.call_function_entry kind_sorted plain_sorted entry_sorted (args_sorted1 _) (CL (m:=checkCount "sorted" 1 1 _) (Wb (CL (wpAny_collect_seq l (.inr W) p u t (λa q=>CL (ak3 ?_)) (by rw[Wt,X8];ext)))));let g:(a.push (seqObj "list" c.toArray 0)).get? a.objs.size=M (seqObj "list" c.toArray 0):=ck _ W;show CL (XH (YE slot_list_sort #[_,g,W] entry_list_sort (list_sort_tree g v i λout f C B y=>#[_,W,Wb #[_,W,?_]]) (args_list_sort _)));let(e,r):=rV (out:=out) g;show h a _ out e f q r (λb F z=>oS (Wz (cj z)) (b4 _ z)) C B y
end
end PyProof.Rows
namespace L9
open PySem PySem.Spec PyProof.Rows L2 L3
section
variable{K:lD}{E:XK}
def uF:Yg X (.builtin "sorted") (λxs H Q=>∃(p:U) (ns:bg Int),xs=[.ref p]/\ZI X.K H p (ns.map V.int)/\ns.length<64/\∀(l:U) (a:bg Int),H l=R->a.Perm ns->a.Pairwise (·<=·)->Q (.ref l) (a8 H l (.lst (a.map V.int)))):=by
 intro i s B H xs C Q I r h;let(p,ns,rfl,t,z,q):=h;let(u,rfl,n):=jE r;ext n;let(J,L,pl,F):=I.tuple t;let v:=L.length;rw[V1]at v;show y6 pl (jz L) () λA G f e a w y g N j o=>?_;let b:=j.length_eq;let m:=I.kept (t':=s.toks) w;show#[.ref A.objs.size,_,m.laid g (Wa _) ?_,W,q _ a (m.Xr.fresh (Wa _)) j o];show#[?_,f.toList,e,jd N,y];rw[V1,b];let:(64:Nat)<=We:=by decide
 ext
theorem uL:Yg X (.builtin "sorted") (λxs H Q=>(∃(p:U) (ns:G Int),xs=[.ref p]/\ZV X.K H p (ns.map V.int)/\ns.length<64/\∀(l:U) (a:G Int),H l=R->a.Perm ns->a.Pairwise (·<=·)->Q (.ref l) (a8 H l (.lst (a.map V.int))))\/
  (∃(p:U) (ns:G Int),xs=[.ref p]/\ZI X.K H p (ns.map V.int)/\ns.length<64/\∀(l:U) (a:G Int),H l=R->a.Perm ns->a.Pairwise (·<=·)->Q (.ref l) (a8 H l (.lst (a.map V.int))))):=L2.Yg.or wV uF
def fP:G D->z RV
 |[.tuple ds]=>(match jR ds with
  |some a=>if a.length<64 then M (.ow ((jX a).map .int))else R
  |none=>R)
 |ds=>uQ ds
def zQ:BZ K (λxs H Q=>(∃(p:U) (ns:G Int),xs=[.ref p]/\ZV K H p (ns.map V.int)/\ns.length<64/\∀(l:U) (b:G Int),H l=R->b.Perm ns->b.Pairwise (·<=·)->Q (.ref l) (a8 H l (.lst (b.map V.int))))\/
  (∃(p:U) (ns:G Int),xs=[.ref p]/\ZI K H p (ns.map V.int)/\ns.length<64/\∀(l:U) (b:G Int),H l=R->b.Perm ns->b.Pairwise (·<=·)->Q (.ref l) (a8 H l (.lst (b.map V.int))))) fP:=by
 intro O H xs ds t Q n g e q;unfold fP at e;split at e
 .split at e
  .rename_i ns i
   split at e
   .rename_i u
    ext e;cases g with
    |cons o m=>ext m;let(a,v,rfl,h,r):=II o;rw[kS r i]at h;show .inr #[a,ns,W,h.1,u,λl b j f cV=>?_];let e2:=kT (f.trans (eD ns).symm) cV (dY ns);subst e2;show q.new (su _) l j
   .ext e
  .ext e
 .show .inl (C6 O H xs ds t Q n g e q)
end
end L9
namespace L9
open PySem PySem.W PyProof.Rows Builtin Builtin.ObjectAttr
open PySem.Spec L2
open L3 L4
def DQ(C:U)(f g:Str):Sp:=λa H Q _=>∃e v u,a=[.ref e,v,u]/\Rx v/\Rx u/\H e=M (.ext (IG C e))/\∀p,H p=R->p≠e->Q .Yf (a8 (a8 H e (.ext (Rn C e p))) p (.xd [(g,u),(f,v)]))
end L9
namespace LD
open PySem PyProof.Rows L2 L3
mutual
def kd:V3->Bool
 |.none=>V0
 |.int _=>V0
 |.str x=>V3.strOk x
 |.tuple xs=>kds xs
 |_=>V4
def kds:bg V3->Bool
 |[]=>V0
 |x::r=>kd x&&kds r
end
def keyD:V3->Bool
 |.tuple xs=>kds xs&&decide ((V3.tuple xs).depth<=8)
 |_=>I
mutual
theorem kd_lay:∀d:V3,kd d=V0->d.canLay0=V0
 |.none,_=>rfl
 |.int _,_=>rfl
 |.str x,h=>by unfold V3.canLay0;unfold kd at h;exact h
 |.tuple xs,h=>by unfold V3.canLay0;unfold kd at h;exact Bv xs h
 |.bool _,h|.list _,h|.dict _,h=>by simp[kd]at h
theorem Bv:∀xs:bg V3,kds xs=V0->V3.canLayAll0 xs=V0
 |[],_=>rfl
 |x::r,h=>by unfold kds at h;rw[VZ]at h;unfold V3.canLayAll0;rw[kd_lay x h.1,Bv r h.2];rfl
end
mutual
theorem kd_eqv:∀d e:V3,kd d=V0->kd e=V0->V3.eqv d e=V0->d=e
 |.none,e,_,h,q=>by cases e<;>simp_all [kd,V3.eqv]
 |.int i,e,_,h,q=>by cases e<;>simp_all [kd,V3.eqv]
 |.str x,e,_,h,q=>by cases e<;>simp_all [kd,V3.eqv]
 |.tuple xs,e,g,h,q=>by
  cases e with
  |tuple a=>rw[V3.eqv]at q;unfold kd at g h;rw[AZ xs a g h q]
  |_=>simp_all [kd,V3.eqv]
 |.bool _,_,h,_,_|.list _,_,h,_,_|.dict _,_,h,_,_=>by simp[kd]at h
theorem AZ:∀xs ys:bg V3,kds xs=V0->kds ys=V0->V3.eqvAll xs ys=V0->xs=ys
 |[],[],_,_,_=>rfl
 |[],_::_,_,_,q=>by simp[V3.eqvAll]at q
 |_::_,[],_,_,q=>by simp[V3.eqvAll]at q
 |x::xs,y::ys,g,h,q=>by unfold kds at g h;rw[V3.eqvAll]at q;rw[VZ]at g h q;rw[kd_eqv x y g.1 h.1 q.1,AZ xs ys g.2 h.2 q.2]
end
def FR[Decidable (d=e)](hd:kd d=P)(a:kd e=P):V3.eqv d e=decide (d=e):=by
 by_cases q:d=e
 .subst q;rw[a4 W];show SeqAt.eqv_refl d (kd_lay d hd)
 .rw[a5 q]
  cases z:V3.eqv d e with
  |false=>rfl
  |true=>show a7 (kd_eqv d e hd a z) q
def eA(h:keyD d=P):kd d=P/\d.depth<=8:=by
 cases d with
 |tuple xs=>unfold keyD at h;rw[VZ]at h;show#[by ext kd;show h.1,a6 h.2]
 |_=>simp[keyD]at h
mutual
def r9(w:WO):V3->Int
 |.none=>reduceHash 0xFCA86420
 |.int i=>hashInt i
 |.str x=>hashStr w x
 |.tuple xs=>reduceHash (Xe.Tuple.tupleHashOf (qv w xs))
 |_=>0
def qv(w:WO):bg V3->bg Int
 |[]=>[]
 |x::r=>r9 w x::qv w r
end
mutual
def TR:V3->Nat
 |.tuple xs=>JU xs+1
 |_=>1
def JU:bg V3->Nat
 |[]=>0
 |x::r=>TR x+JU r
end
section
variable{prog:Ws}{w:WO}{E:Ld->V7->Prop}
mutual
theorem Ak:∀(d:V3) (v:Ld) (as:bg V5) (A:WK) (s:V7) (Q:Int->V7->Prop),kd d=V0->acE s.heap v d as->A.units+d.depth<cLine->Q (r9 w d) {s with toks:=s.toks+TR d}->wpAny (model prog w) A (pyHash v) Q E s
 |.none,_,_,A,s,Q,_,r,hu,h=>by cases r;exact acu (T:= "NoneType") rfl F.slot_NoneType_hash F.entry_NoneType_hash (F.args_NoneType_hash_1 _) (agK _) (.inr (by ext)) (CL (Wb (CL (aey (Wb ⟨_,_,rfl,h⟩)))))
 |.int i,_,_,A,s,Q,_,r,_,h=>by cases r;exact agz h
 |.str x,_,_,A,s,Q,_,r,_,h=>by cases r;exact agA h
 |.tuple xs,_,_,A,s,Q,hk,r,hu,h=>by
  cases r with
  | @tuple a o vs n _ _ h1 h2 h3 h4=>
   refine acu (T:= "tuple") ⟨_,h1,h2⟩ F.slot_tuple_hash F.entry_tuple_hash (F.args_tuple_hash_1 _) (agK _) (.inr (by ext)) ?_;show wpAny _ _ (Xe.Tuple.tupleItemsOf (.ref a)>>=_) _ _ s;refine CL (wpAny_tupleItemsOf h1 h3 ?_);refine CL ?_;rw[<-adg];unfold kd at hk;refine uf xs vs.toList _ A.in1 s #v[] _ hk h4 (by simp only[V3.depth,WK.in1_units]at hu⊢;ext) λb e=>?_;show wpAny _ _ (retInt (Xe.Tuple.tupleHashOf b.toList)) _ _ _;rw[e];refine CL (aey (Wb ⟨_,_,rfl,?_⟩));unfold r9 TR at h
   simpa [XG]using h
 |.bool _,_,_,_,_,_,h,_,_,_|.list _,_,_,_,_,_,h,_,_,_|.dict _,_,_,_,_,_,h,_,_,_=>by simp[kd]at h
theorem uf:∀(xs:bg V3) (vs:bg Ld) (as:bg V5) (A:WK) (s:V7) (b:Array Int) (Q:Array Int->V7->Prop),kds xs=V0->aaH s.heap vs xs as->A.units+V3.depthAll xs<cLine->
  (∀b':Array Int,b'.toList=b.toList++qv w xs->Q b' {s with toks:=s.toks+JU xs})->
  wpAny (model prog w) A (forIn vs b λx r=>do let h<-pyHash x;pure PUnit.unit;pure (ForInStep.yield (r.push h))) Q E s
 |[],_,_,A,s,b,Q,_,x,_,h=>by cases x;exact Wb (h b (by simp[qv]))
 |k::xs,_,_,A,s,b,Q,hk,x,hu,h=>by
  cases x with
  |cons e a=>
   unfold kds at hk;simp only[VZ,V3.depthAll]at hk hu;rw[ZZ];refine CL (CL (Ak k _ _ A s _ hk.1 e (by ext) ?_));refine CL (Wb (Wb ?_));refine uf xs _ _ A _ _ Q hk.2 a (by ext) λb' f=>?_;have:=h b' (by simp[f,qv]);unfold JU at this
   simpa [XG]using this
end
theorem wW:∀(n:Nat) (d:V3) (v:B) (as:G U) (A:WK) (s:V7) (Q:Bool->V7->Prop),kd d=P->acE s.heap v d as->d.depth<=n->Q P s->wpAny (model prog w) A (eqIsQuiet n v) Q E s
 |n,.none,_,_,A,s,Q,_,r,_,h=>by ext r;rw[abl _ W];show Wb h
 |n,.int i,_,_,A,s,Q,_,r,_,h=>by ext r;rw[abl _ W];show Wb h
 |n,.str i,_,_,A,s,Q,_,r,_,h=>by ext r;rw[abl _ W];show Wb h
 |0,.tuple xs,_,_,A,s,Q,t,r,q,h=>by simp only[V3.depth]at q;ext
 |n+1,.tuple xs,_,_,A,s,Q,t,r,q,h=>by
  cases r with
  | @tuple a o L m _ _ h1 J C u=>
   let g:s.TypeIs (.ref a) "tuple":=#[_,h1,J];simp only[V3.depth]at q;ext eqIsQuiet;show CL (ahF g F.slot_tuple_eq.lookup ?_);show CL (abG g isSubtype_tuple_tuple ?_);simp only[abZ,YF,if_false];show CL (Xz h1 C ?_);show CL ?_;rw[<-adg];unfold kd at t;show wpAny_forIn_list _ (λb r e=>r.1=R/\e=s/\∃ys bs,kds ys=P/\aaH s.heap b ys bs/\V3.depthAll ys<=n) _ ?_ ?_ _ _ #[W,W,xs,_,t,u,by ext]
   .rintro v b r e ⟨f,rfl,ys,bs,k1,k2,k3⟩
    cases k2 with
    | @cons _ _ y p _ _ g1 g2=>unfold kds at k1;simp only[VZ,V3.depthAll]at k1 k3;show CL (wW n y v _ A e _ k1.1 g1 () ?_);simp only[abZ,YF,if_false];show Wb #[W,W,p,_,k1.2,g2,by ext]
   .rintro⟨l,j⟩ e ⟨f,rfl,_⟩;simp only at f;subst f;show Wb h
 |_,.bool _,_,_,_,_,_,h,_,_,_|_,.list _,_,_,_,_,_,h,_,_,_|_,.dict _,_,_,_,_,_,h,_,_,_=>by simp[kd]at h
end
mutual
theorem tK{h h':Heap}{x:V5}{e:Obj}{es:Array YW}{j:Nat}(f:h.get? x=cL e)(i:e.data=.dict es j)(g:Heap.SameBut x h h'):∀(d:V3) (v:Ld) (as:bg V5),kd d=V0->acE h v d as->acE h' v d as
 |.none,_,_,_,r=>by cases r;exact .none
 |.int _,_,_,_,r=>by cases r;exact .int _ _
 |.str _,_,_,_,r=>by cases r;exact .str _ _
 |.tuple xs,_,_,k,r=>by
  cases r with
  | @tuple a o vs n _ _ h1 h2 h3 h4=>
   have b:a≠x:=by rintro rfl;rw[f]at h1;cases h1;rw[i]at h3;exact nomatch h3
   unfold kd at k;exact .tuple ((g.2 a b).trans h1) h2 h3 (rQ f i g xs _ _ k h4)
 |.bool _,_,_,h,_|.list _,_,_,h,_|.dict _,_,_,h,_=>by simp[kd]at h
theorem rQ{h h':Heap}{x:V5}{a:Obj}{es:Array YW}{j:Nat}(b:h.get? x=cL a)(f:a.data=.dict es j)(e:Heap.SameBut x h h'):∀(ds:bg V3) (vs:bg Ld) (as:bg V5),kds ds=V0->aaH h vs ds as->aaH h' vs ds as
 |[],_,_,_,r=>by cases r;exact .nil
 |d::ds,_,_,k,r=>by
  cases r with
  |cons i g=>unfold kds at k;rw[VZ]at k;exact .cons (tK b f e d _ _ k.1 i) (rQ b f e ds _ _ k.2 g)
end
abbrev KD:={d:V3//keyD d=P}
noncomputable instance kdDec:DecidableEq KD:=λ_ _=>Classical.propDecidable _
def fZ(prog:Ws)(w:WO):aiY prog w KD where
 is:=λh k a=>∃as,acE h (.ref a) k.1 as
 hash:=λk=>r9 w k.1
 draws:=λk=>TR k.1
 room:=λA=>A.units+8<cLine
 inj:=λ#[_,r] #[_,f]=>Subtype.ext (acE.unique r _ _ f).1
 keeps:=λ{h l k a d o es m} #[as,r] j hd i=>#[as,tK j hd i k.1 _ _ (eA k.2).1 r]
 pyHash:=λ{A E s k a Q} g #[as,r] q=>Ak k.1 _ as A s Q (eA k.2).1 r (by let:=(eA k.2).2;ext) q
 eqBool:=λ{A E s x y a b Q} g #[as,r] #[bs,f] q=>SeqAt.eqAt_reads x.1 y.1 A s _ _ as bs r f (kd_lay _ (eA x.2).1) (kd_lay _ (eA y.2).1) (by let:=(eA x.2).2;ext) prog w E Q (by
  haveI:Decidable (x.1=y.1):=Classical.propDecidable _
  rw[FR (eA x.2).1 (eA y.2).1];by_cases e:x=y
  .rw[a4 e]at q;rw[a4 (eg Subtype.val e)];show q
  .rw[a5 e]at q;rw[a5 λz=>e (Subtype.ext z)];show q)
 quiet:=λ{A E s k a Q} #[as,r] q=>wW 8 k.1 _ as A s Q (eA k.2).1 r (eA k.2).2 q
def VV(a:U)(xs:G (KD×U×V))(w:WO)(h:Heap):Prop:=
 (xs.length<=We/\(a==Xu)=I/\(xs.map (·.1)).Nodup)/\∃o es b,h.get? a=M o/\o.ExactDict/\o.data=.dict es b/\Paired (λ(x:KD×U×V) (e:YW)=>e.hash=r9 w x.1.1/\e.key=.ref x.2.1/\RelV x.2.2 e.val) xs es.toList
abbrev DkO(a:U)(xs:G (KD×U×V)):HO:=.exw (VV a xs)
abbrev PrD(O:bG)(K:lD)(H:Hp):G (KD×U×V)->G (D×D)->Prop:=
 Paired λx a=>x.1.1=a.1/\L3.DV O K H (.ref x.2.1) a.1/\L3.DV O K H x.2.2 a.2
end LD
namespace L10
open PySem L2 L3
inductive AV where
 |fz (d:D)
 |rf (i:Nat)
inductive SV where
 |fz (d:D)
 |rf (i:Nat)
 |tp (l:G AV)
def AV.sv:AV->SV
 |.fz d=>.fz d
 |.rf i=>.rf i
inductive Cell where
 |lst (xs:G SV)
 |dct (WA:G (cw×SV))
 |obj (C:Str) (fs:G (Str×SV))
 |dd (WA:G (D×D))
 |dead
abbrev aP:=G Cell
abbrev aW:=G (z SV)
inductive RS(α:Type) where
 |ok (a:α) (ω:aP)
 |er (x:Xc) (ω:aP)
 |bad
def RS.bind(r:RS α)(f:α->aP->RS β):RS β:=match r with
 |.ok a b=>f a b
 |.er x b=>.er x b
 |.bad=>.bad
def RS.W5(b:aP):z α->RS α
 |some a=>.ok a b
 |none=>.bad
theorem RS.bind_ok(a:α)(b:aP)(f:α->aP->RS β):(RS.ok a b).bind f=f a b:=W
abbrev en:=@RS.bind_ok
def Lv(α:G U)(a:aP):bG:=λb=>∃(i:Nat) (c:Cell),α[i]?=M b/\a[i]?=M c/\c≠Cell.dead
def ow(B:bG)(α:G U)(a:aP):bG:=λb=>B b\/Lv α a b
section
variable(O:bG)(K:lD)(H:Hp)(Z:bg V5)
def AOk(v:V):AV->Prop
 |.fz d=>DV O K H v d
 |.rf i=>∃a,Z[i]?=M a/\v=.ref a
def YI(v:V):SV->Prop
 |.fz d=>DV O K H v d
 |.rf i=>∃a,Z[i]?=M a/\v=.ref a
 |.tp l=>∃a xs,v=.ref a/\Z4 O K H a xs/\Paired (AOk O K H Z) xs l
abbrev Yv:G V->G SV->Prop:=Paired (YI O K H Z)
def COk(a:U):Cell->Prop
 |.lst xs=>∃e,H a=M (.lst e)/\Yv O K H Z e xs
 |.dct b=>∃ws:G (cw×V),H a=M (.dK ws)/\Paired (λ(p:cw×V) (q:cw×SV)=>p.1=q.1/\YI O K H Z p.2 q.2) ws b
 |.obj C fs=>∃f g ws,WC K Wr C=M (M (.ref f))/\H a=M (.ins f g ws)/\Paired (λ(p:Str×V) (q:Str×SV)=>p.1=q.1/\YI O K H Z p.2 q.2) ws fs
 |.dd b=>∃xs,H a=M (LD.DkO a xs)/\LD.PrD O K H xs b
 |.dead=>True
def YB(a:L2.St)(b:aW):Prop:=a.length=b.length/\∀(i:Nat) (x:SV),b[i]?=M (M x)->∃v,a[i]?=M (M v)/\YI O K H Z v x
end
structure WM(B:bG)(K:lD)(H:Hp)(α:G U)(ω:aP):Prop where
 len:α.length=ω.length
 nd:∀(i j:Nat) (a:U),α[i]?=M a->α[j]?=M a->i=j
 bn:∀a,B a->H a≠R
 ba:∀a,B a->∀i:Nat,α[i]?≠M a
 al:∀(i:Nat) (a:U),α[i]?=M a->H a≠R
 cel:∀(i:Nat) (a:U) (c:Cell),α[i]?=M a->ω[i]?=M c->COk (ow B α ω) K H α a c
structure XX(α:G U)(ω:aP)(H:Hp)(α':G U)(ω':aP)(H':Hp):Prop where
 pre:∀(i:Nat) (a:U),α[i]?=M a->α'[i]?=M a
 kp:∀b o,H b=M o->¬Lv α ω b->H' b=M o
 lv:∀b,Lv α' ω' b->Lv α ω b\/H b=R
section
variable{B O Q:bG}{K:lD}{E:XK}{H J S N:Hp}{Z Y U T:bg V5}{L X t R:aP}{σ:L2.St}{ρ:aW}{v:V}
theorem XX.refl:XX Z L H Z L H:=#[λ_ _ h=>h,λ_ _ h _=>h,λ_ h=>.inl h]
def XX.trans(a:XX Z L H U t S)(b:XX U t S T R N):XX Z L H T R N:=by
 let e:∀b o,H b=M o->¬Lv Z L b->¬Lv U t b:=λb o h n z=>(a.lv b z).elim n λq=>by simp_all
 show#[λi p h=>b.pre i p (a.pre i p h),λp o h n=>b.kp p o (a.kp p o h n) (e p o h n),λp h=>?_];rcases b.lv p h with h|h
 .show a.lv p h
 .cases q:H p with
  |none=>simp_all
  |some o=>show .inl (Classical.byContradiction λn=>?_);rw[a.kp p o q n]at h;ext h
theorem XX.same(s:XQ H J):XX Z L H Z L J:=#[λ_ _ h=>h,λb o h _=>s b o h,λ_ h=>.inl h]
theorem XX.ev(e:XX Z L H Y X J):Ev (ow B Z L) H (ow B Y X) J:=λb o h n=>
 #[e.kp b o h λz=>n (.inr z),λz=>z.elim (λq=>n (.inl q)) λq=>(e.lv b q).elim (λq=>n (.inr q)) λq=>by simp_all]
def AOk.ev(e:Ev O H Q J)(p:∀(i:Nat) (a:V5),Z[i]?=M a->Y[i]?=M a)(h:AOk O K H Z v x):AOk Q K J Y v x:=by
 cases x with
 |fz d=>show DV.ev e h
 |rf i=>let(a,f,b):=h;show#[a,p i a f,b]
def YI.ev(e:Ev O H Q J)(p:∀(i:Nat) (a:V5),Z[i]?=M a->Y[i]?=M a)(h:YI O K H Z v x):YI Q K J Y v x:=by
 cases x with
 |fz d=>show DV.ev e h
 |rf i=>let(a,f,b):=h;show#[a,p i a f,b]
 |tp l=>let(a,xs,f,b,g):=h;show#[a,xs,f,b.ev e,Paired.Zt g λ_ _ q=>q.ev e p]
theorem YI.Yl(e:XX Z L H Y X J)(h:YI (ow B Z L) K H Z v x):YI (ow B Y X) K J Y v x:=h.ev e.ev e.pre
theorem Yv.Yl(e:XX Z L H Y X J)(h:Yv (ow B Z L) K H Z vs xs):Yv (ow B Y X) K J Y vs xs:=Paired.Zt h λ_ _ q=>q.Yl e
theorem YB.Yl(e:XX Z L H Y X J)(h:YB (ow B Z L) K H Z σ ρ):YB (ow B Y X) K J Y σ ρ:=#[h.1,λi x q=>let#[v,h1,a]:=h.2 i x q;#[v,h1,a.Yl e]]
def COk.ev(e:Ev O H Q J)(p:∀(i:Nat) (a:V5),Z[i]?=M a->Y[i]?=M a)(d:∀o,H a=M o->J a=M o)(h:COk O K H Z a c):COk Q K J Y a c:=by
 cases c with
 |lst xs=>let(l,f,b):=h;show#[l,d _ f,Paired.Zt b λ_ _ q=>q.ev e p]
 |dct n=>let(ws,f,b):=h;show#[ws,d _ f,Paired.Zt b λ_ _ q=>#[q.1,q.2.ev e p]]
 |obj C fs=>let(j,m,ws,g,f,b):=h;show#[j,m,ws,g,d _ f,Paired.Zt b λ_ _ q=>#[q.1,q.2.ev e p]]
 |dd n=>let(xs,f,b):=h;show#[xs,d _ f,Paired.Zt b λ_ _ q=>#[q.1,q.2.1.ev e,q.2.2.ev e]]
 |dead=>trivial
theorem WM.noO(s:WM B K H Z L):lM (ow B Z L) H:=λa h z=>z.elim (λq=>s.bn a q h) λ#[i,c,q,_]=>s.al i a q h
theorem WM.owd(s:WM B K H Z L):∀a,ow B Z L a->H a≠VY:=λa z h=>s.noO a h z
def WM.grow(s:WM B K H Z L)(e:XQ H J):WM B K J Z L:=by let n:∀a,H a≠VY->J a≠VY:=λa h z=>h (e.free z);show#[s.len,s.nd,λa h=>n a (s.bn a h),s.ba,λi a h=>n a (s.al i a h),λi a c f b=>(s.cel i a c f b).ev (Ev.grow e) (λ_ _ h=>h) λo h=>e _ _ h]
def WM.at(s:WM B K H Z L){i:Nat}(h:L[i]?=M c):∃a,Z[i]?=M a:=by let:i<L.length:=(V2.mp h).1;rw[<-s.len]at this;simp_all
theorem WM.aeW(s:WM B K H Z L){i:Nat}(h:Z[i]?=M a):¬B a:=λz=>s.ba a z i h
def y4{i:Nat}{c m:Cell}(h:L[i]?=M c)(n:c≠.dead)(g:m≠.dead){b:V5}:Lv Z (L.set i m) b↔Lv Z L b:=by
 constructor
 .rintro⟨j,d,f,a,l⟩
  rcases bQ a with⟨rfl,rfl⟩|⟨_,a⟩
  .show#[j,c,f,h,n]
  .show#[j,d,f,a,l]
 .rintro⟨j,d,f,a,l⟩
  by_cases e:j=i
  .subst e;show#[j,m,f,by rw[Xb (V2.mp h).1],g]
  .show#[j,d,f,by rw[W6 (λz=>e z.symm)];show a,l]
def Q5(h:L[i]?=M c)(e:c≠.dead)(a:o≠.dead):ow B Z (L.set i o)=ow B Z L:=by funext b;show propext #[λz=>z.imp id (y4 h e a).mp,λz=>z.imp id (y4 h e a).mpr]
theorem XX.put(d:Z[i]?=M a)(h:L[i]?=M c)(g:c≠.dead)(f:c'≠.dead):XX Z L H Z (L.set i c') (a8 H a o):=
 #[λ_ _ h=>h,λb j q n=>by let z:b≠a:=λe=>n #[i,c,by simp_all,h,g];rw[aw z];show q,λb z=>.inl ((y4 h g f).mp z)]
def WM.put(s:WM B K H Z L)(k:Z[i]?=M a)(h:L[i]?=M c)(p:c≠.dead)(f:c'≠.dead)(new:COk (ow B Z L) K (a8 H a o) Z a c'):WM B K (a8 H a o) Z (L.set i c'):=by
 let e:XX Z L H Z (L.set i c') (a8 H a o):=XX.put k h p f;let n:∀b,H b≠VY->a8 H a o b≠VY:=λb h=>by
  by_cases z:b=a
  .subst z;rw[aI];simp
  .rw[aw z];show h
 show#[by rw[Xh];show s.len,s.nd,λb h=>n b (s.bn b h),s.ba,λj b h=>n b (s.al j b h),λj b d m l=>?_];rcases bQ l with⟨rfl,rfl⟩|⟨g,l⟩
 .rw[k]at m;ext m;rw[Q5 h p f];show new
 .show(s.cel j b d m l).ev e.ev e.pre λu q=>by rw[aw (λz=>g (s.nd j i a (by simp_all) k))];show q
theorem oO{i:Nat}{a:V5}{c:Cell}{o:HO}(d:Z[i]?=M a)(h:L[i]?=M c)(b:c≠.dead):Ev (ow B Z L) H (ow B Z L) (a8 H a o):=Ev.mut (.inr #[i,c,d,h,b]) o
def bL{Z:Type}{l:G Z}{x y:Z}{i:Nat}(h:(l++[x])[i]?=M y):l[i]?=M y\/(i=l.length/\y=x):=by
 by_cases hi:i<l.length
 .rw[Wh hi]at h;show .inl h
 .rw[WN ()]at h
  cases q:i - l.length with
  |zero=>rw[q]at h;ext h;show .inr #[by ext,W]
  |succ n=>rw[q]at h;ext h
def hG{Z:Type}{l:G Z}{x y:Z}{i:Nat}(h:l[i]?=M y):(l++[x])[i]?=M y:=by rw[Wh (V2.mp h).1];show h
def aK:(l++[x])[l.length]?=M x:=by simp
def vQ(g:Z.length=L.length)(h:Lv (Z++[p]) (L++[c]) b):Lv Z L b\/b=p:=by
 let(i,d,e,a,f):=h;rcases bL e with e|⟨e1,e2⟩
 .rcases bL a with a|⟨e1,e2⟩
  .show .inl #[i,d,e,a,f]
  simp_all
 .show .inr e2
theorem XX.acp(f:Z.length=L.length)(s:XQ H J)(g:H p=VY):XX Z L H (Z++[p]) (L++[c]) J:=
 #[λi a h=>hG h,λb u q _=>s b u q,λb z=>(vQ f z).imp id λe=>by simp_all]
def WM.acp(s:WM B K H Z L)(e:XQ H J)(l:H p=VY)(m:J p≠VY)(new:COk (ow B (Z++[p]) (L++[c])) K J (Z++[p]) p c):WM B K J (Z++[p]) (L++[c]):=by
 let ev:XX Z L H (Z++[p]) (L++[c]) J:=XX.acp s.len e l;let n:∀b,H b≠VY->J b≠VY:=λb h z=>h (e.free z);show#[by rw[V8,V8,s.len];rfl,λi j a f g=>?_,λa h=>n a (s.bn a h),λa h i q=>?_,λi a h=>?_,λi a d f g=>?_]
 .rcases bL f with g1|⟨e1,e2⟩<;>rcases bL g with g2|⟨e3,e4⟩
  .show s.nd i j a g1 g2
  .show a7 (by rw[e4];show l) (s.al i a g1)
  .show a7 (by rw[e2];show l) (s.al j a g2)
  .omega
 .rcases bL q with q|⟨_,e2⟩
  .show s.ba a h i q
  .subst e2;show s.bn a h l
 .rcases bL h with h|⟨_,e2⟩
  .show n a (s.al i a h)
  simp_all
 .rcases bL g with g|⟨e1,e2⟩
  .rcases bL f with f|⟨e1,_⟩
   .show(s.cel i a d f g).ev ev.ev ev.pre λo q=>e _ _ q
   .let:=(V2.mp g).1;let:=s.len;ext
  .rcases bL f with f|⟨_,e3⟩
   .let:=(V2.mp f).1;let:=s.len;ext
   simp_all
def WS(K:lD)(E:XK)(B:bG)(H:Hp)(Z:G V5)(L:aP)(P:A->G V5->aP->Hp->Prop):RS A->Prop
 |.ok a X=>∀Y J,XX Z L H Y X J->WM B K J Y X->P a Y X J
 |.er x X=>∀c b Y J,XX Z L H Y X J->WM B K J Y X->XOk K (ow B Y X) J c b x->E c b J
 |.bad=>False
def WS.from(e:XX Z L H U t S)(h:WS K E B H Z L f r):WS K E B S U t f r:=by
 cases r with
 |ok a R=>show λT N e2 b=>h T N (e.trans e2) b
 |er x R=>show λc g T N e2 b=>h c g T N (e.trans e2) b
 |bad=>show h
def WS.bind(h:WS K E B H Z L b (r.bind k)):WS K E B H Z L (λa U t S=>WS K E B S U t b (k a t)) r:=by
 cases r with
 |ok a t=>show λU S e1 _=>WS.from e1 h
 |er x t=>show h
 |bad=>show h
def WS.W5(h:WS K E B H Z L b ((RS.W5 L o).bind k)):∃a,o=M a/\WS K E B H Z L b (k a L):=by
 cases o with
 |none=>show h.elim
 |some a=>show#[a,W,h]
def WS.imp(h:WS K E B H Z L e r)(g:∀a Y X J,XX Z L H Y X J->WM B K J Y X->e a Y X J->P' a Y X J):WS K E B H Z L P' r:=by
 cases r with
 |ok a t=>show λU S e1 b=>g a U t S e1 b (h U S e1 b)
 |er x t=>show h
 |bad=>show h
theorem WS.now(s:WM B K H Z L)(h:WS K E B H Z L b (.ok a L)):b a Z L H:=h Z H .refl s
end
abbrev c8:=aW->aP->RS SV
abbrev rG:=aW->aP->RS Bool
abbrev ww:=aW->aP->RS (G SV)
def cb(K:lD)(E:XK)(t:TE)(f:c8):Prop:=
 ∀(B:bG) (e:L2.St) (H:Hp) (α:G U) (h:aP) (i:aW) (Q:VK),WM B K H α h->YB (ow B α h) K H α e i->WS K E B H α h (λx a b g=>∀v,YI (ow B a b) K g a v x->Q v g) (f i h)->t e H Q
def sY(K:lD)(E:XK)(t:TT)(f:rG):Prop:=
 ∀(B:bG) (a:L2.St) (H:Hp) (α:G U) (g:aP) (h:aW) (Q:Bool->Hp->Prop),WM B K H α g->YB (ow B α g) K H α a h->WS K E B H α g (λb _ _ e=>Q b e) (f h g)->t a H Q
def ut(K:lD)(E:XK)(t:TA)(f:ww):Prop:=
 ∀(B:bG) (e:L2.St) (H:Hp) (α:G U) (h:aP) (i:aW) (Q:G V->Hp->Prop),WM B K H α h->YB (ow B α h) K H α e i->WS K E B H α h (λxs a b g=>∀j,Yv (ow B a b) K g a j xs->Q j g) (f i h)->t e H Q
section
variable{B O N:bG}{K:lD}{E:XK}{H H' U H2:Hp}{Z P Y J:bg V5}{ω M ω1 T:aP}{X:L2.St}{ρ:aW}{v:V}
def MY:z SV->z PV
 |some (.fz d)=>cL (.fz d)
 |_=>R
def bj(ρ:aW):aU:=ρ.map MY
def t6{i:Nat}(h:(bj ρ)[i]?=cL (cL x)):∃d,x=.fz d/\ρ[i]?=cL (cL (.fz d)):=by
 unfold bj at h;rw[Wg]at h;cases q:ρ[i]? with
 |none=>simp_all
 |some o=>
  rw[q]at h;let a:=Wm h;unfold MY at a;split at a
  .ext a;show#[_,W,W]
  .ext a
def G9(s:WM B K H Z ω)(a:YB (ow B Z ω) K H Z X ρ):Rl K (ow B Z ω) H (ow B Z ω) X H (bj ρ):=by
 show#[XQ.refl _,λ_ h=>h,s.owd,s.noO,by ext bj;rw[V1];show a.1,λi x h=>?_,λi j ds es w h=>?_]
 .let(d,rfl,b):=t6 h;let(v,g,f):=a.2 i _ b;show#[v,g,f]
 .let(d,e,_):=t6 h;ext e
def lP(ω:aP):RV->RS SV
 |.fz d=>.ok (.fz d) ω
 |.ow ds=>.ok (.rf ω.length) (ω++[.lst (ds.map .fz)])
abbrev PQ(B:bG)(K:lD)(Q:VK):SV->G V5->aP->Hp->Prop:=λx P M H'=>∀v,YI (ow B P M) K H' P v x->Q v H'
theorem j4(O:bG)(Z:G V5):∀{a:G V} {ds:G D},XU O K H a ds->Yv O K H Z a (ds.map .fz)
 |_,_,.nil=>.nil
 |_,_,.cons h t=>.cons h (j4 O Z t)
theorem Fb:∀{a:G V} {ds:G D},Yv O K H Z a (ds.map .fz)->XU O K H a ds
 |_,[],.nil=>.nil
 |_,_::_,.cons h t=>.cons h (Fb t)
def qS(s:WM B K H Z ω)(w:WS K E B H Z ω (PQ B K Q) (lP ω (.ow ds)))(e:XQ H H')(a:H p=R)(h:H' p=cL (.lst o))(hd:XU N K H' o ds)(f:∀b,ow B Z ω b->N b)(g:N p):Q (.ref p) H':=by
 let sub:∀b,ow B (Z++[p]) (ω++[.lst (ds.map .fz)]) b->N b:=λb z=>z.elim (λq=>f b (.inl q)) λq=>(vQ s.len q).elim (λq=>f b (.inr q)) λq=>by simp_all
 show w (Z++[p]) H' (XX.acp s.len e a) (s.acp e a (by rw[h];simp) #[o,h,j4 _ _ (hd.ev (Ev.sub sub))]) (.ref p) #[p,by rw[<-s.len];show aK,W]
def GJ(s:WM B K H Z ω)(w:WS K E B H Z ω (PQ B K Q) (lP ω o)):Fin (ow B Z ω) K H Q o:=by
 cases o with
 |fz d=>show λv H' e a=>w Z H' (XX.same e) (s.grow e) v a
 |ow ds=>show λp g H' e f h a=>qS s w e f h a (λb z=>.inl z) (.inr W)
def af(f:FE):c8:=λρ ω=>match f (bj ρ)with
 |.ok (.fz d,_)=>.ok (.fz d) ω
 |.ok (.ow ds,_)=>lP ω (.ow ds)
 |.ok (.pl _,_)=>.bad
 |.er x=>.er x ω
 |.bad=>.bad
def rC(h:EO K E t f):cb K E t (af f):=by
 intro B X H Z ω ρ Q s g w;show h (ow B Z ω) H (ow B Z ω) X H (bj ρ) Q (G9 s g) ?_;unfold af at w;cases q:f (bj ρ)with
 |bad=>rw[q]at w;show w.elim
 |er x=>rw[q]at w;show λc u H' e k=>w c u Z H' (XX.same e) (s.grow e) k
 |ok r=>
  let(pv,b):=r;rw[q]at w;intro N v H' e R p;cases pv with
  |fz d=>show w Z H' (XX.same R.same) (s.grow R.same) v (DV.ev (Ev.sub R.bo) p)
  |ow ds=>let(a,y,rfl,n,m,l,j,o):=p;show qS s w R.same m l j R.bo n
  |pl i=>show w.elim
def bJ(f:FT):rG:=λρ ω=>match f (bj ρ)with
 |.ok (b,_)=>.ok b ω
 |.er x=>.er x ω
 |.bad=>.bad
def Hg(h:TTO K E t f):sY K E t (bJ f):=by
 intro B X H Z ω ρ Q s g w;show h (ow B Z ω) H (ow B Z ω) X H (bj ρ) Q (G9 s g) ?_;unfold bJ at w;cases q:f (bj ρ)with
 |bad=>rw[q]at w;show w.elim
 |er x=>rw[q]at w;show λc i H' e k=>w c i Z H' (XX.same e) (s.grow e) k
 |ok r=>let(b,a):=r;rw[q]at w;show λN H' e R=>w Z H' (XX.same R.same) (s.grow R.same)
def am(i:Nat):c8:=λρ ω=>match ρ[i]? with
 |some (cL x)=>.ok x ω
 |_=>.bad
def BC:cb K E (pQ i) (am i):=by
 intro B X H Z ω ρ Q s a w;unfold am at w;cases q:ρ[i]? with
 |none=>rw[q]at w;show w.elim
 |some o=>
  cases o with
  |none=>rw[q]at w;show w.elim
  |some x=>rw[q]at w;let(v,e,b):=a.2 i x q;show#[v,e,WS.now s w v b]
def lx(K:lD)(C:Str)(fs:G Str):Prop:=∃a,WC K Wr C=cL (cL (.ref a))/\Cls K a/\∀f∈fs,Zl K a f
def aJ(C f:Str)(e:c8):c8:=λρ ω=>(e ρ ω).bind λx ω1=>match x with
 |.rf i=>(match ω1[i]? with
  |some (.obj D fs)=>if D=C then RS.W5 ω1 (fs.lookup f)else .bad
  |_=>.bad)
 |_=>.bad
def Cz:∀{ws:G (Str×V)} {fs:G (Str×SV)},Paired (λ(p:Str×V) (q:Str×SV)=>p.1=q.1/\YI O K H Z p.2 q.2) ws fs->fs.lookup f=cL x->∃v,ws.lookup f=cL v/\YI O K H Z v x:=by
 intro ws fs p
 induction p with
 |nil=>intro h;ext h
 | @cons a b _ _ q t i=>
  let(a,v):=a;let(b,y):=b;let(g,e):=q;intro h;ext g;rw[WY]at h⊢;split at h
  .ext h;show#[v,W,e]
  .show i h
def CO:∀{ws:G (Str×V)} {fs:G (Str×SV)},Paired (λ(p:Str×V) (q:Str×SV)=>p.1=q.1/\YI O K H Z p.2 q.2) ws fs->fs.lookup f=R->ws.lookup f=R:=by
 intro ws fs p
 induction p with
 |nil=>intro h;rfl
 | @cons a b _ _ q t i=>
  let(a,v):=a;let(b,y):=b;let(e,g):=q;intro h;ext e;rw[WY]at h⊢;split at h
  .ext h
  .show i h
def LU(o:lx K C L)(n:f∈L)(k:cb K E ta fa):cb K E (OE K ta f) (aJ C f fa):=by
 intro B X H Z ω ρ Q s h w;show k B X H Z ω ρ _ s h (w.bind.imp λx Y ω1 U e1 e b v j=>?_);cases x with
 |fz d=>show b.elim
 |tp l=>show b.elim
 |rf i=>
  let(a,k,rfl):=j;dsimp only at b;cases q:ω1[i]? with
  |none=>rw[q]at b;show b.elim
  |some c=>
   rw[q]at b;cases c with
   |obj D fs=>
    dsimp only at b;by_cases z:D=C
    .subst z
     rw[ax W]at b;let(F,dx,ws,t,r,p):=e.cel i a _ k q;cases S:fs.lookup f with
     |none=>rw[S]at b;show b.elim
     |some x=>rw[S]at b;let(u,m,g):=Cz p S;let(G,g0,A,y):=o;rw[t]at g0;ext g0;show#[a,F,dx,ws,u,W,r,A,y f n,m,WS.now e b u g]
    .rw[aE z]at b;show b.elim
   |_=>show b.elim
def aA{Z a:Type}(f:Z->z a):G Z->z (G a)
 |[]=>cL []
 |x::r=>match f x with
  |some y=>(match aA f r with
   |some b=>cL (y::b)
   |none=>R)
  |none=>R
def pd:Nat->aP->SV->z D
 |_,_,.fz d=>cL d
 |0,_,_=>R
 |n+1,ω,.rf i=>match ω[i]? with
  |some (.lst xs)=>(aA (pd n ω) xs).map .list
  |_=>R
 |n+1,ω,.tp l=>(aA (λx=>pd n ω x.sv) l).map .tuple
theorem cW{Z a:Type}{f:Z->z a}{R:V->Z->Prop}{S:V->a->Prop}(h:∀v x y,R v x->f x=cL y->S v y):∀{c:G V} {xs:G Z} {g:G a},Paired R c xs->aA f xs=cL g->Paired S c g
 |_,_,_,.nil,e=>by ext e;show .nil
 |_,_,_,.cons (b:=x) (l₂:=xs) r t,e=>by
  unfold aA at e;cases q:f x with
  |none=>simp_all
  |some y=>
   rw[q]at e;dsimp only at e;cases i:aA f xs with
   |none=>simp_all
   |some g=>rw[i]at e;ext e;show .cons (h _ _ _ r q) (cW h t i)
def mv:∀{b:G V} {ds:G D},Paired (DV O K H) b ds->XU O K H b ds:=by
 intro _ _ p
 induction p with
 |nil=>show .nil
 |cons h t a=>show .cons h a
theorem M5:Ev O H noO H:=Ev.sub λ_ z=>z.elim
theorem kR(s:WM B K H Z ω):∀(n:Nat) {v:V} {x:SV} {d:D},YI (ow B Z ω) K H Z v x->pd n ω x=cL d->DV noO K H v d
 |n,v,.fz o,d,h,e=>by
  let g:cL o=cL d:=by ext n<;>show e
  ext g;show DV.ev M5 h
 |0,v,.rf i,d,h,e=>by ext e
 |0,v,.tp l,d,h,e=>by ext e
 |n+1,v,.rf i,d,h,e=>by
  let(a,m,rfl):=h;unfold pd at e;cases q:ω[i]? with
  |none=>simp_all
  |some c=>
   rw[q]at e;cases c with
   |lst xs=>
    dsimp only at e;cases j:aA (pd n ω) xs with
    |none=>simp_all
    |some ds=>rw[j]at e;ext e;let(p,f,b):=s.cel i a _ m q;show .lst #[Ze.of f,λz=>z.elim] (mv (cW (R:=YI (ow B Z ω) K H Z) (λv x y r e=>kR s n r e) b j))
   |_=>ext e
 |n+1,v,.tp l,d,h,e=>by
  let(a,xs,rfl,f,b):=h;unfold pd at e;cases j:aA (λx=>pd n ω x.sv) l with
  |none=>simp_all
  |some ds=>rw[j]at e;ext e;show .tup (f.ev M5) (mv (cW (λv x y r e=>kR s n (by ext x<;>show r) e) b j))
def yl:SV->z D
 |.fz d=>cL d
 |_=>R
def sh(ω:aP):SV->z D
 |.fz d=>cL d
 |.rf i=>match ω[i]? with
  |some (.lst xs)=>(aA yl xs).map .list
  |_=>R
 |.tp _=>R
def DD(s:WM B K H Z ω)(h:YI (ow B Z ω) K H Z v x)(e:sh ω x=cL d):DX (ow B Z ω) K H v d:=by
 cases x with
 |fz g=>ext e;show DV.x h
 |tp l=>ext e
 |rf i=>
  let(a,n,rfl):=h;unfold sh at e;dsimp only at e;cases q:ω[i]? with
  |none=>simp_all
  |some c=>
   rw[q]at e;cases c with
   |lst xs=>
    dsimp only at e;cases j:aA yl xs with
    |none=>simp_all
    |some ds=>
     rw[j]at e;ext e;let(m,f,b):=s.cel i a _ n q;show#[a,m,W,Ze.of f,mv (cW (λv x y r e=>?_) b j)];cases x with
     |fz d=>ext e;show r
     |rf i=>ext e
     |tp l=>ext e
   |_=>ext e
def BX:D->Bool
 |.none=>V0
 |.bool _=>V0
 |.int _=>V0
 |.str _=>V0
 |_=>I
def Mo(h:BX d=V0)(a:DV O K H v d):DV N K H' v d:=by
 cases a with
 |Yf=>show .Yf
 |bl b=>show .bl b
 |int i=>show .int i
 |str x=>show .str x
 |tup _ _=>ext h
 |lst _ _=>ext h
def o0(ω:aP):RV->RS SV
 |.fz d=>if BX d=V0 then .ok (.fz d) ω else .bad
 |.ow _=>.bad
def F6(s:WM B K H Z ω)(w:WS K E B H Z ω (PQ B K Q) (o0 ω o)):Fin noO K H Q o:=by
 cases o with
 |fz d=>
  let w:WS K E B H Z ω (PQ B K Q) (if BX d=V0 then RS.ok (SV.fz d) ω else RS.bad):=w;by_cases z:BX d=V0
  .rw[ax z]at w;show λv H' e a=>w Z H' (XX.same e) (s.grow e) v (Mo z a)
  .rw[aE z]at w;show w.elim
 |ow ds=>show w.elim
theorem Et:lM noO H:=λ_ _ z=>z
def pL(f:D->D->z RV)(x y:SV)(ω:aP):RS SV:=match sh ω x,sh ω y with
 |some g,cL b=>(RS.W5 ω (f g b)).bind λe ω1=>lP ω1 e
 |_,_=>(RS.W5 ω (pd 6 ω x)).bind λg ω1=>(RS.W5 ω1 (pd 6 ω1 y)).bind λb T=>(RS.W5 T (f g b)).bind λe a=>o0 a e
def En(n:jJ K r f)(s:WM B K H Z ω)(m:YI (ow B Z ω) K H Z x a)(l:YI (ow B Z ω) K H Z y b)(w:WS K E B H Z ω (PQ B K Q) (pL f a b ω)):r x y H Q:=by
 let o:WS K E B H Z ω (PQ B K Q) ((RS.W5 ω (pd 6 ω a)).bind λq ω1=>(RS.W5 ω1 (pd 6 ω1 b)).bind λe T=>(RS.W5 T (f q e)).bind λp i=>o0 i p)->r x y H Q:=λw=>by let(q,h,w):=w.W5;let(e,g,w):=w.W5;let(p,j,w):=w.W5;show n noO H x y q e p Q Et (DV.x (kR s 6 m h)) (DV.x (kR s 6 l g)) j (F6 s w)
 unfold pL at w;cases h:sh ω a with
 |none=>simp_all
 |some q=>
  cases g:sh ω b with
  |none=>simp_all
  |some e=>rw[h,g]at w;let(p,j,w):=w.W5;show n _ H x y q e p Q s.noO (DD s m h) (DD s l g) j (GJ s w)
def jK(f:D->D->z RV)(b a:c8):c8:=λρ ω=>(b ρ ω).bind λx ω1=>(a ρ ω1).bind λy T=>pL f x y T
def HE(l:jJ K r f)(c:cb K E C fa)(m:cb K E o fb):cb K E (IC r C o) (jK f fa fb):=by intro B X H Z ω ρ Q s a w;show c B X H Z ω ρ _ s a (w.bind.imp λx Y ω1 U e1 h e v i=>?_);show m B X U Y ω1 ρ _ h (a.Yl e1) (e.bind.imp λy J T H2 e2 g b u j=>?_);show En l g (i.Yl e2) j b
def LV:SV->z Bool
 |.fz (.bool b)=>cL b
 |_=>R
def Lp(e:LV x=cL b)(h:YI O K H Z v x):v=.bl b:=by
 unfold LV at e;split at e
 .ext e;ext h;rfl
 .ext e
def aZ(a:c8):rG:=λρ ω=>(a ρ ω).bind λx ω1=>RS.W5 ω1 (LV x)
def rb(c:cb K E o C):sY K E (t7 o) (aZ C):=by
 intro B X H Z ω ρ Q s e w;show c B X H Z ω ρ _ s e (w.bind.imp λx Y ω1 U e1 f a v g=>?_);cases q:LV x with
 |none=>rw[q]at a;show a.elim
 |some b=>rw[q]at a;show#[b,Lp q g,WS.now f a]
theorem Fo(a:cb K E o C):sY K E (tB o) (aZ C):=rb a
def mn(c a:rG):rG:=λρ ω=>(c ρ ω).bind λb ω1=>if b=V0 then a ρ ω1 else .ok I ω1
def zS(c a:rG):rG:=λρ ω=>(c ρ ω).bind λb ω1=>if b=V0 then .ok V0 ω1 else a ρ ω1
def v9(a:rG):rG:=λρ ω=>(a ρ ω).bind λb ω1=>.ok (!b) ω1
def Kh(j:sY K E t f)(i:sY K E u g):sY K E (Qe t u) (mn f g):=by
 intro B X H Z ω ρ Q s e w;show j B X H Z ω ρ _ s e (w.bind.imp λb Y ω1 U e1 h a=>?_);cases b with
 |true=>show i B X U Y ω1 ρ Q h (e.Yl e1) a
 |false=>show WS.now h a
def QB(j:sY K E t f)(i:sY K E u g):sY K E (Uo t u) (zS f g):=by
 intro B X H Z ω ρ Q s e w;show j B X H Z ω ρ _ s e (w.bind.imp λb Y ω1 U e1 h a=>?_);cases b with
 |true=>show WS.now h a
 |false=>show i B X U Y ω1 ρ Q h (e.Yl e1) a
def Mr(h:sY K E t f):sY K E (IT t) (v9 f):=by intro B X H Z ω ρ Q s e w;show h B X H Z ω ρ _ s e (w.bind.imp λb Y ω1 U e1 g a=>WS.now g a)
def bV:rG:=λ_ ω=>.ok V0 ω
theorem GX:sY K E GS bV:=λB X H Z ω ρ Q s a w=>WS.now s w
def wQ(c a:c8):c8:=λρ ω=>(aZ c ρ ω).bind λb ω1=>if b=V0 then a ρ ω1 else .ok (.fz (.bool I)) ω1
def Kt(d:cb K E C fa)(g:cb K E o fb):cb K E (Gj C o) (wQ fa fb):=by
 intro B X H Z ω ρ Q s e w;show rb d B X H Z ω ρ (λc U=>if c=V0 then o X U Q else Q (.bl I) U) s e (w.bind.imp λb Y ω1 U e1 f a=>?_);cases b with
 |true=>show g B X U Y ω1 ρ Q f (e.Yl e1) a
 |false=>show WS.now f a _ (.bl I)
def M8(c:rG)(d a:c8):c8:=λρ ω=>(c ρ ω).bind λb ω1=>if b=V0 then d ρ ω1 else a ρ ω1
def Ow(g:sY K E t c)(d:cb K E C fa)(h:cb K E o fb):cb K E (TZ t C o) (M8 c fa fb):=by
 intro B X H Z ω ρ Q s a w;show g B X H Z ω ρ _ s a (w.bind.imp λb Y ω1 U e1 f e=>?_);cases b with
 |true=>show d B X U Y ω1 ρ Q f (a.Yl e1) e
 |false=>show h B X U Y ω1 ρ Q f (a.Yl e1) e
def av:ww:=λ_ ω=>.ok [] ω
def ai(b:c8)(a:ww):ww:=λρ ω=>(b ρ ω).bind λx ω1=>(a ρ ω1).bind λxs T=>.ok (x::xs) T
theorem pS:ut K E g6 av:=λB X H Z ω ρ Q s a w=>WS.now s w [] .nil
def nA(c:cb K E o C)(j:ut K E tr fr):ut K E (d6 o tr) (ai C fr):=by intro B X H Z ω ρ Q s b w;show c B X H Z ω ρ _ s b (w.bind.imp λx Y ω1 U e1 h f v i=>?_);show j B X U Y ω1 ρ _ h (b.Yl e1) (f.bind.imp λxs J T H2 e2 g e l a=>?_);show WS.now g e (v::l) (.cons (i.Yl e2) a)
def TY:SV->z AV
 |.fz d=>cL (.fz d)
 |.rf i=>cL (.rf i)
 |.tp _=>R
def TW(xs:G SV):z SV:=match aA yl xs with
 |some ds=>cL (.fz (.tuple ds))
 |none=>(aA TY xs).map .tp
def ky(a:ww):c8:=λρ ω=>(a ρ ω).bind λxs ω1=>if xs.length<=1000 then RS.W5 ω1 (TW xs)else .bad
def zz(r:YI O K H Z v x)(e:yl x=cL d):DV O K H v d:=by
 cases x with
 |fz d=>ext e;show r
 |rf i=>ext e
 |tp l=>ext e
def P0(r:YI O K H Z v x)(e:TY x=cL d):AOk O K H Z v d:=by
 cases x with
 |fz d=>ext e;show r
 |rf i=>ext e;show r
 |tp l=>ext e
def Ky(c:ut K E C fa):cb K E (Lh C) (ky fa):=by
 intro B X H Z ω ρ Q s m w;show c B X H Z ω ρ _ s m (w.bind.imp λxs Y ω1 U e1 f a n g=>?_);by_cases hn:xs.length<=1000
 .rw[ax hn]at a
  show#[by rw[g.length];show yq hn,λp j=>?_];let b:XQ U (a8 U p (.tup n)):=bM j _;let e:XX Y ω1 U Y ω1 (a8 U p (.tup n)):=XX.same b;let i:Z4 (ow B Y ω1) K (a8 U p (.tup n)) p n:=#[ZI.of aI,λz=>a7 z (f.noO p j)];unfold TW at a;cases q:aA yl xs with
  |some ds=>rw[q]at a;show a Y _ e (f.grow b) _ (.tup i (mv (cW (R:=YI (ow B Y ω1) K U Y) (λv x y r h=>(zz r h).ev e.ev) g q)))
  |none=>
   rw[q]at a;dsimp only at a;cases o:aA TY xs with
   |none=>rw[o]at a;show a.elim
   |some l=>rw[o]at a;show a Y _ e (f.grow b) _ #[p,n,W,i,cW (R:=YI (ow B Y ω1) K U Y) (λv x y r h=>(P0 r h).ev e.ev e.pre) g o]
 .rw[aE hn]at a;show a.elim
def sQ(f:G D->z RV)(xs:G SV)(ω:aP):RS SV:=match aA (sh ω) xs with
 |some ds=>(RS.W5 ω (f ds)).bind λb ω1=>lP ω1 b
 |_=>(RS.W5 ω (aA (pd 6 ω) xs)).bind λds ω1=>(RS.W5 ω1 (f ds)).bind λb a=>o0 a b
def i4(f:G D->z RV)(a:ww):c8:=λρ ω=>(a ρ ω).bind λxs ω1=>sQ f xs ω1
def Gc(i:BZ K r f)(c:ut K E C fa):cb K E (Ax r C) (i4 f fa):=by
 intro B X H Z ω ρ Q s j w;show c B X H Z ω ρ _ s j (w.bind.imp λxs Y ω1 U e1 b a o h=>?_);unfold sQ at a;cases n:aA (sh ω1) xs with
 |none=>rw[n]at a;let(ds,l,a):=a.W5;let(m,g,a):=a.W5;show i noO U o ds m Q Et (cW (R:=YI (ow B Y ω1) K U Y) (λv x y r e=>DV.x (kR b 6 r e)) h l) g (F6 b a)
 |some ds=>rw[n]at a;let(m,g,a):=a.W5;show i _ U o ds m Q b.noO (cW (R:=YI (ow B Y ω1) K U Y) (λv x y r e=>DD b r e) h n) g (GJ b a)
end
section
variable{B O O':bG}{K:lD}{E:XK}{H H' N M:Hp}{Z L U T:bg V5}{ω X ω1 Y:aP}{S:L2.St}{ρ:aW}{v:V}
theorem zw:∀{c:G V} {xs:G β} {i:Nat} {x:β},Paired f c xs->xs[i]?=cL x->∃v,c[i]?=cL v/\f v x
 |_,_,_,_,.nil,e=>by simp at e
 |_,_,0,_,.cons h _,e=>by simp_all
 |_,_,i+1,x,.cons _ t,e=>by let(v,b,a):=zw t (by simpa using e);simp_all
def Nu{b:G V}(h:Paired a b xs)(e:lz xs i=cL x):∃v,lz b i=cL v/\a v x:=by
 unfold lz at e⊢;rw[h.length];cases q:IJ xs.length i with
 |none=>simp_all
 |some j=>rw[q]at e;show zw h e
def Hi:SV->z Int
 |.fz (.int i)=>cL i
 |_=>R
def AM(e:Hi x=cL i)(h:YI O K H Z v x):v=.int i:=by
 unfold Hi at e;split at e
 .ext e;ext h;rfl
 .ext e
def QK(x y:SV)(ω:aP):RS SV:=match x with
 |.fz _=>pL aX x y ω
 |.rf j=>(match ω[j]? with
  |some (.lst xs)=>(RS.W5 ω (Hi y)).bind λi ω1=>RS.W5 ω1 (lz xs i)
  |_=>.bad)
 |.tp l=>(RS.W5 ω (Hi y)).bind λi ω1=>RS.W5 ω1 ((lz l i).map AV.sv)
def gf(b a:c8):c8:=λρ ω=>(b ρ ω).bind λx ω1=>(a ρ ω1).bind λy Y=>QK x y Y
def Qu(k:cb K E ta fa)(C:cb K E tb fb):cb K E (IC (Sf K) ta tb) (gf fa fb):=by
 intro B S H Z ω ρ Q s r w;show k B S H Z ω ρ _ s r (w.bind.imp λx U ω1 N e1 A t v e=>?_);show C B S N U ω1 ρ _ A (r.Yl e1) (t.bind.imp λy T Y M e2 f b u n=>?_);let e:=e.Yl e2;unfold QK at b;cases x with
 |fz d=>show En EW f e n b
 |rf j=>
  let(a,k,rfl):=e;dsimp only at b;cases q:Y[j]? with
  |none=>rw[q]at b;show b.elim
  |some c=>
   rw[q]at b;cases c with
   |lst xs=>
    let(i,h,b):=WS.W5 b;cases J:lz xs i with
    |none=>rw[J]at b;show b.elim
    |some x=>rw[J]at b;let(vs,p,o):=f.cel j a _ k q;let(z,m,g):=Nu o J;show .inl #[a,vs,i,z,W,AM h n,ZV.of p,m,WS.now f b z g]
   |_=>show b.elim
 |tp l=>
  let(a,xs,rfl,p,o):=e;let(i,h,b):=WS.W5 b;cases J:lz l i with
  |none=>rw[J]at b;show b.elim
  |some x=>rw[J]at b;let(z,m,g):=Nu o J;show .inr (.inl #[a,xs,i,z,W,AM h n,p.1,m,WS.now f b z (by ext x<;>show g)])
def IZ(h:Lv Z (ω.set i .dead) b):Lv Z ω b:=by
 let(j,c,f,a,e):=h;rcases bQ a with⟨rfl,rfl⟩|⟨_,a⟩
 .simp_all
 .show#[j,c,f,a,e]
theorem XX.kill:XX Z ω H Z (ω.set i .dead) H:=#[λ_ _ h=>h,λ_ _ h _=>h,λ_ h=>.inl (IZ h)]
def WM.kill(s:WM B K H Z ω)(i:Nat):WM B K H Z (ω.set i .dead):=by
 let e:XX Z ω H Z (ω.set i .dead) H:=XX.kill;show#[by rw[Xh];show s.len,s.nd,s.bn,s.ba,s.al,λj b d g a=>?_];rcases bQ a with⟨rfl,rfl⟩|⟨f,a⟩
 .show trivial
 .show(s.cel j b d g a).ev e.ev e.pre λu q=>q
def WM.afI(s:WM B K H Z ω)(d:Z[i]?=cL a):¬ow B Z (ω.set i .dead) a:=by
 rintro(z|⟨j,c,g,f,e⟩)
 .show s.aeW d z
 .let:=s.nd j i a g d
  subst this;rcases bQ f with⟨_,rfl⟩|⟨b,_⟩
  .show e W
  .show b W
def ju(g:aP->SV->z (D×aP)):aP->G SV->z (G D×aP)
 |ω,[]=>cL ([],ω)
 |ω,x::r=>match g ω x with
  |some (d,ω1)=>(match ju g ω1 r with
   |some (ds,Y)=>cL (d::ds,Y)
   |none=>R)
  |none=>R
def frz:Nat->aP->SV->z (D×aP)
 |_,ω,.fz d=>cL (d,ω)
 |0,_,_=>R
 |n+1,ω,.rf i=>match ω[i]? with
  |some (.lst xs)=>(match ju (frz n) ω xs with
   |some (ds,ω1)=>cL (.list ds,ω1.set i .dead)
   |none=>R)
  |_=>R
 |n+1,ω,.tp l=>match ju (frz n) ω (l.map AV.sv)with
  |some (ds,ω1)=>cL (.tuple ds,ω1)
  |none=>R
theorem uZ(a:∀{ω X:aP} {v:V} {x:SV} {d:D},WM B K H Z ω->YI (ow B Z ω) K H Z v x->g ω x=cL (d,X)->WM B K H Z X/\XX Z ω H Z X H/\L3.DV (ow B Z X) K H v d):
  ∀{c:G V} {xs:G SV} {ds:G D} {ω X:aP},WM B K H Z ω->Yv (ow B Z ω) K H Z c xs->ju g ω xs=cL (ds,X)->WM B K H Z X/\XX Z ω H Z X H/\L3.XU (ow B Z X) K H c ds
 |_,_,_,ω,X,s,.nil,e=>by ext e;show#[s,.refl,.nil]
 |_,_,_,ω,X,s,.cons (b:=x) (l₂:=xs) r t,e=>by
  unfold ju at e;cases q:g ω x with
  |none=>simp_all
  |some p=>
   let(d,ω1):=p;rw[q]at e;dsimp only at e;let(h,e1,l):=a s r q;cases m:ju g ω1 xs with
   |none=>simp_all
   |some i=>let(ds,Y):=i;rw[m]at e;ext e;let(f,e2,j):=uZ a h (Yv.Yl e1 t) m;show#[f,e1.trans e2,.cons (l.ev e2.ev) j]
theorem uP:∀{a:G V} {l:G AV},Paired (AOk O K H Z) a l->Yv O K H Z a (l.map AV.sv)
 |_,_,.nil=>.nil
 |_,_,.cons (b:=x) h t=>.cons (by ext x<;>show h) (uP t)
theorem uO:∀(n:Nat) {ω X:aP} {v:V} {x:SV} {d:D},WM B K H Z ω->YI (ow B Z ω) K H Z v x->frz n ω x=cL (d,X)->WM B K H Z X/\XX Z ω H Z X H/\L3.DV (ow B Z X) K H v d
 |n,ω,X,v,.fz t,d,s,h,e=>by
  let m:cL (t,ω)=cL (d,X):=by ext n<;>show e
  ext m;show#[s,.refl,h]
 |0,_,_,v,.rf i,d,s,h,e=>by ext e
 |0,_,_,v,.tp l,d,s,h,e=>by ext e
 |n+1,ω,X,v,.rf i,d,s,h,e=>by
  let(a,r,rfl):=h;unfold frz at e;cases q:ω[i]? with
  |none=>simp_all
  |some c=>
   rw[q]at e;cases c with
   |lst xs=>
    dsimp only at e;let(u,g,f):=s.cel i a _ r q;cases o:ju (frz n) ω xs with
    |none=>simp_all
    |some p=>let(ds,ω1):=p;rw[o]at e;ext e;let(b,e1,j):=uZ (λs h e=>uO n s h e) s f o;show#[b.kill i,e1.trans XX.kill,vt g (b.afI r) (j.ev (XX.kill).ev)]
   |_=>ext e
 |n+1,ω,X,v,.tp l,d,s,h,e=>by
  let(a,xs,rfl,g,f):=h;unfold frz at e;cases o:ju (frz n) ω (l.map AV.sv)with
  |none=>simp_all
  |some p=>let(ds,ω1):=p;rw[o]at e;ext e;let(b,e1,j):=uZ (λs h e=>uO n s h e) s (uP f) o;show#[b,e1,.tup (g.ev e1.ev) j]
def Mv(x:SV)(ω:aP):RS SV:=match frz 4 ω x with
 |some (d,ω1)=>.ok (.fz d) ω1
 |none=>.bad
def ke(f:c8):c8:=λρ ω=>(f ρ ω).bind λx ω1=>Mv x ω1
def uM(h:cb K E t f):cb K E t (ke f):=by
 intro B S H Z ω ρ Q s b w;show h B S H Z ω ρ _ s b (w.bind.imp λx U ω1 N e1 g a v i=>?_);unfold Mv at a;cases q:frz 4 ω1 x with
 |none=>rw[q]at a;show a.elim
 |some p=>let(d,Y):=p;rw[q]at a;let(e,e2,j):=uO 4 g i q;show a U N e2 e v j
def XOk.sub(h:∀b,O' b->O b)(k:XOk K O H c dx x):XOk K O' H c dx x:=by let(i,fs,g,a):=k;show#[i,fs,g,λf d e=>let#[g1,v,g2,g3]:=a f d e;#[g1,v,g2,g3.ev (Ev.sub h)]]
def xz(F:FN)(n:Nat)(xs:G SV)(ω:aP):RS SV:=if xs.length=n then(match aA yl xs with
 |some ds=>(match F ds with
  |.ok a=>lP ω a
  |.er x=>.er x ω
  |.bad=>.bad)
 |none=>(RS.W5 ω (aA (pd 6 ω) xs)).bind λds ω1=>(match F ds with
  |.ok a=>o0 ω1 a
  |_=>.bad))else .bad
def gz:RS A->RS A
 |.er _ _=>.bad
 |r=>r
def iY(F:FN)(n:Nat)(a:ww):c8:=λρ ω=>(a ρ ω).bind λxs ω1=>gz (xz F n xs ω1)
def WS.e0(h:WS K E B H Z ω b (gz r)):WS K E0 B H Z ω b r:=by
 cases r with
 |ok a ω=>show h
 |er x ω=>show h.elim
 |bad=>show h
def JY(s:WM B K H Z ω)(b:Yv (ow B Z ω) K H Z o xs)(w:WS K E B H Z ω (PQ B K Q) (xz F n xs ω)):CM K n F o H Q E:=by
 unfold xz at w;by_cases hn:xs.length=n
 .rw[ax hn]at w
  show#[b.length.trans hn,?_];cases q:aA yl xs with
  |some ds=>
   rw[q]at w;show#[ow B Z ω,ds,s.owd,mv (cW (R:=YI (ow B Z ω) K H Z) (λv x y r e=>zz r e) b q),?_];dsimp only at w;cases g:F ds with
   |ok h=>rw[g]at w;show GJ s w
   |er x=>rw[g]at w;show λc i H' e k=>w c i Z H' (XX.same e) (s.grow e) k
   |bad=>rw[g]at w;show w.elim
  |none=>
   rw[q]at w;let(ds,f,w):=WS.W5 w;show#[noO,ds,λa z=>z.elim,mv (cW (R:=YI (ow B Z ω) K H Z) (λv x y r e=>kR s 6 r e) b f),?_];cases g:F ds with
   |ok h=>rw[g]at w;show F6 s w
   |er x=>rw[g]at w;show w.elim
   |bad=>rw[g]at w;show w.elim
 .rw[aE hn]at w;show w.elim
def KH(c:ut K E o C):cb K E (kF (CM K n F) [] E0 o) (iY F n C):=by intro B S H Z ω ρ Q s b w;show c B S H Z ω ρ _ s b (w.bind.imp λxs U ω1 N e1 e a g f=>?_);rw[WL];show JY e f (WS.e0 a)
abbrev fD:=G SV->aP->RS SV
def kh(K:lD)(n:Nat)(F:fD):Sp:=λa H Q E=>a.length=n/\∃(B:bG) (Z:G V5) (ω:aP) (xs:G SV),WM B K H Z ω/\Yv (ow B Z ω) K H Z a xs/\WS K E B H Z ω (PQ B K Q) (F xs ω)
def Mz(F:fD)(n:Nat)(a:ww):c8:=λρ ω=>(a ρ ω).bind λxs ω1=>if xs.length=n then F xs ω1 else .bad
def j6(F:fD)(n:Nat)(a:ww):c8:=λρ ω=>(a ρ ω).bind λxs ω1=>if xs.length=n then gz (F xs ω1)else .bad
def HG(c:ut K E o C):cb K E (kF (kh K n F) [] E o) (Mz F n C):=by
 intro B S H Z ω ρ Q s e w;show c B S H Z ω ρ _ s e (w.bind.imp λxs U ω1 N e1 f a g b=>?_);rw[WL];by_cases hn:xs.length=n
 .rw[ax hn]at a;show#[b.length.trans hn,B,U,ω1,xs,f,b,a]
 .rw[aE hn]at a;show a.elim
def B5(c:ut K E o C):cb K E (kF (kh K n F) [] E0 o) (j6 F n C):=by
 intro B S H Z ω ρ Q s e w;show c B S H Z ω ρ _ s e (w.bind.imp λxs U ω1 N e1 f a g b=>?_);rw[WL];by_cases hn:xs.length=n
 .rw[ax hn]at a;show#[b.length.trans hn,B,U,ω1,xs,f,b,WS.e0 a]
 .rw[aE hn]at a;show a.elim
def lJ(ω:aP)(C m:Str):SV->Bool
 |.rf i=>match ω[i]? with
  |some (.obj D fs)=>decide (D=C)&&(fs.lookup m).isNone
  |_=>I
 |_=>I
def jH(C m:Str)(F:fD)(n:Nat)(a:c8)(b:ww):c8:=λρ ω=>(a ρ ω).bind λx ω1=>if lJ ω1 C m x=P then(b ρ ω1).bind λxs Y=>(if(x::xs).length=n then F (x::xs) Y else .bad)else .bad
def aL(C m:Str)(F:fD)(n:Nat)(a:c8)(b:ww):c8:=λρ ω=>(a ρ ω).bind λx ω1=>if lJ ω1 C m x=P then(b ρ ω1).bind λxs Y=>(if(x::xs).length=n then gz (F (x::xs) Y)else .bad)else .bad
def DH(f:WC K Wr C=cL (cL (.ref J)))(s:WM B K H Z ω)(b:YI (ow B Z ω) K H Z v x)(h:lJ ω C m x=P):∃a k fs,v=.ref a/\H a=cL (.ins J k fs)/\fs.lookup m=R:=by
 cases x with
 |fz d=>ext h
 |tp l=>ext h
 |rf i=>
  let(a,r,rfl):=b;unfold lJ at h;dsimp only at h;cases q:ω[i]? with
  |none=>simp_all
  |some c=>
   rw[q]at h;cases c with
   |obj D fs=>rw[VZ]at h;let(j,g):=h;let e:=a6 j;subst e;let(p,k,ws,g0,o,n):=s.cel i a _ r q;rw[f]at g0;ext g0;show#[a,k,ws,W,o,CO n (abm.mp g)]
   |_=>ext h
def EA(q:WC K Wr C=cL (cL (.ref Ca)))(p:cb K E to fo)(c:ut K E J fa):cb K E (tZ Ca m (kh K n F) [] E to J) (jH C m F n fo fa):=by
 intro B S H Z ω ρ Q s g w;show p B S H Z ω ρ _ s g (w.bind.imp λx U ω1 N e1 i e v j=>?_);by_cases h:lJ ω1 C m x=P
 .rw[ax h]at e
  let(a,y,fs,rfl,t,r):=DH q i j h;show#[a,y,fs,W,t,r,?_];show c B S N U ω1 ρ _ i (g.Yl e1) (e.bind.imp λxs T Y M e2 o b u f=>?_);rw[WL];let l:Yv (ow B T Y) K M T (.ref a::u) (x::xs):=.cons (j.Yl e2) f;by_cases hn:(x::xs).length=n
  .rw[ax hn]at b;show#[l.length.trans hn,B,T,Y,_,o,l,b]
  .rw[aE hn]at b;show b.elim
 .rw[aE h]at e;show e.elim
def Cd(q:WC K Wr C=cL (cL (.ref Ca)))(p:cb K E to fo)(c:ut K E J fa):cb K E (tZ Ca m (kh K n F) [] E0 to J) (aL C m F n fo fa):=by
 intro B S H Z ω ρ Q s g w;show p B S H Z ω ρ _ s g (w.bind.imp λx U ω1 N e1 i e v j=>?_);by_cases h:lJ ω1 C m x=P
 .rw[ax h]at e
  let(a,y,fs,rfl,t,r):=DH q i j h;show#[a,y,fs,W,t,r,?_];show c B S N U ω1 ρ _ i (g.Yl e1) (e.bind.imp λxs T Y M e2 o b u f=>?_);rw[WL];let l:Yv (ow B T Y) K M T (.ref a::u) (x::xs):=.cons (j.Yl e2) f;by_cases hn:(x::xs).length=n
  .rw[ax hn]at b;show#[l.length.trans hn,B,T,Y,_,o,l,WS.e0 b]
  .rw[aE hn]at b;show b.elim
 .rw[aE h]at e;show e.elim
def CY:SV->Bool
 |.fz .none=>P
 |_=>I
def tU(C:Str)(F:fD)(n:Nat)(xs:G SV)(ω:aP):RS SV:=if(SV.rf ω.length::xs).length=n then(F (.rf ω.length::xs) (ω++[.obj C []])).bind λr Y=>(if CY r=P then .ok (.rf ω.length) Y else .bad)else .bad
def yT(C:Str)(F:fD)(n:Nat)(a:ww):c8:=λρ ω=>(a ρ ω).bind λxs ω1=>tU C F n xs ω1
def qU(C:Str)(F:fD)(n:Nat)(a:ww):c8:=λρ ω=>(a ρ ω).bind λxs ω1=>gz (tU C F n xs ω1)
def KL(h:CY x=P)(a:YI O K H Z v x):v=.Yf:=by
 unfold CY at h;split at h
 .ext a;rfl
 .ext h
def Ff(q:WC K Wr C=cL (cL (.ref J)))(s:WM B K H Z ω)(p:Yv (ow B Z ω) K H Z vs xs)(w:WS K E B H Z ω (PQ B K Q) (tU C F n xs ω)):
  ∀x c,H x=R->H c=R->c≠x->kh K n F (.ref x::(vs++[])) (a8 (a8 H c (.own x)) x (.ins J c [])) (λv M=>v=.Yf/\Q (.ref x) M) E:=by
 intro x c f i h;rw[WL];unfold tU at w;let j:XQ H (a8 (a8 H c (.own x)) x (.ins J c [])):=(bM i _).trans (bM (by rw[aw (λz=>h z.symm)];show f) _);let e:XX Z ω H (Z++[x]) (ω++[.obj C []]) (a8 (a8 H c (.own x)) x (.ins J c [])):=XX.acp s.len j f;let o:WM B K (a8 (a8 H c (.own x)) x (.ins J c [])) (Z++[x]) (ω++[.obj C []]):=s.acp j f (by rw[aI];simp) #[J,c,[],q,aI,.nil];let a:∀{L:G V5} {X:aP} {H':Hp},XX (Z++[x]) (ω++[.obj C []]) (a8 (a8 H c (.own x)) x (.ins J c [])) L X H'->YI (ow B L X) K H' L (.ref x) (.rf ω.length):=λe=>#[x,e.pre _ _ (by rw[<-s.len];show aK),W];by_cases hn:(SV.rf ω.length::xs).length=n
 .rw[ax hn]at w
  let l:Yv (ow B (Z++[x]) (ω++[.obj C []])) K (a8 (a8 H c (.own x)) x (.ins J c [])) (Z++[x]) (.ref x::vs) (.rf ω.length::xs):=.cons (a .refl) (Yv.Yl e p);show#[l.length.trans hn,B,_,_,_,o,l,?_];show WS.imp (WS.from e w.bind) λr T Y M e2 m b v g=>?_;by_cases z:CY r=P
  .rw[ax z]at b;show#[KL z g,WS.now m b _ (a e2)]
  .rw[aE z]at b;show b.elim
 .rw[aE hn]at w;show w.elim
def JL(g:WC K Wr C=cL (cL (.ref Ca)))(c:ut K E o J):cb K E (wT Ca (kh K n F) [] E o) (yT C F n J):=by intro B S H Z ω ρ Q s b w;show c B S H Z ω ρ _ s b (w.bind.imp λxs U ω1 N e1 e a h f=>?_);show Ff g e f a
def Gg(g:WC K Wr C=cL (cL (.ref Ca)))(c:ut K E o J):cb K E (wT Ca (kh K n F) [] E0 o) (qU C F n J):=by intro B S H Z ω ρ Q s b w;show c B S H Z ω ρ _ s b (w.bind.imp λxs U ω1 N e1 e a h f=>?_);show Ff g e f (WS.e0 a)
def ig(ω:aP):SV->z (Nat×G SV)
 |.rf i=>match ω[i]? with
  |some (.lst xs)=>cL (i,xs)
  |_=>R
 |_=>R
def A5(s:WM B K H Z ω)(b:YI (ow B Z ω) K H Z v x)(h:ig ω x=cL (i,xs)):ω[i]?=cL (.lst xs)/\∃a k,Z[i]?=cL a/\v=.ref a/\H a=cL (.lst k)/\Yv (ow B Z ω) K H Z k xs:=by
 cases x with
 |fz d=>ext h
 |tp l=>ext h
 |rf j=>
  let(a,n,rfl):=b;unfold ig at h;dsimp only at h;cases q:ω[j]? with
  |none=>simp_all
  |some c=>
   rw[q]at h;cases c with
   |lst m=>let e:=Wm h;ext e;let(k,g,f):=s.cel i a _ n q;show#[q,a,k,n,W,g,f]
   |_=>ext h
def Ae(h:Paired e o xs)(r:e v x):Paired e (o++[v]) (xs++[x]):=by
 induction h with
 |nil=>show .cons r .nil
 |cons a _ b=>show .cons a b
def jB(b c:c8):c8:=λρ ω=>(b ρ ω).bind λo ω1=>(RS.W5 ω1 (ig ω1 o)).bind λ_ ω1=>(c ρ ω1).bind λx Y=>(RS.W5 Y (ig Y o)).bind λp a=>
 if p.2.length<1000000 then .ok (.fz .none) (a.set p.1 (.lst (p.2++[x])))else .bad
def K0(F:cb K E to fo)(G:cb K E te fe):cb K E (Ol K "list" vG to (d6 te g6)) (jB fo fe):=by
 intro B S H Z ω ρ Q s j w;show F B S H Z ω ρ _ s j (w.bind.imp λo U ω1 N e1 m e v n=>?_);let((P,y),A,e):=WS.W5 e;let(_,t,f,_,rfl,g0,_):=A5 m n A;show#[.inl #[W,f,ZV.of g0],?_];show G B S N U ω1 ρ _ m (j.Yl e1) (e.bind.imp λx T Y M e2 l b u C=>?_);let((i,xs),q,b):=WS.W5 b;let(g,a,vs,ha,J,I,p):=A5 l (n.Yl e2) q;ext J;dsimp only at b;by_cases hn:xs.length<1000000
 .rw[ax hn]at b;let ev:Ev (ow B T Y) M (ow B T Y) (a8 M t (.lst (vs++[u]))):=oO ha g (by nofun);show#[t,vs,u,W,W,I,qK (by rw[p.length];show hn),?_];show b T _ (XX.put ha g (by nofun) (by nofun)) (l.put ha g (by nofun) (by nofun) #[_,aI,Ae (Paired.Zt p λ_ _ r=>r.ev ev λ_ _ h=>h) (C.ev ev λ_ _ h=>h)]) _ .Yf
 .rw[aE hn]at b;show b.elim
end
inductive FlS where
 |nx (ρ:aW)
 |bk (ρ:aW)
 |ct (ρ:aW)
 |rt (x:SV)
abbrev dX:=aW->aP->RS FlS
abbrev wZ:=SV->aW->aP->RS aW
abbrev Dq:=G SV->aW->aP->RS aW
def x9(B:bG)(K:lD)(D:Ends):FlS->G U->aP->Hp->Prop
 |.nx b,α,a,H=>∀σ,YB (ow B α a) K H α σ b->D.nx σ H
 |.bk b,α,a,H=>∀σ,YB (ow B α a) K H α σ b->D.bk σ H
 |.ct b,α,a,H=>∀σ,YB (ow B α a) K H α σ b->D.ct σ H
 |.rt x,α,a,H=>∀v,YI (ow B α a) K H α v x->D.rt v H
def pO(K:lD)(E:XK)(t:TS)(g:dX):Prop:=
 ∀(B:bG) (a:L2.St) (H:Hp) (α:G U) (b:aP) (e:aW) (D:Ends),WM B K H α b->YB (ow B α b) K H α a e->WS K E B H α b (x9 B K D) (g e b)->t D a H
def EL(K:lD)(E:XK)(g:TG)(f:wZ):Prop:=
 ∀(B:bG) (h:L2.St) (H:Hp) (α:G U) (j:aP) (m:aW) (v:V) (x:SV) (Q:L2.St->Hp->Prop),WM B K H α j->YB (ow B α j) K H α h m->YI (ow B α j) K H α v x->WS K E B H α j (λe a b i=>∀l,YB (ow B a b) K i a l e->Q l i) (f x m j)->g v h H Q
def Iq(K:lD)(E:XK)(g:zx)(f:Dq):Prop:=
 ∀(B:bG) (h:L2.St) (H:Hp) (α:G U) (j:aP) (m:aW) (n:G V) (xs:G SV) (Q:L2.St->Hp->Prop),WM B K H α j->YB (ow B α j) K H α h m->Yv (ow B α j) K H α n xs->WS K E B H α j (λe a b i=>∀l,YB (ow B a b) K i a l e->Q l i) (f xs m j)->g n h H Q
section
variable{B O O':bG}{K:lD}{E:XK}{H H' S P:Hp}{X M U Y:bg V5}{ω N ω1 Z:aP}{T:L2.St}{ρ:aW}{v:V}
def YB.set(a:YB O K H X T ρ)(h:YI O K H X v x):YB O K H X (T.set i (cL v)) (ρ.set i (cL x)):=by
 show#[by rw[Xh,Xh];show a.1,λj y g=>?_];rcases bQ g with⟨rfl,e⟩|⟨f,b⟩
 .ext e;show#[v,?_,h];rw[Xb];let:=v8 g;rw[a.1];show this
 .let(u,m,l):=a.2 j y b;show#[u,by rw[W6 (λz=>f z.symm)];show m,l]
def cT(i:Nat):wZ:=λx ρ ω=>.ok (ρ.set i (cL x)) ω
theorem mL:EL K E (mI i) (cT i):=λB T H X ω ρ v x Q s a h w=>WS.now s w _ (a.set h)
def zb:Dq:=λxs ρ ω=>match xs with
 |[]=>.ok ρ ω
 |_=>.bad
def pB(f:wZ)(g:Dq):Dq:=λxs ρ ω=>match xs with
 |x::r=>(f x ρ ω).bind λa ω1=>g r a ω1
 |[]=>.bad
def Kc:Iq K E KR zb:=by
 intro B T H X ω ρ b xs Q s a h w;cases h with
 |nil=>show#[W,WS.now s w _ a]
 |cons _ _=>show w.elim
def HV(p:EL K E t f)(o:Iq K E u g):Iq K E (A7 t u) (pB f g):=by
 intro B T H X ω ρ q xs Q s m h w;cases h with
 |nil=>show w.elim
 |cons a b=>show#[_,_,W,p B T H X ω ρ _ _ _ s m a (WS.imp (WS.bind w) λi U ω1 S e1 n l e j=>?_)];show o B e S U ω1 i _ _ _ n j (Yv.Yl e1 b) l
def Hm:SV->z (G SV)
 |.fz (.tuple ds)=>cL (ds.map .fz)
 |.tp l=>cL (l.map AV.sv)
 |_=>R
def Qs(h:YI O K H X v x)(e:Hm x=cL xs):∃a c,v=.ref a/\Z4 O K H a c/\Yv O K H X c xs:=by
 unfold Hm at e;split at e
 .ext e
  cases h with
  |tup h f=>show#[_,_,W,h,j4 _ _ f]
 .ext e;let(a,b,rfl,i,g):=h;show#[a,b,W,i,uP g]
 .ext e
def Oh(n:Nat)(f:Dq):wZ:=λx ρ ω=>(RS.W5 ω (Hm x)).bind λxs ω1=>if xs.length=n then f xs ρ ω1 else .bad
def J4(h:Iq K E t f):EL K E (Ln K n t) (Oh n f):=by
 intro B T H X ω ρ v x Q s e g w;let(xs,q,w):=WS.W5 w;let(a,j,rfl,i,b):=Qs g q;by_cases hn:xs.length=n
 .rw[ax hn]at w;show#[a,j,W,i.1,b.length.trans hn,h B T H X ω ρ j xs Q s e b w]
 .rw[aE hn]at w;show w.elim
def cJ:dX:=λρ ω=>.ok (.nx ρ) ω
def aG(f g:dX):dX:=λρ ω=>(f ρ ω).bind λa ω1=>match a with
 |.nx b=>g b ω1
 |a=>.ok a ω1
def bc(f:c8):dX:=λρ ω=>(f ρ ω).bind λ_ ω1=>.ok (.nx ρ) ω1
def b8(f:c8)(g:wZ):dX:=λρ ω=>(f ρ ω).bind λx ω1=>(g x ρ ω1).bind λa Z=>.ok (.nx a) Z
def bZ(c:rG)(f g:dX):dX:=λρ ω=>(c ρ ω).bind λb ω1=>if b=V0 then f ρ ω1 else g ρ ω1
def fK(f:c8):dX:=λρ ω=>(f ρ ω).bind λx ω1=>.ok (.rt x) ω1
def rp:dX:=λ_ ω=>.ok (.rt (.fz .none)) ω
theorem E1:pO K E FY cJ:=λB T H X ω ρ D s a w=>WS.now s w T a
theorem Ef:pO K E Nh rp:=λB T H X ω ρ D s a w=>WS.now s w .Yf .Yf
def Jh(m:pO K E t f)(l:pO K E u g):pO K E (F7 t u) (aG f g):=by
 intro B T H X ω ρ D s j w;show m B T H X ω ρ {D with nx:=u D} s j (WS.imp (WS.bind w) λn U ω1 S e1 e b=>?_);cases n with
 |nx a=>show λh i=>l B h S U ω1 a D e i b
 |rt x=>show WS.now (E:=E) e b
 |bk a=>show WS.now (E:=E) e b
 |ct a=>show WS.now (E:=E) e b
def Fe(h:cb K E t f):pO K E (xx t) (bc f):=by intro B T H X ω ρ D s a w;show h B T H X ω ρ _ s a (WS.imp (WS.bind w) λx U ω1 S e1 e b v g=>WS.now e b T (a.Yl e1))
def vU(h:cb K E t f)(p:EL K E g C):pO K E (zX t g) (b8 f C):=by intro B T H X ω ρ D s e w;show h B T H X ω ρ _ s e (WS.imp (WS.bind w) λx U ω1 S e1 n l v o=>?_);show p B T S U ω1 ρ v x _ n (e.Yl e1) o (WS.imp (WS.bind l) λi Y Z P e2 m j a b=>WS.now m j a b)
def Oq(i:sY K E c o)(l:pO K E t f)(j:pO K E u g):pO K E (IV c t u) (bZ o f g):=by
 intro B T H X ω ρ D s a w;show i B T H X ω ρ _ s a (WS.imp (WS.bind w) λb U ω1 S e1 h e=>?_);cases b with
 |true=>show l B T S U ω1 ρ D h (a.Yl e1) e
 |false=>show j B T S U ω1 ρ D h (a.Yl e1) e
def Kv(h:cb K E t f):pO K E (ML t) (fK f):=by intro B T H X ω ρ D s b w;show h B T H X ω ρ _ s b (WS.imp (WS.bind w) λx U ω1 S e1 e a v g=>WS.now e a v g)
def fH(f:Str)(x:SV):G (Str×SV)->G (Str×SV)
 |[]=>[(f,x)]
 |(g,y)::r=>if g=f then(g,x)::r else(g,y)::fH f x r
def N9(h:YI O K H X v x):∀{ws:G (Str×V)} {fs:G (Str×SV)},Paired (λ(p:Str×V) (q:Str×SV)=>p.1=q.1/\YI O K H X p.2 q.2) ws fs->Paired (λ(p:Str×V) (q:Str×SV)=>p.1=q.1/\YI O K H X p.2 q.2) (iW f v ws) (fH f x fs):=by
 intro ws fs p
 induction p with
 |nil=>show .cons #[W,h] .nil
 | @cons a b _ _ q t j=>
  let(g,u):=a;let(i,y):=b;let(e,k):=q;ext e;unfold iW fH;by_cases z:g=f
  .rw[ax z,ax z];show .cons #[W,h] t
  .rw[aE z,aE z];show .cons #[W,k] j
def Hz(ω:aP)(C:Str):SV->z (Nat×G (Str×SV))
 |.rf i=>match ω[i]? with
  |some (.obj D fs)=>if D=C then cL (i,fs)else R
  |_=>R
 |_=>R
def RK(s:WM B K H X ω)(b:YI (ow B X ω) K H X v x)(h:Hz ω C x=cL (i,fs)):ω[i]?=cL (.obj C fs)/\∃a k n ws,X[i]?=cL a/\v=.ref a/\WC K Wr C=cL (cL (.ref k))/\H a=cL (.ins k n ws)/\Paired (λ(p:Str×V) (q:Str×SV)=>p.1=q.1/\YI (ow B X ω) K H X p.2 q.2) ws fs:=by
 cases x with
 |fz d=>ext h
 |tp l=>ext h
 |rf j=>
  let(a,o,rfl):=b;unfold Hz at h;dsimp only at h;cases q:ω[j]? with
  |none=>simp_all
  |some c=>
   rw[q]at h;cases c with
   |obj D gs=>
    dsimp only at h;by_cases z:D=C
    .subst z;rw[ax W]at h;let e:=Wm h;ext e;let(k,n,ws,m,g,f):=s.cel i a _ o q;show#[q,a,k,n,ws,o,W,m,g,f]
    simp_all
   |_=>ext h
def dM(C f:Str)(b c:c8):dX:=λρ ω=>(c ρ ω).bind λx ω1=>(b ρ ω1).bind λo Z=>(RS.W5 Z (Hz Z C o)).bind λp a=>if p.2.length<100 then .ok (.nx ρ) (a.set p.1 (.obj C (fH f x p.2)))else .bad
def Kz(I:lx K C L)(F:f∈L)(A:cb K E to fo)(G:cb K E te fe):pO K E (Q8 K to te f) (dM C f fo fe):=by
 intro B T H X ω ρ D s g w;show G B T H X ω ρ _ s g (WS.imp (WS.bind w) λx U ω1 S e1 t p v y=>?_);show A B T S U ω1 ρ _ t (g.Yl e1) (WS.imp (WS.bind p) λo Y Z P e2 l b u z=>?_);let((i,fs),q,b):=WS.W5 b;let(j,a,e,dx,ws,ha,rfl,n,J,m):=RK l z q;let(Cb,g0,R,Q):=I;rw[n]at g0;ext g0;dsimp only at b;by_cases hn:fs.length<100
 .rw[ax hn]at b;let ev:Ev (ow B Y Z) P (ow B Y Z) (a8 P a (.ins e dx (iW f v ws))):=oO ha j (by simp_all);let e3:XX Y Z P Y (Z.set i (.obj C (fH f x fs))) (a8 P a (.ins e dx (iW f v ws))):=XX.put ha j (by simp_all) (by simp_all);let hl:=Paired.length m;show#[a,e,dx,ws,W,J,R,Q f F,by ext,?_];show b Y _ e3 (l.put ha j (by simp_all) (by simp_all) #[e,dx,_,n,aI,N9 ((y.Yl e2).ev ev λ_ _ h=>h) (Paired.Zt m λ_ _ r=>#[r.1,r.2.ev ev λ_ _ h=>h])]) T ((g.Yl (e1.trans e2)).Yl e3)
 .rw[aE hn]at b;show b.elim
abbrev IP:=aW->aP->RS (G D)
def P2(K:lD)(E:XK)(b:TI)(e:IP):Prop:=
 ∀(B:bG) (T:L2.St) (H:Hp) (X:G V5) (ω:aP) (ρ:aW) (a:It->Hp->Prop),WM B K H X ω->YB (ow B X ω) K H X T ρ->WS K E B H X ω (λds M N H'=>∀J,zJ K J (ow B M N) H' ds->a J H') (e ρ ω)->b T H a
def ei(f:FI):IP:=λρ ω=>match f (bj ρ)with
 |.ok (ds,_)=>.ok ds ω
 |.er x=>.er x ω
 |.bad=>.bad
def Gi(h:IO K E C f):P2 K E C (ei f):=by
 intro B T H X ω ρ j s g w;show h (ow B X ω) H (ow B X ω) T H (bj ρ) j (G9 s g) ?_;unfold ei at w;cases q:f (bj ρ)with
 |bad=>rw[q]at w;show w.elim
 |er x=>rw[q]at w;show λc m H' e k=>w c m X H' (XX.same e) (s.grow e) k
 |ok r=>let(ds,a):=r;rw[q]at w;show λO' J H' e R i=>w X H' (XX.same R.same) (s.grow R.same) J λl P e2 n=>i l P (λb o h z=>e2 b o h λy=>z (R.bo b y)) n
def ef(a:c8):IP:=λρ ω=>(a ρ ω).bind λx ω1=>(match frz 4 ω1 x with
 |some (d,Z)=>RS.W5 Z (eP d)
 |none=>.bad)
def JW(h:cb K E o C):P2 K E (DZ K o) (ef C):=by
 intro B T H X ω ρ l s f w;show h B T H X ω ρ _ s f (WS.imp (WS.bind w) λx U ω1 S e1 g a v i=>?_);cases q:frz 4 ω1 x with
 |none=>rw[q]at a;show a.elim
 |some p=>
  let(d,Z):=p;rw[q]at a;let(e,e2,j):=uO 4 g i q;dsimp only at a;cases m:eP d with
  |none=>rw[m]at a;show a.elim
  |some ds=>
   rw[m]at a;cases j with
   |tup h b=>ext m;show#[_,W,.inr #[#[_,h.1],a U S e2 e _ (HJ h b)]]
   |lst h b=>ext m;show#[_,W,.inl #[#[_,h.1.sq],a U S e2 e _ (Ap h b)]]
   |_=>ext m
def km(gt:wZ)(b:dX):G D->dX
 |[],ρ,ω=>.ok (.nx ρ) ω
 |d::r,ρ,ω=>(gt (.fz d) ρ ω).bind λa ω1=>(b a ω1).bind λe Z=>match e with
  |.nx f=>km gt b r f Z
  |.ct f=>km gt b r f Z
  |.bk f=>.ok (.nx f) Z
  |.rt x=>.ok (.rt x) Z
def uX(a:IP)(gt:wZ)(b:dX):dX:=λρ ω=>(a ρ ω).bind λds ω1=>km gt b ds ρ ω1
def Mp(c:P2 K E wi fi)(k:EL K E g gt)(hb:pO K E tb b):pO K E (My wi g tb) (uX fi gt b):=by
 intro B T H X ω ρ D s Q w;show c B T H X ω ρ _ s Q (WS.imp (WS.bind w) λds U ω1 S e1 s1 w1 J it=>?_);show#[λi m a H'=>m=ds.length - i/\i<=ds.length/\∃Y Z ρ2,XX U ω1 S Y Z H'/\WM B K H' Y Z/\YB (ow B Y Z) K H' Y a ρ2/\WS K E B H' Y Z (x9 B K D) (km gt b (ds.drop i) ρ2 Z),#[_,W,W8 _,U,ω1,ρ,.refl,s1,Q.Yl e1,w1],?_];rintro i m l P ⟨rfl,c,Y,Z,ρ2,e2,s2,sl2,w2⟩;let(go,o):=it (ow B Y Z) P e2.ev s2.noO;by_cases u:i<ds.length
 .let(g1,g2):=go i u
  show .inr #[g1,λa H'=>i+1<=ds.length/\∃Y Z ρ2,XX U ω1 S Y Z H'/\WM B K H' Y Z/\YB (ow B Y Z) K H' Y a ρ2/\WS K E B H' Y Z (x9 B K D) (km gt b (ds.drop (i+1)) ρ2 Z),λa H' #[h1,h2]=>#[ds.length - (i+1),by ext,W,h1,h2],λx L y=>?_];let(R,d,hd,dv):=g2 x L y;let ed:ds.drop i=d::ds.drop (i+1):=by let(_,q):=V2.mp hd;rw[Yx u,q]
  rw[ed]at w2;let e3:XX Y Z P Y Z L:=XX.same R;show k B l L Y Z ρ2 x (.fz d) _ (s2.grow R) (sl2.Yl e3) dv (WS.imp (WS.bind (WS.from e3 w2)) λF G z H4 e4 s4 w3 C I=>?_);show hb B C H4 G z F _ s4 I (WS.imp (WS.bind w3) λfl n j H5 e5 t r=>?_);let p:=e2.trans (e3.trans (e4.trans e5));cases fl with
  |nx f=>show λA h=>#[u,n,j,f,p,t,h,r]
  |ct f=>show λA h=>#[u,n,j,f,p,t,h,r]
  |bk f=>show WS.now (E:=E) t r
  |rt x=>show WS.now (E:=E) t r
 .let e:i=ds.length:=by ext
  subst e;rw[YL (Wa _)]at w2;show .inl #[o,WS.now s2 w2 l sl2]
def sP(c:rG)(b:dX):Nat->dX
 |0,_,_=>.bad
 |n+1,ρ,ω=>(c ρ ω).bind λk ω1=>if k=V0 then(b ρ ω1).bind λa Z=>match a with
  |.nx e=>sP c b n e Z
  |.ct e=>sP c b n e Z
  |.bk e=>.ok (.nx e) Z
  |.rt x=>.ok (.rt x) Z else .ok (.nx ρ) ω1
def lY(c:rG)(b:dX):dX:=sP c b 1000000
def Co(G:sY K E c fc)(I:pO K E tb b):pO K E (Il c tb) (lY fc b):=by
 intro B T H X ω ρ D s C w;show#[λm e H'=>∃Y Z a,XX X ω H Y Z H'/\WM B K H' Y Z/\YB (ow B Y Z) K H' Y e a/\WS K E B H' Y Z (x9 B K D) (sP fc b m a Z),#[_,X,ω,ρ,.refl,s,C,w],?_];rintro m g P ⟨Y,Z,a,e2,F,i,z⟩;cases m with
 |zero=>show z.elim
 |succ m=>
  show G B g P Y Z a _ F i (WS.imp (WS.bind z) λk y t L e3 A p=>?_);cases k with
  |true=>
   rw[ax W]at p⊢;show#[λe H'=>∃Y Z a,XX X ω H Y Z H'/\WM B K H' Y Z/\YB (ow B Y Z) K H' Y e a/\WS K E B H' Y Z (x9 B K D) (sP fc b m a Z),λe H' q=>#[m,Y1 m,q],?_];show I B g L y t a _ A (i.Yl e3) (WS.imp (WS.bind p) λJ l j Q e5 r o=>?_);let n:=e2.trans (e3.trans e5);cases J with
   |nx f=>show λu h=>#[l,j,f,n,r,h,o]
   |ct f=>show λu h=>#[l,j,f,n,r,h,o]
   |bk f=>show WS.now (E:=E) r o
   |rt x=>show WS.now (E:=E) r o
  |false=>rw[aE Wv]at p⊢;show WS.now A p g (i.Yl e3)
end
section
variable{B O O':bG}{K:lD}{E:XK}{H H' T M:Hp}{U S X Y:bg V5}{ω ω' ω1 Z:aP}{R:L2.St}{ρ:aW}{v:V}
def bH(gt:wZ)(c:rG)(f:c8):G D->aW->aP->G SV->RS (G SV)
 |[],_,ω,acc=>.ok acc ω
 |d::r,ρ,ω,acc=>(gt (.fz d) ρ ω).bind λa ω1=>(c a ω1).bind λb Z=>if b=P then(f a Z).bind λx e=>(if acc.length<1000000 then bH gt c f r a e (acc++[x])else .bad)else bH gt c f r a Z acc
def d7(n:Nat)(a:G Nat)(ρ:aW):aW:=Wd n VY++a.map λj=>(ρ[j]?).join
def dw(n:Nat)(c:G Nat)(a:IP)(gt:wZ)(b:rG)(d:c8):c8:=λρ ω=>(a ρ ω).bind λds ω1=>(gz (bH gt b d ds (d7 n c ρ) ω1 [])).bind λxs Z=>.ok (.rf Z.length) (Z++[.lst xs])
def Jy{own:G Str}{e:G (Str×Nat)}{n:Nat}{c:G Nat}(d:own.length=n)(h:e.map (·.2)=c)(i:YB O K H U R ρ):YB O K H U (iS own e R) (d7 n c ρ):=by
 unfold iS d7;rw[zZ d];let l:e.length=c.length:=by rw[<-h,V1]
 show#[by simp_all,λj x b=>?_];by_cases g:j<n
 .rw[Wh (by rw[Xt];show g),Ya,ax g]at b;ext b
 .rw[WN (by simp_all),Xt,Wg]at b⊢
  subst h;rw[Wg]at b;cases q:e[j - n]? with
  |none=>simp_all
  |some p=>
   rw[q]at b;let a:(ρ[p.2]?).join=cL x:=Wm b;let f:ρ[p.2]?=cL (cL x):=by
    cases t:ρ[p.2]? with
    |none=>rw[t]at a;ext a
    |some o=>rw[t]at a;show eg cL a
   let(u,r,m):=i.2 p.2 x f;simp_all
def GD{p:V5}{c:Cell}(a:U.length=ω.length)(e:c≠.dead):ow (cI B p) U ω=ow B (U++[p]) (ω++[c]):=by
 funext b;show propext #[λz=>?_,λz=>?_]
 .rcases z with(z|z)|⟨i,d,h1,g,f⟩
  .show .inl z
  .show .inr #[U.length,c,by rw[z];show aK,by rw[a];show aK,e]
  .show .inr #[i,d,hG h1,hG g,f]
 .rcases z with z|z
  .show .inl (.inl z)
  .rcases vQ a z with z|z
   .show .inr z
   .show .inl (.inr z)
def WM.adopt{p:V5}{c:G V}{xs:G SV}(s:WM (cI B p) K H U ω)(l:H p=cL (.lst c))(g:Yv (ow (cI B p) U ω) K H U c xs)(n:¬B p):WM B K H (U++[p]) (ω++[.lst xs]):=by
 let eo:ow (cI B p) U ω=ow B (U++[p]) (ω++[.lst xs]):=GD s.len (by simp_all);let b:∀(i:Nat) (a:V5),U[i]?=cL a->(U++[p])[i]?=cL a:=λi a h=>hG h;let m:∀i:Nat,U[i]?≠cL p:=s.ba p (.inr W);show#[by rw[V8,V8,s.len];rfl,λi j a e f=>?_,λa h=>s.bn a (.inl h),λa h i q=>?_,λi a h=>?_,λi a d e f=>?_]
 .rcases bL e with g1|⟨e1,e2⟩<;>rcases bL f with g2|⟨e3,e4⟩
  .show s.nd i j a g1 g2
  .simp_all
  .simp_all
  .omega
 .rcases bL q with q|⟨_,e2⟩
  .show s.ba a (.inl h) i q
  simp_all
 .rcases bL h with h|⟨_,e2⟩
  .show s.al i a h
  simp_all
 .rw[<-eo]
  rcases bL f with g2|⟨e1,e2⟩
  .rcases bL e with g1|⟨e1,_⟩
   .show(s.cel i a d g1 g2).ev .refl b λo q=>q
   .let:=(V2.mp g2).1;let:=s.len;ext
  .rcases bL e with g1|⟨_,e3⟩
   .let:=(V2.mp g1).1;let:=s.len;ext
   .rw[e2,e3];show#[c,l,Paired.Zt g λ_ _ r=>r.ev .refl b]
def WM.hide{p:V5}{o:HO}(s:WM B K H U ω)(j:H p=VY):WM (cI B p) K (a8 H p o) U ω:=by let f:XQ H (a8 H p o):=bM j o;let g:=s.grow f;let ev:Ev (ow B U ω) H (ow (cI B p) U ω) (a8 H p o):=λb u h n=>#[f b u h,λz=>z.elim (λz=>z.elim (λz=>n (.inl z)) λz=>by simp_all) λz=>n (.inr z)];show#[g.len,g.nd,λa h=>h.elim (g.bn a) λe=>by rw[e,aI];simp,λa h i q=>h.elim (λh=>g.ba a h i q) λe=>by rw[e]at q;show s.al i p q j,g.al,λi a c m l=>?_];show(s.cel i a c m l).ev ev (λ_ _ h=>h) λo q=>f _ _ q
def WM.ajV{p:V5}{o e:HO}(s:WM (cI B p) K H U ω)(j:H p=cL o):WM (cI B p) K (a8 H p e) U ω:=by
 let ev:Ev (ow (cI B p) U ω) H (ow (cI B p) U ω) (a8 H p e):=Ev.mut (.inl (.inr W)) e;let n:∀b,H b≠VY->a8 H p e b≠VY:=λb h=>by
  by_cases z:b=p
  .subst z;rw[aI];simp
  .rw[aw z];show h
 show#[s.len,s.nd,λa h=>n a (s.bn a h),s.ba,λi a h=>n a (s.al i a h),λi a c f g=>(s.cel i a c f g).ev ev (λ_ _ h=>h) λu q=>?_];let:a≠p:=λz=>s.ba p (.inr W) i (by rw[<-z];show f);rw[aw this];show q
theorem XX.dd{p:V5}{o:HO}(e:XX X ω1 T U ω H)(a:T p=VY):XX X ω1 T U ω (a8 H p o):=#[e.pre,λb u h n=>by rw[aw (bE h a)];show e.kp b u h n,e.lv]
theorem WM.afu{p:V5}(s:WM (cI B p) K H U ω):WM B K H U ω:=
 #[s.len,s.nd,λa h=>s.bn a (.inl h),λa h=>s.ba a (.inl h),s.al,λi a c f e=>(s.cel i a c f e).ev (λb o h n=>#[h,λy=>n (y.elim (λy=>.inl (.inl y)) .inr)]) (λ_ _ h=>h) λ_ h=>h]
def ri{own:bg Str}{fv:bg (Str×Nat)}{g:TG}{tc:TT}{te:TE}{gt:wZ}{s:rG}{k:c8}{n:Nat}{fj:bg Nat}{J:It}{Q:VK}{ds:bg D}(hn:own.length=n)(hf:fv.map (·.2)=fj)
  (hg:EL K E g gt) (ht:sY K E tc s) (he:cb K E te k) (s1:WM B K T X ω1) (sl1:YB (ow B X ω1) K T X R ρ) (it:zJ K J (ow B X ω1) T ds) (w1:WS K E B T X ω1 (PQ B K Q) ((bH gt s k ds (d7 n fj ρ) ω1 []).bind λxs Z=>.ok (.rf Z.length) (Z++[.lst xs]))):
  ∀D,T D=VY->El J D (iS own fv R) g tc te T λH'=>Q (.ref D) H':=by
 intro p hD;let slc:YB (ow B X ω1) K T X (iS own fv R) (d7 n fj ρ):=Jy hn hf sl1;generalize qr:bH gt s k ds (d7 n fj ρ) ω1 []=rr at w1;by_cases C:rr=.bad
 .subst C;show w1.elim
 .
  let hB:¬B p:=λz=>s1.bn p z hD;let evH:∀{Y:bg V5} {Z:aP} {H':Hp},XX X ω1 T Y Z H'->Ev (ow B X ω1) T (ow (cI B p) Y Z) H':=λe b o h n=>#[e.kp b o h λz=>n (.inr z),λz=>by
   rcases z with(z|z)|z
   .show n (.inl z)
   .simp_all
   .show(e.lv b z).elim (λq=>n (.inr q)) λq=>by simp_all]
  show#[λi m σ' H'=>m=ds.length - i/\i<=ds.length/\∃Y Z ρc acc ys,XX X ω1 T Y Z H'/\WM (cI B p) K H' Y Z/\YB (ow (cI B p) Y Z) K H' Y σ' ρc/\H' p=cL (.lst ys)/\Yv (ow (cI B p) Y Z) K H' Y ys acc/\bH gt s k (ds.drop i) ρc Z acc=rr,
   #[_,W,W8 _,X,ω1,d7 n fj ρ,[],[],XX.same (bM hD _),s1.hide hD,?_,aI,.nil,qr],?_]
  .show#[slc.1,λj x hx=>let#[v,h1,h2]:=slc.2 j x hx;#[v,h1,h2.ev (evH (XX.same (bM hD _))) λ_ _ h=>h]]
  .rintro i m σ2 M ⟨rfl,hi,Y,Z,ρ2,acc,ys,e2,s2,sl2,hy,vy,f⟩
   let(go,stop):=it (ow (cI B p) Y Z) M (evH e2) s2.noO;by_cases Zo:i<ds.length
   .let(g1,g2):=go i Zo
    show .inr #[g1,λσ5 G=>i+1<=ds.length/\∃Y Z ρc acc ys,XX X ω1 T Y Z G/\WM (cI B p) K G Y Z/\YB (ow (cI B p) Y Z) K G Y σ5 ρc/\G p=cL (.lst ys)/\Yv (ow (cI B p) Y Z) K G Y ys acc/\bH gt s k (ds.drop (i+1)) ρc Z acc=rr,
     λσ5 G #[h1,h2]=>#[ds.length - (i+1),by ext,W,h1,h2],λx H3 y=>?_]
    let(s3,d,hd,dv):=g2 x H3 y;let ed:ds.drop i=d::ds.drop (i+1):=by let(_,q):=V2.mp hd;rw[Yx Zo,q]
    rw[ed]at f;unfold bH at f;let e3:XX Y Z M Y Z H3:=XX.same s3;let kD:∀{αx αy:bg V5} {ωx ωy:aP} {Hx Hy:Hp} {o:HO},WM (cI B p) K Hx αx ωx->XX αx ωx Hx αy ωy Hy->Hx p=cL o->Hy p=cL o:=λsx ex h=>ex.kp _ _ h λ#[i,c,q,_]=>sx.ba p (.inr W) i q;let w:∀{N:bg V5} {u:aP} {H3:Hp} {z:Xc} {t:aP},XX X ω1 T N u H3->RS.er z t=rr->∀c dx S H',XX N u H3 S t H'->WM (cI B p) K H' S t->XOk K (ow (cI B p) S t) H' c dx z->E c dx H':=λ{N u H3 z t} e3 q c dx S H' e s' x'=>by subst q;show w1 c dx S H' (e3.trans e) s'.afu (XOk.sub (λb y=>y.elim (λy=>.inl (.inl y)) .inr) x')
    show hg (cI B p) σ2 H3 Y Z ρ2 x (.fz d) _ (s2.grow s3) (sl2.Yl e3) dv ?_;cases qg:gt (.fz d) ρ2 Z with
    |er z t=>rw[qg]at f;show w (e2.trans e3) f
    |bad=>rw[qg]at f;show C f.symm
    |ok l I=>
     rw[qg]at f;intro α4 H4 e4 s4 σ4 sl4;show ht (cI B p) σ4 H4 α4 I l _ s4 sl4 ?_;let f:((s l I).bind λb Z=>if b=V0 then(k l Z).bind λx u=>(if acc.length<1000000 then bH gt s k (ds.drop (i+1)) l u (acc++[x])else .bad)else bH gt s k (ds.drop (i+1)) l Z acc)=rr:=f;cases qt:s l I with
     |er z t=>rw[qt]at f;show w (e2.trans (e3.trans e4)) f
     |bad=>rw[qt]at f;show C f.symm
     |ok b A=>
      rw[qt]at f;intro α5 G e5 s5;let P:=sl4.Yl e5;let QQ:=e3.trans (e4.trans e5);cases b with
      |false=>let f:bH gt s k (ds.drop (i+1)) l A acc=rr:=f;show#[Zo,α5,A,l,acc,ys,e2.trans QQ,s5,P,kD s2 QQ hy,Yv.Yl QQ vy,f]
      |true=>
       let f:((k l A).bind λx u=>(if acc.length<1000000 then bH gt s k (ds.drop (i+1)) l u (acc++[x])else .bad))=rr:=f;rw[ax W];show he (cI B p) σ4 G α5 A l _ s5 P ?_;cases qe:k l A with
       |er z t=>rw[qe]at f;show w (e2.trans QQ) f
       |bad=>rw[qe]at f;show C f.symm
       |ok x6 F=>
        rw[qe]at f;intro L H6 e6 s6 v6 hv6;let f:(if acc.length<1000000 then bH gt s k (ds.drop (i+1)) l F (acc++[x6])else .bad)=rr:=f;by_cases hl6:acc.length<1000000
        .rw[ax hl6]at f;let S4:=QQ.trans e6;let hy6:H6 p=cL (.lst ys):=kD s2 S4 hy;let vy6:=Yv.Yl S4 vy;let em:Ev (ow (cI B p) L F) H6 (ow (cI B p) L F) (a8 H6 p (.lst (ys++[v6]))):=Ev.mut (.inl (.inr W)) _;let sl6:=P.Yl e6;show#[ys,hy6,qK (by rw[vy6.length];show hl6),Zo,L,F,l,acc++[x6],ys++[v6],(e2.trans S4).dd hD,s6.ajV hy6,#[sl6.1,λj x hx=>let#[v,h1,h2]:=sl6.2 j x hx;#[v,h1,h2.ev em λ_ _ h=>h]],aI,Ae (Paired.Zt vy6 λ_ _ r=>r.ev em λ_ _ h=>h) (hv6.ev em λ_ _ h=>h),f]
        .rw[aE hl6]at f;show a7 f.symm C
   .let e:i=ds.length:=by ext
    subst e;rw[YL (Wa _)]at f;let f:RS.ok acc Z=rr:=f;subst f;show .inl #[stop,?_];show w1 (Y++[p]) M #[λi a h=>hG (e2.pre i a h),e2.kp,λb z=>(vQ s2.len z).elim (e2.lv b) λz=>.inr (by rw[z];show hD)] (s2.adopt hy vy hB) (.ref p) #[p,by rw[<-s2.len];show aK,W]
def Qp{A C:Type}{P:C->G V5->aP->Hp->Prop}{r:RS A}{k:A->aP->C}{m:A->aP->aP}(w:WS K E B H U ω P ((gz r).bind λa o=>.ok (k a o) (m a o))):WS K E0 B H U ω P (r.bind λa o=>.ok (k a o) (m a o)):=by
 cases r with
 |ok a o=>show w
 |er x o=>show w.elim
 |bad=>show w
def wA{own:G Str}{f:G (Str×Nat)}{a:TI}{g:TG}{b:TT}{c:TE}{h:IP}{gt:wZ}{d:rG}{r:c8}{n:Nat}{k:G Nat}(t:own.length=n)(p:f.map (·.2)=k)
  (u:P2 K E a h) (o:EL K E0 g gt) (m:sY K E0 b d) (q:cb K E0 c r):cb K E (oY own f a g b c) (dw n k h gt d r):=by
 intro B R H U ω ρ Q s e w;show u B R H U ω ρ _ s e (WS.imp (WS.bind w) λds X ω1 T e1 j i J l=>?_);show ri t p o m q j (e.Yl e1) l (Qp i)
def cz(N:Nat)(g:dX):fD:=λxs ω=>(g (xs.map cL++Wd (N - xs.length) VY) ω).bind λa ω1=>match a with
 |.rt x=>.ok x ω1
 |.nx _=>.ok (.fz .none) ω1
 |_=>.bad
def Hw{N:G Str}{c:G V}{xs:G SV}(h:Yv O K H U c xs):YB O K H U (L2.start N c) (xs.map cL++Wd (N.length - xs.length) VY):=by
 let e:c.length=xs.length:=Paired.length h;ext L2.start;show#[by simp_all,λi x a=>?_];by_cases hi:i<xs.length
 .rw[Wh (by simp_all),Wg]at a
  cases q:xs[i]? with
  |none=>rw[q]at a;ext a
  |some d=>rw[q]at a;ext a;let(v,b,f):=zw h q;show#[v,?_,f];rw[Wh (by rw[V1,e];show hi),Wg,b];rfl
 .rw[WN (by rw[V1];ext),Ya]at a;split at a<;>ext a
def yP{N:G Str}{c:G V}{xs:G SV}{g:dX}{t:TS}{Q:VK}{n:Nat}(f:pO K E t g)(h:kh K n (cz N.length g) c H Q E):t {nx:=λ_ H'=>Q .Yf H',rt:=Q} (L2.start N c) H:=by
 let(l,B,U,ω,xs,s,e,w):=h;show f B _ H U ω _ _ s (Hw e) (WS.imp (WS.bind w) λi X ω1 T e1 b a=>?_);cases i with
 |rt x=>show WS.now (E:=E) b a
 |nx ρ=>show λR j=>WS.now (E:=E) b a .Yf .Yf
 |bk ρ=>show a.elim
 |ct ρ=>show a.elim
end
def U2{P:Ws}{w:WO}{K:lD}{d:Str->z B}{base:Heap}{x a:Str}{b:XY}{f:U}{fd:Xf}{N c:G Str}{k n m:Nat}{g:dX}{i:fD}(F:Fun K x a b f fd)(S:Ye N c (au b))(u:c.length=n)(hm:N.length=m)(p:i=cz m g)
  (q:∀(e:B) (A:WK) (outer:G Env) (s:V7) (H:Hp) (E:XK),X0 k (A.deeper (WT a (au b) s.heap.objs.size f e))->
   ∃t,PSs (eF lu P w K d base N a (au b) f e A outer s H E).nox (bO b) t/\pO K E t g):FnOk P w K d base lu (k+1) f fd c (kh K n i):=by
 subst p hm;show F.ok S (λr H Q E h=>h.1.trans u.symm) (λe A outer s H r Q E o h=>?_);let(t,j,l):=q e A outer s H E o;show#[t,j,yP (xs:=[]) l h]
def Ux{P:Ws}{w:WO}{K:lD}{d:Str->b3 Ld}{base:Heap}{x a:Str}{b:XY}{f:U}{fd:Xf}{N c:bg Str}{k n m:Nat}{g:dX}{l:fD}(F:Fun K x a b f fd)(S:Ye N c (au b))(D:c.length=n)(hm:N.length=m)(v:l=cz m g)
  (z:∀(e:Ld) (A:WK) (outer:bg Env) (s:V7) (H:Hp) (E:XK),X0 k (A.deeper (WT a (au b) s.heap.objs.size f e))->
   ∃t,PSs (eF (L4.j7 P w) P w K d base N a (au b) f e A outer s H E) (bO b) t/\pO K E t g):FnOk P w K d base (L4.j7 P w) (k+1) f fd c (kh K n l):=by
 subst v hm;let(G,C,kV,y,B,I,e,ct,o,rfl,p,j):=F.ex;show EZ p j S (λJ H Q E h=>h.1.trans D.symm) λA outer s H J Q E u i=>?_;let(t,q,r):=z e A outer s H E u;show#[t,q,yP (xs:=[]) r i]
end L10
namespace PySem.W
open PySem PySem.Calls PyProof.Rows PyProof.V PySem.Spec
section
variable{Y:Ws}{w:WO}{A:WK}{E:Ld->V7->Prop}{s:V7}{T:String}{r d:V5}{n:Nat}{P:Nat->Ld->Prop}{X:Heap->Prop}
def collect_kdl(K:KdlSrc Y w T r d n P X)(m:A.handled=VY)(Xr:X s.heap)(u:n<=We)
  (q:∀c k acc,(∀b o,s.heap.get? b=M o->c.get? b=M o)->ak4 P acc n->Q acc.toList {s with heap:=c,toks:=k}):wpAny (model Y w) A (collect (.ref r)) Q E s:=by
 let i:=K.there _ Xr;ext collect;show CL (wpAny_runValue (YN F.entry_proto_collect ?_));rw[WK.under_plainId F.plain_proto_collect _];show CL (XT ?_);show Wb #[YJ F.plain_list_iadd _,YN F.entry_list_iadd ?_];rw[WK.under_plainId F.plain_list_iadd _];let p:(s.heap.push {cls:=.type "list",data:=.seq ([]:G B).toArray}).get? s.heap.objs.size=M {cls:=.type "list",data:=.seq ([]:G B).toArray}:=ck _ W;show kdl_extend (R:=wants (λv j=>wpAny (model Y w) A (match v with|.ref a=>(load a>>=λo=>match o.data with|.seq xs _=>pure xs.toList|_=>unsupported "internal:collect")|_=>unsupported "internal:collect") Q E j) E) (s:={s with heap:=s.heap.push {cls:=.type "list",data:=.seq ([]:G B).toArray}}) K m (K.keep _ _ Xr λb _ o e=>b4 _ e) _ (Xn i.1) (Xn i.2) _ 0 p (λc k h t l f g=>?_) u;show CL (afn f ?_);show Wb (q c k h (λb o e=>l b o (Wz (cj e)) (b4 _ e)) g)
end
end PySem.W
namespace PyProof.Rows
open PySem
section
variable{Y:Ws}{w:WO}{A:WK}{E:Ld->V7->Prop}{s:V7}{T:String}{r d:V5}{n:Nat}{P:Nat->Ld->Prop}{X:Heap->Prop}
def zD(K:PySem.W.KdlSrc Y w T r d n P X)(p:A.handled=R)(Xr:X s.heap)(l:n<64)(t:∀acc:Array Ld,ak4 P acc n->IntsAre acc.toList ns)
  (h:∀(a c:Heap) (g:Nat) (out:Array Ld) (e:Nat) (f:G Int),(∀b o,s.heap.get? b=M o->a.get? b=M o)->c.get? a.objs.size=M (seqObj "list" out e)->(∀b o,a.get? b=M o->c.get? b=M o)->IntsAre out.toList f->f.Perm ns->f.Pairwise (·<=·)->Q (.ref a.objs.size) {s with heap:=c,toks:=g}):
  wpAny (model Y w) A (call (.builtin "sorted") [.ref r]) Q E s:=by
 show Calls.call_function_entry kind_sorted plain_sorted entry_sorted (args_sorted1 _) (CL (Wb (CL (PySem.W.collect_kdl K p Xr (by rw[X8];ext) (λa g acc m C=>CL (ak3 ?_ (hsz:=by rw[Xi,C.1,X8];ext)))))));let i:(a.push (seqObj "list" acc.toList.toArray 0)).get? a.objs.size=M (seqObj "list" acc.toList.toArray 0):=ck _ W;let j:=t acc C;show CL (XH (YE slot_list_sort #[_,i,W] entry_list_sort (list_sort_tree i j (by rw[Xi,C.1];show l) λout f y v u=>#[_,W,Wb #[_,W,?_]]) (args_list_sort _)));let(e,q):=rV i;show h a _ g out e f m q (λb B z=>oS (Wz (cj z)) (b4 _ z)) y v u
end
end PyProof.Rows
namespace L10
open PySem PySem.Spec PyProof.Rows L2 L3
def TJ(p d:U):HO:=.ext λh=>h.IsValuesView p d
theorem R0(x:h.IsValuesView p d):ObjOk g w H h p (TJ p d):=#[x,let#[o,a,_]:=x;#[o,a],λf e #[o,a,b] k=>#[o,k o a,b]]
def Nb:V->G V->Hp->VK->Prop:=λx b H Q=>∃a e,x=.ref a/\b=[]/\H a=M (.dK e)/\∀p,H p=R->Q (.ref p) (a8 H p (TJ p a))
def C1:QL X "dict.values" Nb:=by intro g s m H x xs v n Q I i f h;let(a,r,rfl,rfl,e,q):=h;ext i;ext f;let(z,l,p,j,dd):=xS I.Xr e;show abj abn dd.typeIs PySem.F.entry_dict_values (PySem.F.args_dict_values_1 _) (meets_dict_values (cH X.prog X.w) a l) #[#[p,dd],?_];show#[.ref s.heap.objs.size,_,I.laid (λb o e=>b4 _ e) (Wa _) (R0 #[_,ck _ W,W,W]),W,q _ (I.Xr.fresh (Wa _))]
def Gk:G V->Hp->VK->Prop:=λxs H Q=>∃p a b,xs=[.ref p]/\H p=M (TJ p a)/\H a=M (.dK b)/\∀l,H l=R->Q (.ref l) (a8 H l (.lst (b.map (·.2))))
def Lk:∀{c:G (o×V)} {b:G (o×B)},KV c b->Vals (c.map (·.2)) (b.map (·.2)):=by
 intro _ _ a
 induction a with
 |nil=>show .nil
 | @cons _ _ _ _ h t e=>show .cons h.2 (e)
def yz(n:X.calm=P):Yg X (.type "list") Gk:=by intro g s C H xs E Q I r h;let(p,a,N,rfl,w,e,q):=h;let(u,rfl,l):=jE r;ext l;let(z,G,S,b,dd):=xS I.Xr e;let(K,B):=dd.dictAt;let(i,_,_):=I.Xr p _ w;show PySem.W.kdl_call (PySem.W.kdl_values) (I.ok.hd n) #[i,B] (by rw[<-b.length];show z) λJ F f c m t L=>?_;let A:=PySem.W.kdl_vals_eq f.toList (by rw[Xi];show L.1) λj v y=>L.2 j v (by rw[<-acv];show y);show#[.ref s.heap.objs.size,_,I.laid (o:=.lst (N.map (·.2))) m (Wa _) #[by rw[V1];show z,f.toList,c,by rw[A];show Lk b,by rw[Array.toArray_toList];show t],W,q _ (I.Xr.fresh (Wa _))]
def zv:G V->Hp->VK->Prop:=λxs H Q=>∃(p:U) (e:G (cw×V)) (a:G Int),xs=[.ref p]/\H p=M (.dK e)/\e.map (·.1)=a.map Sum.inl/\a.length<64/\∀(l:U) (b:G Int),H l=R->b.Perm a->b.Pairwise (·<=·)->Q (.ref l) (a8 H l (.lst (b.map V.int)))
theorem qD:∀{c:G (cw×B)} {ns:G Int} {us:G B},c.map (·.1)=ns.map Sum.inl->us.length=c.length->(∀(j:Nat) (u:B),us[j]?=M u->∃k x,c[j]?=M (k,x)/\(cH prog w).is k u=P)->IntsAre us ns
 |[],[],[],_,_,_=>.nil
 |[],[],_::_,_,h,_=>by simp at h
 |[],_::_,_,h,_,_=>by simp at h
 |_::_,[],_,h,_,_=>by simp at h
 |_::_,_::_,[],_,h,_=>by simp at h
 |(k,y)::c,n::ns,u::us,h1,l,i=>by rw[Wl,Wl,amT]at h1;let(g,x,e,b):=i 0 u W;ext e;let f:=h1.1;subst f;let(t,rfl):=Ld.isInt_shape (show Ld.isInt n u=P from b);show .cons _ _ (qD h1.2 (by simpa using l) λj a e=>i (j+1) a (by simpa using e))
def zd(E:X.calm=V0):Yg X (.builtin "sorted") zv:=by
 intro i s N H xs O Q I r h;let(p,WA,l,rfl,e,J,F,q):=h;let(u,rfl,t):=jE r;ext t;let(z,C,vs,b,dd):=xS I.Xr e;let(T,L):=dd.dictAt;let m:vs.map (·.1)=l.map Sum.inl:=by rw[<-b.keys];show J
 let R:vs.length=l.length:=by let:=eg aad m;simpa using this
 show zD (PySem.W.kdl_dict C) (I.ok.hd E) L () (λM Y=>qD m (by rw[Xi];show Y.1) λj v K=>Y.2 j v (by rw[<-acv];show K)) λG S P f e2 w A B g Y n y=>?_;let a:=n.length_eq;let o:=I.kept (t':=s.toks) A;show#[.ref G.objs.size,_,o.laid g (Wa _) ?_,W,q _ w (o.Xr.fresh (Wa _)) n y];show#[?_,f.toList,e2,jd Y,B];rw[V1,a];let:(64:Nat)<=We:=by decide
 ext
end L10
namespace PySem
open Sem (wp)
namespace F
def lk_tuple_keys:typeLookup (.type "tuple") "keys"=pure R:=by rw[ahG,aek];kernel_rfl
def lk_tuple_hook:typeLookup (.type "tuple") "__getattr__"=pure R:=by rw[ahG,aek];kernel_rfl
def sub_ae:isSubtype (.type "AttributeError") (.type "AttributeError")=pure P:=by rw[isSubtype_type];kernel_rfl
end F
section
variable{Y:Ws}{w:WO}{A:WK}{E:Ld->V7->Prop}{h:Heap}{g:Array aaa}{d:adx}{t:Nat}{X:acs}{a:V5}{o:Obj}
def zW{α:Type}{name f:Str}{Q:α->V7->Prop}{E:B->V7->Prop}(hm:f.length<=We)(l:A.handled=R)(i:∀e c k,(∀b o,h.get? b=M o->c.get? b=M o)->(#[c,g,d,k,X]:V7).TypeIs e "AttributeError"->E e #[c,g,d,k,X]):
  wpAny (model Y w) A (raiseAttrError (.ref a) name f:Sem α) Q E #[h,g,d,t,X]:=by
 let j:¬f.length>We:=Nat.not_lt.mpr hm;unfold raiseAttrError newExc newTuple
 repeat (any_goals (first|assumption|wp_step))
 show abX (a:=P) F.sub_ae ?_
 repeat (any_goals (first|assumption|wp_step))
 show aeY l (i _ _ _ (λb o e=>?_) ?_)
 .show(cn _ _ (d0 (Wz (cj (b4 _ e))))).trans (b4 _ (b4 _ e))
 .show#[_,cv _ (ck _ W) W,W]
def nO{f:Tok}{Q:Fin->V7->Prop}{E:B->V7->Prop}{p:Array B}{n:Nat}{i:Array (z B)}(j:h.get? a=M #[.type "tuple",R,.seq p n,i])(m:A.handled=R)(l:∀e c k,(∀b o,h.get? b=M o->c.get? b=M o)->(#[c,g,d,k,X]:V7).TypeIs e "AttributeError"->E e #[c,g,d,k,X]):
  wpAny (model Y w) A (Xe.«object.__getattribute__» #[[.ref a,.str "keys" f],[]]) Q E #[h,g,d,t,X]:=by
 let q:(#[h,g,d,t,X]:V7).TypeIs (.ref a) "tuple":=#[_,j,W];let r:=F.lk_tuple_keys
 repeat (any_goals (first|assumption|wp_step))
 show zW (by left) m l
def sX{f:Tok}{Q:B->V7->Prop}{E:B->V7->Prop}{u:Array B}{n:Nat}{l:Array (b3 B)}(i:h.get? a=M #[.type "tuple",R,.seq u n,l])(q:A.handled=R)(m:∀e c k,(∀b o,h.get? b=M o->c.get? b=M o)->(#[c,g,d,k,X]:V7).TypeIs e "AttributeError"->E e #[c,g,d,k,X]):
  wpAny (model Y w) A (getAttrBy (.ref a) (.str "keys" f) I) Q E #[h,g,d,t,X]:=by
 let r:(#[h,g,d,t,X]:V7).TypeIs (.ref a) "tuple":=#[_,i,W];let z:=F.slot_tuple_getattribute.lookup;let y:=F.slot_tuple_getattribute.bind (.ref a);let v:=F.lk_tuple_hook
 repeat (any_goals (first|assumption|wp_step))
 show Zd F.slot_tuple_getattribute.plain F.entry_tuple_ga (F.slot_tuple_getattribute.check _ _ _ _ _ _ _ _ r (F.args_tuple_getattribute_2 _ _) (nO i q λe c k p j=>?_));let fs:=F.sub_ae;show wpAny (model Y w) A (getattributeRaised (Ld.ref a) (Ld.str (Str.ofString "keys") f) (Ld.type "tuple") e R I I) Q E _;ext getattributeRaised;show CL (abG j fs ?_)
 repeat (any_goals (first|assumption|wp_step))
 show m e c k p j
def pA(f:h.get? a=M #[.type "tuple",R,.seq J n,C])(l:A.handled=R)(i:∀c k,(∀b o,h.get? b=M o->c.get? b=M o)->Q R #[c,g,d,k,X]):
  wpAny (model Y w) A (getAttr? (.ref a) "keys") Q E #[h,g,d,t,X]:=by
 unfold getAttr? getAttrBy?;let fs:=F.sub_ae;show CL ?_
 repeat (any_goals (first|assumption|(specialize sX f l λe c k j m=>?_)|wp_step))
 show i c k j
namespace F
theorem entry_upd_loop:entryFor table "dict.update.loop"=M Xe.«dict.update.loop»:=entryFor_of_tree (by kernel_rfl)
def plain_upd_loop:plainId "dict.update.loop"=P:=by left
end F
end
section
variable{prog:Ws}{w:WO}{A:WK}{E:Ld->V7->Prop}{s:V7}{K:Type}[DecidableEq K]{knd:KeyKind prog w K}{I dd Y:V5}{Z:Array Ld}{ks:bg (K×Ld)}{R:abE->V7->Prop}
def yu(a:G (K×B))(k:K)(v:B):(stored a k v).length<=a.length+1:=by
 ext stored;split
 .rw[V1];ext
 .rw[V8];show Wa _
theorem oW:∀(a c:G (K×B)),(merged c a).length<=c.length+a.length
 |[],c=>Wa _
 |p::r,c=>by let e:=oW r (stored c p.1 p.2);let b:=yu c p.1 p.2;show(merged (stored c p.1 p.2) r).length<=_;rw[Wi];ext
def zj(a:G (K×B)):(merged [] a).length<=a.length:=by let:=oW a [];simpa using this
def G8{Q:Heap}(D:A.handled=VY)(H:Y≠I)(P:I≠dd)(O:Y≠dd)(d:∀(i:Nat) (v:Ld),Z[i]?=cL v->∃q key k x,v=.ref q/\q≠dd/\q≠I/\ks[i]?=cL (k,x)/\knd.is k key=V0/\Q.IsTuple q #v[key,x])(hs:ks.length=Z.size)(hz:Z.size<=We)
  (V:∀c l,c.DictOf knd dd (merged [] ks)->(∀b o,b≠dd->b≠I->Q.get? b=cL o->c.get? b=cL o)->R (.ok (.ret .none)) {s with heap:=c,toks:=l}):
  ∀(m i:Nat) (h:Heap) (l:Nat),Z.size - i=m->i<=Z.size->h.IsTupleIter I Y i->h.IsTuple Y Z->h.DictOf knd dd (merged [] (ks.take i))->(∀b o,b≠dd->b≠I->Q.get? b=cL o->h.get? b=cL o)->
   codeAny (model prog w) A (.builtin "dict.update.loop" #[[.ref dd,.ref I,rawInt i,.none],[]]) R {s with heap:=h,toks:=l}:=by
 let W:=Walks.tuple (prog:=prog) (w:=w) (A:=A.in1) D I Y H Z;intro m
 induction m with
 |zero=>
  intro i h l hm hi B u t r;let e:i=Z.size:=by ext
  subst e;show YN F.entry_upd_loop ?_;rw[WK.under_plainId F.plain_upd_loop _];show CL (W.done _ _ _ #[B,u] λc f g=>?_);rw[ZU ()]at t;show CL (Wb (Wb ?_));show V c f (t.at λo e=>g dd o (by simp;show λz=>P z.symm) e) λb o j a e=>g b o (by simp;show a) (r b o j a e)
 |succ m ih=>
  intro i h l hm hi B u t r;let U:i<Z.size:=by ext
  show YN F.entry_upd_loop ?_;rw[WK.under_plainId F.plain_upd_loop _];show CL (W.item i _ _ _ U #[B,u] λv c f hv T g=>?_);let(q,key,k,x,rfl,G,n,L,J,ht):=d i v hv;let C:=ht.at λo e=>g q o (by simp;show n) (r q o G n e);let S:=t.at λo e=>g dd o (by simp;show λz=>P z.symm) e;let y:=λb o j a e=>g b o (by simp;show a) (r b o j a e);let(oq,p,N,nq,M):=C;let(cq,dq,dtq,X):=oq;ext N;ext M;let hT:({s with heap:=c,toks:=f}:V7).TypeIs (.ref q) "tuple":=#[_,p,rfl];show CL (XH (CL ?_));show aaJ ?_;ext Xe.Dict.pairItems;show CL (adN hT ?_);rw[ax ()];show CL ?_;unfold seqItems?;show CL (afn p (Wb (Wb ?_)));show XH (wpAny_dictSet_pairs J S (λa d2 s2=>?_) ?_)
  .show Wb #[YJ F.plain_upd_loop _,?_];let e2:∀b o,b≠dd->c.get? b=cL o->a.get? b=cL o:=λb o hb e=>(s2.2 b hb).trans e;show ih (i+1) a (f+1) () U (T.1.at λo e=>e2 I o P e) (T.2.at λo e=>e2 Y o O e) ?_ λb o j a e=>e2 b o j (y b o j a e);rw[merged_take_succ [] ks i (k,x) L];show d2
  .let:(merged [] (ks.take i)).length<=(ks.take i).length:=zj _;rw[XW]at this;ext
end
end PySem
namespace PySem
open Sem (wp)
open PyProof.Rows
section
variable{T:Ws}{w:WO}{A:WK}{E:Ld->V7->Prop}{s:V7}{K:Type}[DecidableEq K]{X:KeyKind T w K}{Y:V5}{Z:Array Ld}{S:bg (K×Ld)}{R:abE->V7->Prop}
def ph(B:A.handled=VY)(z:s.heap.get? Y=cL #[.type "tuple",VY,.seq Z n,sl])(G:S.length=Z.size)(D:Z.size<=We)
  (H:∀(i:Nat) (v:Ld),Z[i]?=cL v->∃q key k x,v=.ref q/\S[i]?=cL (k,x)/\X.is k key=P/\s.heap.IsTuple q #v[key,x])
  (h:∀c d,c.DictOf X s.heap.objs.size (merged [] S)->(∀b o,s.heap.get? b=cL o->c.get? b=cL o)->Q (.ref s.heap.objs.size) {s with heap:=c,toks:=d}):
  wpAny (model T w) A (call (.type "dict") [.ref Y]) Q E s:=by
 show callType_codes (Q₁:=λobj f=>obj=.ref s.heap.objs.size/\f={s with heap:=s.heap.push {cls:=.type "dict",data:=.dict #v[]}}) F.kt_called_dict (F.kt_typeCall_dict_1 _) F.entry_dict_init (kt_code_dict_new _ #[W,W]) ?_;rintro obj f ⟨rfl,rfl⟩;let a:(s.heap.push {cls:=.type "dict",data:=.dict #v[]}).DictOf X s.heap.objs.size []:=Heap.DictOf.new s.heap;let g:(s.heap.push {cls:=.type "dict",data:=.dict #v[]}).get? Y=cL #[.type "tuple",VY,.seq Z n,sl]:=b4 _ z;let I:({s with heap:=s.heap.push {cls:=.type "dict",data:=.dict #v[]}}:V7).TypeIs (.ref Y) "tuple":=#[_,g,W];show#[a.typeIs,F.args_dict_init_2 _ _,?_];unfold Xe.«dict.__init__»;show CL ?_;ext Xe.Dict.selfAndRest;show CL (ael a.typeIs ?_);show Wb ?_;show wpAny _ _ (Xe.Dict.updateFrom "dict.__init__" s.heap.objs.size (.ref Y) [] .none) _ _ _;ext Xe.Dict.updateFrom;show CL (adN I ?_);rw[ax ()];show CL (pA g B λc C m=>?_);rw[ax (show(VY:b3 Ld).isNone=P from rfl)];show CL (ZF ?_);let l:=m _ _ g;let t:c.IsTuple Y Z:=#[_,l,W,n,W];show CL (aax t ?_);show Wb #[YJ F.plain_upd_loop _,?_];let Rp:s.heap.objs.size<c.objs.size:=by let(o,_,_,p,_):=a;show cj (m _ _ p)
 let j:=cj z;show G8 (A:=A.in1) (knd:=X) B (Wz (YT j Rp)) (Xn Rp) (Wz j) (λi v e=>?_) G D (λu r M k2=>?_) Z.size 0 _ C () (W8 _) #[_,ck _ W,W,W] #[_,b4 _ l,W,n,W] ?_ λb o _ _ e=>e
 .let(q,key,k,x,rfl,L,u,o,p,J):=H i v e;let y:=cj p;show#[q,key,k,x,W,Wz y,Wz (YT y Rp),L,u,o,b4 _ (m _ _ (b4 _ p)),J]
 .show#[W,h u r M λb o e=>?_];let lb:=cj e;show k2 b o (Wz lb) (Wz (YT lb Rp)) (b4 _ (m _ _ (b4 _ e)))
 .let:=a.at (h':=c.push {cls:=.type "tuple_iterator",data:=.fields #v[.ref Y,.int 0 0]}) λo e=>b4 _ (m _ _ e);show this
end
end PySem
namespace L10
open PySem PySem.Spec PyProof.Rows L2 L3
inductive abA(K:lD)(H:Hp):G V->G (cw×V)->Prop
 |nil:abA K H [] []
 |cons {q:U} {k:cw} {v:V} {vs:G V} {WA:G (cw×V)}:ZI K H q [kV k,v]->abA K H vs WA->abA K H (.ref q::vs) ((k,v)::WA)
def yD(K:lD):G V->Hp->VK->Prop:=λxs H Q=>∃p ys a,xs=[.ref p]/\ZI K H p ys/\abA K H ys a/\∀d,H d=R->Q (.ref d) (a8 H d (.dK (oi [] a)))
theorem Ij(I:Inv X pins σ H s):∀{j:G V} {A:G (cw×V)} {us:G B},abA X.K H j A->Vals j us->∃d:G (cw×B),KV A d/\d.length=us.length/\∀(i:Nat) (v:B),us[i]?=M v->∃q key k x,v=.ref q/\d[i]?=M (k,x)/\(cH X.prog X.w).is k key=P/\s.heap.IsTuple q #v[key,x]
 |_,_,_,.nil,.nil=>#[[],.nil,W,λi v e=>by simp at e]
 |_,_,_,.cons (q:=q) (k:=k) (v:=v) h t,.cons r rs=>by
  let(d,p,o,n):=Ij I t rs;let(y,C,pl,_):=I.tuple h;ext r;obtain⟨g,f,rfl,m,l⟩:∃g f,y=[g,f]/\RelV (kV k) g/\RelV v f:=by
   cases C with
   |cons a b=>cases b with
    |cons b c=>ext c;show#[_,_,W,a,b]
  show#[(k,f)::d,.cons #[W,l] p,by rw[Wi,Wi,o],λi u e=>?_];cases i with
  |zero=>ext e;show#[q,g,k,f,W,W,tm m,pl]
  |succ i=>show n i u (by simpa using e)
def zr(E:X.calm=V0):Yg X (.type "dict") (yD X.K):=by
 intro f s F H xs J Q I r h;let(p,G,T,rfl,t,w,q):=h;let(u,rfl,g):=jE r;ext g;let(R,S,(o,y,(b,n,C),a),m):=I.afB t;let(O,k1,k2,k3):=Ij I w S;let(N,M,l,j):=o;ext b;ext C;ext a;let z:=S.length;let A:=k1.length;show ph (I.ok.hd E) y (by rw[Wt];show k2) (by rw[Wt,<-z];show m) (λi v e=>k3 i v (by simpa using e)) λP L dd B=>?_;show#[.ref s.heap.objs.size,_,I.laid B (Wa _) ?_,W,q _ (I.Xr.fresh (Wa _))];show yQ ?_ ?_ (KV.merge k1 .nil) dd
 .let:=lU T [];rw[Yi]at this;ext
 .show beq_eq_false_iff_ne.mpr (Xn I.big)
end L10
namespace L10
open PySem PyProof.Rows L2 L3
def Oy:Xa "dict"=M (.type "dict"):=by left
section
variable{B O O':bG}{K:lD}{E:XK}{H H' S R:Hp}{Y α' X U:bg V5}{ω ω' ω1 Z:aP}{T:L2.St}{ρ:aW}{v:V}
def sU:SV->z cw
 |.fz (.int i)=>M (.inl i)
 |.fz (.str x)=>M (.inr x)
 |_=>VY
def pU(e:sU x=M k)(h:YI O K H Y v x):v=kV k:=by
 unfold sU at e;split at e
 .ext e;ext h;rfl
 .ext e;ext h;rfl
 .ext e
abbrev vj(O:bG)(K:lD)(H:Hp)(Y:G V5):G (cw×V)->G (cw×SV)->Prop:=Paired (λ(p:cw×V) (q:cw×SV)=>p.1=q.1/\YI O K H Y p.2 q.2)
def gY(ω:aP):SV->z (Nat×G (cw×SV))
 |.rf i=>match ω[i]? with
  |some (.dct a)=>M (i,a)
  |_=>VY
 |_=>VY
def mz(s:WM B K H Y ω)(b:YI (ow B Y ω) K H Y v x)(h:gY ω x=M (i,o)):ω[i]?=M (.dct o)/\∃a ws,Y[i]?=M a/\v=.ref a/\H a=M (.dK ws)/\vj (ow B Y ω) K H Y ws o:=by
 cases x with
 |fz d=>ext h
 |tp l=>ext h
 |rf j=>
  let(a,n,rfl):=b;unfold gY at h;dsimp only at h;cases q:ω[j]? with
  |none=>rw[q]at h;ext h
  |some c=>
   rw[q]at h;cases c with
   |dct m=>let e:=Wm h;ext e;let(ws,g,f):=s.cel i a _ n q;show#[q,a,ws,n,W,g,f]
   |_=>ext h
def jn(b:G (cw×SV))(k:cw):z SV:=(b.find? λa=>decide (a.1=k)).map (·.2)
def jF(b:G (cw×SV))(k:cw)(x:SV):G (cw×SV):=
 if(b.any λa=>decide (a.1=k))=P then b.map (λa=>if a.1=k then(a.1,x)else a)else b++[(k,x)]
def mB(b:G (cw×SV))(k:cw):G (cw×SV):=b.filter λa=>decide (a.1≠k)
def uW:∀{ws:G (cw×V)} {c:G (cw×SV)},vj O K H Y ws c->(∀x,jn c k=M x->∃v,jM ws k=M v/\YI O K H Y v x)/\(jn c k=VY->jM ws k=VY):=by
 intro _ _ f
 induction f with
 |nil=>show#[λx e=>(by ext e),λ_=>W]
 | @cons m l ws c j t n=>
  let(a,u):=m;let(b,y):=l;let(i,g):=j;ext i;unfold jn jM;rw[WZ,WZ];by_cases e:a=k
  .simp only[a4 e];show#[λx h=>#[u,W,by ext h;show g],λh=>by ext h]
  .simp only[a5 e];show n
def Uw:∀{ws:G (cw×V)} {d:G (cw×SV)},vj O K H Y ws d->(ws.any λc=>decide (c.1=k))=d.any λc=>decide (c.1=k):=by
 intro _ _ e
 induction e with
 |nil=>show W
 | @cons j i ws d h t l=>let(a,u):=j;let(b,y):=i;let(f,g):=h;ext f;rw[Y2,Y2,l]
def T0(g:YI O K H Y v x):∀{ws:G (cw×V)} {d:G (cw×SV)},vj O K H Y ws d->vj O K H Y (ws.map (λc=>if c.1=k then(c.1,v)else c)) (d.map (λc=>if c.1=k then(c.1,x)else c)):=by
 intro _ _ f
 induction f with
 |nil=>show .nil
 | @cons n m ws d l t j=>
  let(a,u):=n;let(b,y):=m;let(i,h):=l;ext i;rw[Wl,Wl];by_cases e:a=k
  .rw[ax e,ax e];show .cons #[W,g] (j)
  .rw[aE e,aE e];show .cons #[W,h] (j)
def Hv(h:vj O K H Y ws o)(r:p.1=q.1/\YI O K H Y p.2 q.2):vj O K H Y (ws++[p]) (o++[q]):=by
 induction h with
 |nil=>show .cons r .nil
 |cons a _ b=>show .cons a b
def AA(a:YI O K H Y v x)(h:vj O K H Y ws o):vj O K H Y (i8 ws k v) (jF o k x):=by
 unfold i8 jF;rw[Uw h];split
 .show T0 a h
 .show Hv h #[W,a]
def Eo:∀{ws:G (cw×V)} {c:G (cw×SV)},vj O K H Y ws c->vj O K H Y (mP ws k) (mB c k):=by
 intro _ _ f
 induction f with
 |nil=>show .nil
 | @cons m l ws c j t i=>
  let(a,u):=m;let(b,y):=l;let(h,g):=j;ext h;unfold mP mB;rw[ZJ,ZJ];by_cases e:a=k
  .let z:decide (a≠k)=I:=a5 λn=>n e;simp only[z];show i
  .let z:=a4 e;simp only[z];show .cons #[W,g] (i)
def sT(neg:Bool)(a fd:c8):c8:=λρ ω=>(a ρ ω).bind λx ω1=>(fd ρ ω1).bind λo Z=>(RS.W5 Z (sU x)).bind λk Z=>(RS.W5 Z (gY Z o)).bind λp Z=>.ok (.fz (.bool ((jn p.2 k).isSome !=neg))) Z
def G6(h:vj O K H Y ws o):(jM ws k).isSome=(jn o k).isSome:=by
 let(b,a):=uW h;cases q:jn o k with
 |none=>rw[a q];rfl
 |some x=>let(u,e,_):=b x q;rw[e];rfl
def Ji(p:cb K E C fk)(hd:cb K E J fd):cb K E (S8 C J) (sT I fk fd):=by intro B T H Y ω ρ Q s e w;show p B T H Y ω ρ _ s e (w.bind.imp λx X ω1 S e1 h g v m=>?_);show hd B T S X ω1 ρ _ h (e.Yl e1) (g.bind.imp λo U Z R e2 f b u n=>?_);let(k,l,b):=WS.W5 b;let((i,y),j,b):=WS.W5 b;let(_,a,ws,t,rfl,r,q):=mz f n j;show#[a,jM ws k,W,by rw[pU l m];show abS.k r,?_];rw[G6 q];show WS.now f b _ ?_;rw[aeZ];show .bl _
def qV(fd a:c8):c8:=λρ ω=>(fd ρ ω).bind λo ω1=>(a ρ ω1).bind λx Z=>(RS.W5 Z (sU x)).bind λk Z=>(RS.W5 Z (gY Z o)).bind λp Z=>RS.W5 Z (jn p.2 k)
def E3(hd:cb K E td fd)(t:cb K E J fk):cb K E (Nt td J) (qV fd fk):=by
 intro B T H Y ω ρ Q s e w;show hd B T H Y ω ρ _ s e (w.bind.imp λo X ω1 S e1 j g u r=>?_);show t B T S X ω1 ρ _ j (e.Yl e1) (g.bind.imp λx U Z R e2 f b v p=>?_);let(k,m,b):=WS.W5 b;let((i,L),l,b):=WS.W5 b;let(_,a,ws,N,rfl,C,A):=mz f (r.Yl e2) l;dsimp only at b;cases q:jn L k with
 |none=>rw[q]at b;show b.elim
 |some y=>rw[q]at b;let(z,n,h):=(uW A).1 y q;show#[a,z,W,by rw[pU m p,<-n];show abS.k C,WS.now f b z h]
def ud(fd e b:c8):dX:=λρ ω=>(b ρ ω).bind λy ω1=>(fd ρ ω1).bind λo Z=>(e ρ Z).bind λx a=>(RS.W5 a (sU x)).bind λk a=>(RS.W5 a (gY a o)).bind λp a=>if p.2.length<1000000 then .ok (.nx ρ) (a.set p.1 (.dct (jF p.2 k y)))else .bad
def Ih(hd:cb K E td fd)(N:cb K E tk fk)(L:cb K E tv fv):pO K E (Nx td tk tv) (ud fd fk fv):=by
 intro B T H Y ω ρ D s g w;show L B T H Y ω ρ _ s g (WS.imp (WS.bind w) λy X ω1 S e1 F A n m=>?_);show hd B T S X ω1 ρ _ F (g.Yl e1) (WS.imp (WS.bind A) λo U Z R e2 C t u M=>?_);show N B T R U Z ρ _ C (g.Yl (e1.trans e2)) (WS.imp (WS.bind t) λx b e j e3 p f z J=>?_);let(k,I,f):=WS.W5 f;let((i,WA),G,f):=WS.W5 f;let(l,a,ws,ha,rfl,P,q):=mz p (M.Yl e3) G;dsimp only at f;by_cases hn:WA.length<1000000
 .rw[ax hn]at f;let ev:Ev (ow B b e) j (ow B b e) (a8 j a (.dK (i8 ws k n))):=oO ha l (by nofun);let e4:XX b e j b (e.set i (.dct (jF WA k y))) (a8 j a (.dK (i8 ws k n))):=XX.put ha l (by nofun) (by nofun);let Q:=Paired.length q;show#[a,_,W,by rw[pU I J];show ad9.k P (qK ()),?_];show f b _ e4 (p.put ha l (by nofun) (by nofun) #[_,aI,AA ((m.Yl (e2.trans e3)).ev ev λ_ _ h=>h) (Paired.Zt q λ_ _ r=>#[r.1,r.2.ev ev λ_ _ h=>h])]) T ((g.Yl (e1.trans (e2.trans e3))).Yl e4)
 .rw[aE hn]at f;show f.elim
def um(fd a:c8):c8:=λρ ω=>(fd ρ ω).bind λo ω1=>(RS.W5 ω1 (gY ω1 o)).bind λ_ ω1=>(a ρ ω1).bind λx Z=>(RS.W5 Z (sU x)).bind λk Z=>(RS.W5 Z (gY Z o)).bind λp Z=>(RS.W5 Z (jn p.2 k)).bind λy Z=>.ok y (Z.set p.1 (.dct (mB p.2 k)))
def Iw(hd:cb K E td fd)(J:cb K E tk fk):cb K E (GQ td tk) (um fd fk):=by intro B T H Y ω ρ Q s j w;show hd B T H Y ω ρ _ s j (w.bind.imp λo X ω1 S e1 m f u n=>?_);let((P,N),F,f):=WS.W5 f;let(_,a,e,_,rfl,g0,_):=mz m n F;show#[a,W,.inl #[e,.inl g0],?_];show J B T S X ω1 ρ _ m (j.Yl e1) (f.bind.imp λx U Z R e2 l b v I=>?_);let(k,C,b):=WS.W5 b;let((i,WA),A,b):=WS.W5 b;let(g,a',ws,ha,M,L,p):=mz l (n.Yl e2) A;ext M;dsimp only at b;let(y,q,b):=WS.W5 b;let(z,G,t):=(uW p).1 y q;let ev:Ev (ow B U Z) R (ow B U Z) (a8 R a (.dK (mP ws k))):=oO ha g (by nofun);let e4:XX U Z R U (Z.set i (.dct (mB WA k))) (a8 R a (.dK (mP ws k))):=XX.put ha g (by nofun) (by nofun);show#[ws,k,z,L,pU C I,G,?_];show b U _ e4 (l.put ha g (by nofun) (by nofun) #[_,aI,Eo (Paired.Zt p λ_ _ r=>#[r.1,r.2.ev ev λ_ _ h=>h])]) z (t.Yl e4)
def nr(s:WM B K H Y ω)(a:H p=VY)(w:WS K E B H Y ω (PQ B K Q) (.ok (.rf ω.length) (ω++[c])))(f:∀e:XX Y ω H (Y++[p]) (ω++[c]) (a8 H p o),COk (ow B (Y++[p]) (ω++[c])) K (a8 H p o) (Y++[p]) p c):Q (.ref p) (a8 H p o):=by let b:XQ H (a8 H p o):=bM a _;let e:XX Y ω H (Y++[p]) (ω++[c]) (a8 H p o):=XX.acp s.len b a;show w _ _ e (s.acp b a (by rw[aI];simp) (f e)) _ #[p,by rw[<-s.len];show aK,W]
def xZ(fd:c8):c8:=λρ ω=>(fd ρ ω).bind λo ω1=>(RS.W5 ω1 (gY ω1 o)).bind λp ω1=>.ok (.rf ω1.length) (ω1++[.lst (p.2.map (·.2))])
def HC:∀{ws:G (cw×V)} {b:G (cw×SV)},vj O K H Y ws b->Yv O K H Y (ws.map (·.2)) (b.map (·.2)):=by
 intro _ _ a
 induction a with
 |nil=>show .nil
 | @cons _ _ _ _ h t e=>show .cons h.2 (e)
def GC(hd:cb K E J fd):cb K E (Ax Gk (d6 (Ti K "dict" Nb J) g6)) (xZ fd):=by intro B T H Y ω ρ Q s m w;show hd B T H Y ω ρ _ s m (w.bind.imp λo X ω1 S e1 h f u t=>?_);let((i,N),q,f):=WS.W5 f;let(C,a,ws,L,rfl,g,A):=mz h t q;show#[.inr (.inr (.inl #[W,.inl #[ws,g]])),a,ws,W,W,g,λp y=>?_];let b:XQ S (a8 S p (TJ p a)):=bM y _;let n:=h.grow b;let j:=WS.from (XX.same b) f;show#[p,a,ws,W,aI,b _ _ g,λl z=>?_];show nr n z j λe=>#[_,aI,HC (Paired.Zt A λ_ _ r=>#[r.1,(r.2.Yl (XX.same b)).Yl e])]
def yr:cw->z Int
 |.inl i=>M i
 |.inr _=>VY
def rS(fd:c8):c8:=λρ ω=>(fd ρ ω).bind λo ω1=>(RS.W5 ω1 (gY ω1 o)).bind λp ω1=>(RS.W5 ω1 (aA yr (p.2.map (·.1)))).bind λa ω1=>if a.length<64 then .ok (.rf ω1.length) (ω1++[.lst ((jX a).map λi=>SV.fz (.int i))])else .bad
theorem rL:∀{b:G cw} {ns:G Int},aA yr b=M ns->b=ns.map Sum.inl
 |[],_,e=>by ext e;rfl
 |k::r,ns,e=>by
  unfold aA at e;cases k with
  |inr x=>ext e
  |inl i=>
   dsimp only[yr]at e;cases q:aA yr r with
   |none=>rw[q]at e;ext e
   |some a=>rw[q]at e;ext e;rw[Wl,<-rL q]
def FZ:∀{ws:G (cw×V)} {b:G (cw×SV)},vj O K H Y ws b->ws.map (·.1)=b.map (·.1):=by
 intro _ _ a
 induction a with
 |nil=>show W
 | @cons _ _ _ _ h t e=>rw[Wl,Wl,h.1,e]
theorem Az(O:bG)(K:lD)(H:Hp)(Y:G V5):∀ns:G Int,Yv O K H Y (ns.map V.int) (ns.map λi=>SV.fz (.int i))
 |[]=>.nil
 |n::r=>.cons (.int n) (Az O K H Y r)
def G2(hd:cb K E J fd):cb K E (Ax zv (d6 J g6)) (rS fd):=by
 intro B T H Y ω ρ Q s h w;show hd B T H Y ω ρ _ s h (w.bind.imp λo X ω1 S e1 g b u n=>?_);let((i,N),m,b):=WS.W5 b;let(A,a,ws,L,rfl,y,t):=mz g n m;let(f,j,b):=WS.W5 b;by_cases hn:f.length<64
 .rw[ax hn]at b;show#[a,ws,f,W,y,by rw[FZ t];show rL j,hn,λl C r q p=>?_];let z:=kT (q.trans (eD f).symm) p (dY f);subst z;show nr g r b λe=>#[_,aI,Az _ _ _ _ _]
 .rw[aE hn]at b;show b.elim
def rN:D->z (cw×SV)
 |.tuple [.int i,d]=>M (.inl i,.fz d)
 |.tuple [.str x,d]=>M (.inr x,.fz d)
 |_=>VY
def wo:SV->z (G (cw×SV))
 |.fz (.tuple ds)=>aA rN ds
 |_=>VY
def Cp(e:wo x=M o):∃ds,x=.fz (.tuple ds)/\aA rN ds=M o:=by
 unfold wo at e;split at e
 .show#[_,W,e]
 .ext e
def ma(c a:G (cw×SV)):G (cw×SV):=a.foldl (λb e=>jF b e.1 e.2) c
def tM(b:c8):c8:=λρ ω=>(b ρ ω).bind λx ω1=>(RS.W5 ω1 (wo x)).bind λa ω1=>.ok (.rf ω1.length) (ω1++[.dct (ma [] a)])
theorem yc:∀{k:G V} {ds:G D} {j:G (cw×SV)},L3.XU O K H k ds->aA rN ds=M j->∃g,abA K H k g/\vj O K H Y g j
 |_,_,_,.nil,e=>by ext e;show#[[],.nil,.nil]
 |_,_,_,.cons (d:=d) (ds:=ds) h t,e=>by
  unfold aA at e;cases q:rN d with
  |none=>rw[q]at e;ext e
  |some p=>
   rw[q]at e;dsimp only at e;cases i:aA rN ds with
   |none=>rw[i]at e;ext e
   |some j=>
    rw[i]at e;ext e;let(g,k1,k2):=yc t i;unfold rN at q;split at q
    .ext q
     cases h with
     |tup h f=>cases f with
      |cons a b=>cases b with
       |cons b c=>ext c;ext a;show#[(.inl _,_)::g,.cons h.1 k1,.cons #[W,b] k2]
    .ext q
     cases h with
     |tup h f=>cases f with
      |cons a b=>cases b with
       |cons b c=>ext c;ext a;show#[(.inr _,_)::g,.cons h.1 k1,.cons #[W,b] k2]
    .ext q
theorem Au:∀{e:G (cw×V)} {f:G (cw×SV)} {ws:G (cw×V)} {c:G (cw×SV)},vj O K H Y e f->vj O K H Y ws c->vj O K H Y (oi ws e) (ma c f)
 |_,_,_,_,.nil,h=>h
 |(a,u)::e,(b,y)::f,_,_,.cons r t,h=>by let(i,g):=r;ext i;show vj O K H Y (oi (i8 _ a u) e) (ma (jF _ a y) f);show Au t (AA g h)
def Ej(l:cb K E o C):cb K E (Ax (yD K) (d6 o g6)) (tM C):=by
 intro B T H Y ω ρ Q s f w;show l B T H Y ω ρ _ s f (w.bind.imp λx X ω1 S e1 g b u i=>?_);let(p,q,a):=WS.W5 b;let(ds,rfl,q):=Cp q;let a:=a;cases i with
 |tup h j=>let(n,k1,k2):=yc j q;show#[_,_,n,W,h.1,k1,λd m=>nr g m a λe=>#[_,aI,Au (Paired.Zt k2 λ_ _ r=>#[r.1,r.2.Yl e]) .nil]]
end
end L10
namespace PySem
open PyProof.Rows
def lC:z Int->Int->z Int
 |none,x=>M x
 |some m,x=>M (if x>m then x else m)
def RB:z (Int×Tok)->Array B
 |none=> #v[]
 |some (m,t)=> #v[.int m t,.int m t]
def Nl(d:B):z (Int×Tok)->B
 |none=>d
 |some (m,t)=>.int m t
namespace F
def args_maxd(a b:B):checkBuiltinCall "max" #[[a],[("default",b)]]=pure ⟨⟩:=by kernel_rfl
end F
section
variable{prog:Ws}{w:WO}{A:WK}{E:Ld->V7->Prop}{R:abE->V7->Prop}{I l S:V5}{vs:bg Ld}{d:Ld}
def Lx(hh:A.handled=VY)(D:l≠I)(r:S≠I)(O:S≠l){s:V7}:
  ∀{B:bg Ld} {ns:bg Int},IntsAre B ns->∀(i:Nat) (h:Heap) (M:Nat) (b:b3 (Int×Tok)) (c:Nat),vs=vs.take i++B->i<=vs.length->h.IsListIter I l i->h.IsList l vs.toArray->h.get? S=cL {cls:=.type "list",dict:=VY,data:=.seq (RB b) c,slots:= #v[]}->
  (∀x M V,V.map (·.1)=ns.foldl lC (b.map (·.1))->(∀a o,a≠I->a≠S->h.get? a=cL o->x.get? a=cL o)->R (.ok (.ret (Nl d V))) {s with heap:=x,toks:=M})->
  codeAny (model prog w) A (.builtin "max.loop" #[[.ref I,.none,.ref S],[("default",d)]]) R {s with heap:=h,toks:=M}:=by
 let W:=Walks.list (prog:=prog) (w:=w) (A:=A.in1) hh I l D vs.toArray;intro B ns hi
 induction hi with
 |nil=>
  intro i h M b c u hi Z Y Q L;let e:i=vs.toArray.size:=by rw[WL]at u;let:=eg aad u;rw[XW]at this;rw[Wt];ext
  show YN F.entry_max_loop ?_;rw[WK.under_plainId F.plain_max_loop _];show CL (Xz Q rfl ?_);show CL (aaJ (W.done _ _ _ (e▸#[Z,Y]) λx g y=>?_));let f:=y S _ (by simpa using r) Q;cases b with
  |none=>show CL (ZF (Wb ?_));show L x g VY rfl λa o j z e=>y a o (by simpa using j) e
  |some p=>let(m,t):=p;show CL (ab8 f rfl (CL (YA (Wb ?_))) (hz:=by show 2<=We;decide));show L _ g (cL (m,t)) rfl λa o j z e=>(cn _ _ (d0 z)).trans (y a o (by simpa using j) e)
 | @cons n t aky ahc hr ih=>
  intro i h M b c u hi Z Y Q L;let Zo:i<vs.toArray.size:=by let:=eg aad u;rw[V8,XW,Wi]at this;rw[Wt];ext
  let N:vs[i]?=cL (.int n t):=by rw[u,WN (by rw[XW];ext),XW,Nat.min_eq_left hi,agL];rfl
  let C:vs=vs.take (i+1)++aky:=by rw[X6,N];rw[Wy];show u
  let G:i+1<=vs.length:=by rw[Wt]at Zo;show Zo
  show YN F.entry_max_loop ?_;rw[WK.under_plainId F.plain_max_loop _];show CL (Xz Q rfl ?_);show CL (aaJ (W.item i _ _ _ Zo #[Z,Y] λv x g hP K y=>?_));let ev:v=.int n t:=by let T:=hP;rw[List.getElem?_toArray,N]at T;show(Wm T).symm
  subst ev;let f:=y S _ (by simpa using r) Q;let J:(toString "max"++toString ".loop":String)= "max.loop":=by decide
  cases b with
  |none=>
   show wpAny _ A.in1 (updateSeq S (λ_=> #v[Ld.int n t,Ld.int n t])>>=_) _ _ _;show CL (ab8 f rfl ?_);rw[J];show Wb #[YJ F.plain_max_loop _,ih (i+1) _ g (cL (n,t)) _ C G (K.1.at λo e=>?_) (K.2.at λo e=>?_) (cv _ f rfl) λz q U e2 k2=>L z q U e2 λa o j H e=>k2 a o j H ((cn _ _ (d0 H)).trans (y a o (by simpa using j) e))]
   .show(cn _ _ r).trans e
   .show(cn _ _ O).trans e
  |some p=>
   let(m,t0):=p;show wpAny _ A.in1 (tryCatch (holding [Ld.int n t,Ld.int n t] (richCompare .Gt (Ld.int n t) (Ld.int m t0)>>=_)) _>>=_) _ _ _;let akA:=CmpOf.ints_gt (prog:=prog) (w:=w) (A:=A.in1) (P:=λ(k:Nat) v=>(k=0/\v=Ld.int n t)\/(k=1/\v=Ld.int m t0)) (λk=>if k=0 then n else m) λk v u=>by
    rcases u with⟨rfl,rfl⟩|⟨rfl,rfl⟩
    .show#[t,rfl]
    .show#[t0,rfl]
   show CL (aaJ (XH (CL (akA 0 1 _ _ _ _ _ (.inl #[rfl,rfl]) (.inr #[rfl,rfl]) ?_))));show CL (XH (Xy ?_));show CL (YA (Wb ?_));show wpAny _ A.in1 (if decide (n>m)=V0 then _ else _) _ _ _;by_cases X:n>m
   .rw[ax (a4 X)]
    show CL (ab8 f rfl (CL (YA ?_)) (hz:=by show 2<=We;decide));rw[J];show Wb #[YJ F.plain_max_loop _,ih (i+1) _ g (cL (n,t)) _ C G (K.1.at λo e=>?_) (K.2.at λo e=>?_) (cv _ f rfl) λz q U e2 k2=>L z q U ?_ λa o j H e=>k2 a o j H ((cn _ _ (d0 H)).trans (y a o (by simpa using j) e))]
    .show(cn _ _ r).trans e
    .show(cn _ _ O).trans e
    .rw[e2];show _=ahc.foldl lC (cL (if n>m then n else m));rw[ax X];rfl
   .rw[aE (by rw[a5 X];show Wv)];show CL (YA ?_);rw[J];show Wb #[YJ F.plain_max_loop _,ih (i+1) _ g (cL (m,t0)) c C G K.1 K.2 f λz q U e2 k2=>L z q U ?_ λa o j H e=>k2 a o j H (y a o (by simpa using j) e)];rw[e2];show _=ahc.foldl lC (cL (if n>m then n else m));rw[aE X];rfl
def C4(n:A.handled=VY)(g:s.heap.IsList l vs.toArray)(r:IntsAre vs ns)
  (q:∀c k b,b.map (·.1)=ns.foldl lC VY->(∀a o,s.heap.get? a=M o->c.get? a=M o)->Q (Nl d b) {s with heap:=c,toks:=k}):
  wpAny (model prog w) A (call (.builtin "max") [.ref l] [("default",d)]) Q E s:=by
 let j:l<s.heap.objs.size:=by let(_,e,_):=g;show cj e
 let h:(toString "max"++toString ".loop":String)= "max.loop":=by decide
 show aai (Zd F.plain_max F.entry_max (abX (F.args_maxd _ _) ?_));show CL (abX (show Xe.Builtins.bindParams "max" ["key","default"] 0 #[[],[("default",d)]]=pure [VY,M d]from rfl) ?_);show CL (Wb ?_);show CL (Zm g ?_);show CL (XT ?_);rw[h];let f:(s.heap.push {cls:=.type "list_iterator",data:=.fields #v[.ref l,.int 0 0]}).objs.size=s.heap.objs.size+1:=da _ _;show Wb #[YJ F.plain_max_loop _,Lx n (Wz j) (by rw[f];show Nat.succ_ne_self _) (by rw[f];show Xn (Zy j)) r 0 _ s.toks VY 0 W (W8 _) #[_,b4 _ (ck _ W),W,W] ((g.push _).push _) (ck _ W) λc k b p m=>?_];show q c k b p λa o e=>?_;let i:=cj e;show m a o (Wz i) (by rw[f];show Wz (Zy i)) (b4 _ (b4 _ e))
end
end PySem
namespace L10
open PySem PySem.Spec PyProof.Rows L2 L3
def NO(K:lD)(i:Int):G V->Hp->VK->Prop:=λxs H Q=>∃(p:U) (a:G Int),xs=[.ref p]/\ZV K H p (a.map V.int)/\Q (.int ((a.foldl lC R).getD i)) H
def Js(C:X.calm=P)(B:Gl X "max")(hm:X.mg "max"=R)(c:PA X [l] ta)(g:Qd l=V4:=by rfl):
  PE X (.Call (.Name "max" p) [l] [#[cL "default",.Constant (.int i) j p1,p2]] pos) (Ax (NO X.K i) ta):=by
 intro e s n H Q I h;show YS (oP I B hm GK (callWith_kw (bT (c pos e s n H _ I h) λG o #[T,F,f,v,w]=>?_) (by rw[tT _ _ _ g];rfl) (by rw[tT _ _ _ g];rfl) W W));let(a,y,rfl,z,q):=w;let(u,rfl,r):=jE v;ext r;let(N,S,pl,L):=f.list z;show ahH (afl (ahI ?_));let O:=f.tok (o.toks+1);show C4 (f.ok.hd C) pl.isList (jz S) λM J b E A=>?_;show#[.int ((y.foldl lC R).getD i),F,f.kept A,?_,q];rw[<-E];cases b with
 |none=>show#[_,W]
 |some p=>let(m,t):=p;show#[t,W]
def BO(i:Int):G D->z RV
 |[.list ds]=>(jR ds).map λa=>.fz (.int ((a.foldl lC R).getD i))
 |_=>R
def Lj{K:lD}:BZ K (NO K i) (BO i):=by
 intro O H xs ds p Q n f e q;unfold BO at e;split at e
 .rename_i es
  cases f with
  |cons l j=>
   ext j;cases m:jR es with
   |none=>rw[m]at e;ext e
   |some b=>rw[m]at e;ext e;let(a,o,rfl,h,g):=Ch l;obtain rfl:=kS g m;show#[a,b,W,h.sq,q.at (.int _)]
 .ext e
end L10
namespace L10
open PySem L2 L3
section
variable{B O O':bG}{K:lD}{E:XK}{H H' H1 H2:Hp}{X Y U α2:bg V5}{ω Z ω1 ω2:aP}{σ:L2.St}{ρ:aW}{v:V}
def gM{l r:G A}(h:(l++r)[i]?=M y):l[i]?=M y\/∃j,i=l.length+j/\r[j]?=M y:=by
 by_cases hi:i<l.length
 .rw[Wh hi]at h;show .inl h
 .rw[WN ()]at h;show .inr #[i - l.length,by ext,h]
def LO{l r:G A}{i:Nat}(h:l[i]?=M y):(l++r)[i]?=M y:=by rw[Wh (V2.mp h).1];show h
def Iy{l r:G A}(h:r[i]?=M y):(l++r)[l.length+i]?=M y:=by rw[WN (),ZP];show h
def EX(g:X.length=ω.length)(h:Lv (X++o) (ω++cs) b):Lv X ω b\/b∈o:=by
 let(i,d,f,e,a):=h;rcases gM f with g1|⟨j,e1,g1⟩
 .rcases gM e with g2|⟨k,e2,g2⟩
  .show .inl #[i,d,g1,g2,a]
  .let:=(V2.mp g1).1;ext
 .show .inr (WG g1)
theorem XX.abP(s:WM B K H X ω)(e:XQ H H')(f:∀p∈ps,H p=R):XX X ω H (X++ps) (ω++cs) H':=
 #[λi a h=>LO h,λb u q _=>e b u q,λb z=>(EX s.len z).imp id λz=>f b z]
def WM.abP(s:WM B K H X ω)(e:XQ H H')(f:∀p∈ps,H p=R)(m:∀p∈ps,H' p≠R)(nd:∀(i j:Nat) (a:V5),ps[i]?=M a->ps[j]?=M a->i=j)(t:ps.length=cs.length)
  (new:∀(i:Nat) (a:V5) (c:Cell),ps[i]?=M a->cs[i]?=M c->COk (ow B (X++ps) (ω++cs)) K H' (X++ps) a c):WM B K H' (X++ps) (ω++cs):=by
 let ev:XX X ω H (X++ps) (ω++cs) H':=XX.abP s e f;let n:∀b,H b≠R->H' b≠R:=λb h z=>h (e.free z);show#[by rw[V8,V8,s.len,t],λi j a g l=>?_,λa h=>n a (s.bn a h),λa h i q=>?_,λi a h=>?_,λi a d g l=>?_]
 .rcases gM g with g1|⟨y,e1,g1⟩<;>rcases gM l with g2|⟨u,e2,g2⟩
  .show s.nd i j a g1 g2
  .show a7 (f a (WG g2)) (s.al i a g1)
  .show a7 (f a (WG g1)) (s.al j a g2)
  .let:=nd y u a g1 g2;ext
 .rcases gM q with q|⟨j,_,q⟩
  .show s.ba a h i q
  .show s.bn a h (f a (WG q))
 .rcases gM h with h|⟨j,_,h⟩
  .show n a (s.al i a h)
  .show m a (WG h)
 .let r:=s.len
  rcases gM l with g2|⟨j,e2,g2⟩
  .rcases gM g with g1|⟨k,e1,g1⟩
   .show(s.cel i a d g1 g2).ev ev.ev ev.pre λo q=>e _ _ q
   .let:=(V2.mp g2).1;ext
  .rcases gM g with g1|⟨k,e1,g1⟩
   .let:=(V2.mp g1).1;ext
   .let:k=j:=by ext
    subst this;show new k a d g1 g2
def DA(Z:aP):Nat->G AV->z (G AV×G (G D)×G Nat)
 |_,[]=>M ([],[],[])
 |n,.fz d::r=>match DA Z n r with
  |some (l,cs,a)=>M (.fz d::l,cs,a)
  |none=>R
 |n,.rf i::r=>match sh Z (.rf i)with
  |some (.list ds)=>(match DA Z (n+1) r with
   |some (l,cs,a)=>M (.rf n::l,ds::cs,i::a)
   |none=>R)
  |_=>R
def TX(ds:G D):Cell:=.lst (ds.map .fz)
def pZ(x:SV)(Z ω:aP):RS SV:=match x with
 |.fz d=>.ok (.fz d) ω
 |.rf i=>(match sh Z (.rf i)with
  |some (.list ds)=>lP ω (.ow ds)
  |_=>.bad)
 |.tp l=>(match DA Z ω.length l with
  |some (a,cs,b)=>if b.Nodup then .ok (.tp a) (ω++cs.map TX)else .bad
  |none=>.bad)
def v5(h:sh ω (.rf i)=M (.list ds)):∃xs,ω[i]?=M (.lst xs)/\aA yl xs=M ds:=by
 unfold sh at h;dsimp only at h;cases q:ω[i]? with
 |none=>rw[q]at h;ext h
 |some c=>
  rw[q]at h;cases c with
  |lst xs=>
   dsimp only at h;cases a:aA yl xs with
   |none=>rw[a]at h;ext h
   |some es=>rw[a]at h;ext h;show#[xs,W,a]
  |_=>ext h
def mi(s:WM B K H X ω)(h:sh ω (.rf i)=M (.list ds)):∃a c,X[i]?=M a/\H a=M (.lst c)/\L3.XU (ow B X ω) K H c ds/\ow B X ω a:=by let(xs,b,f):=v5 h;let(a,l):=s.at b;let(c,j,g):=s.cel i a _ l b;show#[a,c,l,j,mv (cW (R:=YI (ow B X ω) K H X) (λv x y r e=>zz r e) g f),.inr #[i,_,l,b,by intro z;ext z]]
def RP{o:bG}(s:WM o K H' Y Z):∀{n:Nat} {l u:bg AV} {cs:bg (bg D)} {g:bg Nat} {xs:bg V},DA Z n l=cL (u,cs,g)->Paired (AOk (ow o Y Z) K H' Y) xs l->
  ∃c:bg V5,c.length=g.length/\cs.length=g.length/\(∀(k j:Nat),g[k]?=cL j->∃a ds Q,c[k]?=cL a/\cs[k]?=cL ds/\Y[j]?=cL a/\H' a=cL (.lst Q)/\L3.XU (ow o Y Z) K H' Q ds/\ow o Y Z a)/\
   ∀(b:bg V5),b.length=n->Paired (AOk (ow o Y Z) K H' (b++c)) xs u:=by
 intro n l u cs g xs e p
 induction p generalizing n u cs g with
 |nil=>ext e;show#[[],W,W,λk j h=>by simp at h,λb _=>.nil]
 | @cons _ x _ r h t T=>
  cases x with
  |fz d=>
   unfold DA at e;cases q:DA Z n r with
   |none=>rw[q]at e;ext e
   |some p=>let(I,F,w):=p;rw[q]at e;ext e;let(c,C,A,z,y):=T q;show#[c,C,A,z,λb f=>.cons h (y b f)]
  |rf i=>
   unfold DA at e;cases S:sh Z (.rf i)with
   |none=>rw[S]at e;ext e
   |some d=>
    rw[S]at e;cases d with
    |list ds=>
     dsimp only at e;cases q:DA Z (n+1) r with
     |none=>rw[q]at e;ext e
     |some p=>
      let(I,F,w):=p;rw[q]at e;ext e;let(c,C,A,z,y):=T q;let(a,Q,ha,J,M,L):=mi s S;show#[a::c,by rw[Wi,Wi,C],by rw[Wi,Wi,A],λk j G=>?_,λb f=>?_]
      .cases k with
       |zero=>ext G;show#[a,ds,Q,W,W,ha,J,M,L]
       |succ k=>show z k j (by simpa using G)
      .let e2:b++a::c=(b++[a])++c:=by simp
       let(N,m,rfl):=h;rw[ha]at m;ext m;show .cons #[a,by rw[<-f];show Iy (l:=b) (r:=a::c) (i:=0) W,W] ?_;rw[e2];show y (b++[a]) (by rw[V8,f];rfl)
    |_=>ext e
def Dv(s:WM B K H X ω)(w:WS K E B H X ω (PQ B K Q) (pZ x Z ω))(D:XX [] [] H Y Z H')(G:WM (ow B X ω) K H' Y Z)(J:YI (ow (ow B X ω) Y Z) K H' Y v x):Q v H':=by
 let C:=λb o h=>D.kp b o h λ#[i,c,q,_]=>by simp at q
 let sub:∀b,ow B X ω b->ow (ow B X ω) Y Z b:=λb z=>.inl z;let fr:=λi a c R h2 h3=>(D.lv a #[i,c,R,h2,h3]).elim (λ#[i,c,q,_]=>by simp at q) id;cases x with
 |fz d=>show w X H' (XX.same C) (s.grow C) v (DV.ev (Ev.sub sub) J)
 |rf i=>
  unfold pZ at w;dsimp only at w;cases qs:sh Z (.rf i)with
  |none=>rw[qs]at w;show w.elim
  |some d=>
   rw[qs]at w;cases d with
   |list ds=>let(a,vs,ha,R,hd,M):=mi G qs;let(xs,e,_):=v5 qs;let(a',F,rfl):=J;rw[ha]at F;ext F;show qS s w C (fr i a _ ha e (by nofun)) R hd sub M
   |_=>show w.elim
 |tp l=>
  unfold pZ at w;dsimp only at w;cases qg:DA Z ω.length l with
  |none=>rw[qg]at w;show w.elim
  |some p=>
   let(l',cs,I):=p;rw[qg]at w;dsimp only at w;by_cases hn:I.Nodup
   .rw[ax hn]at w
    let(a,xs,rfl,ht,hl):=J;let(ps,g1,g2,g3,g4):=RP G qg hl;let A:∀(k:Nat) (b:V5),ps[k]?=cL b->∃j ds vs,I[k]?=cL j/\cs[k]?=cL ds/\Y[j]?=cL b/\H' b=cL (.lst vs)/\L3.XU (ow (ow B X ω) Y Z) K H' vs ds/\ow (ow B X ω) Y Z b:=λk b hb=>by
     let f:k<I.length:=by rw[<-g1];show(V2.mp hb).1
     let(b',ds,vs,e,y,u,m,t,g):=g3 k _ (V9 f);rw[hb]at e;ext e;show#[_,ds,vs,V9 f,y,u,m,t,g]
    let nB:∀(j:Nat) (b:V5),Y[j]?=cL b->ow (ow B X ω) Y Z b->H b=VY:=λj b N M=>by
     rcases M with z|⟨i,c,z1,z2,z3⟩
     .show a7 N (G.ba b z j)
     .show fr i b c z1 z2 z3
    let fp:∀p∈ps,H p=VY:=λp L=>by let(k,f):=YY.mp L;let(j,ds,vs,e,y,u,m,t,g):=A k p f;show nB j p u g
    let n:∀b,ow B (X++ps) (ω++cs.map TX) b->ow (ow B X ω) Y Z b:=λb z=>by
     rcases z with z|z
     .show .inl (.inl z)
     .rcases EX s.len z with z|z
      .show .inl (.inr z)
      .let(k,f):=YY.mp z;let(j,ds,vs,e,y,u,m,t,g):=A k b f;show g
    let ev:=XX.abP (cs:=cs.map TX) s C fp;show w (X++ps) H' ev (s.abP C fp (λp L=>?_) (λi j b hi N=>?_) (by rw[V1,g1,g2]) λi b c hi T=>?_) (.ref a) #[a,xs,W,ht.ev (Ev.sub n),Paired.Zt (g4 X s.len) λ_ _ r=>r.ev (Ev.sub n) λ_ _ h=>h]
    .let(k,f):=YY.mp L;let(j,ds,vs,e,y,u,m,t,g):=A k p f;rw[m];simp
    .let(j1,_,_,S,_,p3,_):=A i b hi;let(j2,_,_,r1,_,r3,_):=A j b N;let:=G.nd j1 j2 b p3 r3;subst this;let P:=(V2.mp S).1;show(List.getElem?_inj P hn).mp (S.trans r1.symm)
    .let(j,ds,vs,e,y,u,m,t,g):=A i b hi;rw[Wg,y]at T;ext T;show#[vs,m,j4 _ _ (t.ev (Ev.sub n))]
   .rw[aE hn]at w;show w.elim
def t8(F:fD)(n:Nat)(xs:G SV)(ω:aP):RS SV:=if xs.length=n then(match aA yl xs with
 |some ds=>(match F (ds.map .fz) []with
  |.ok x Z=>pZ x Z ω
  |.er x _=>.er x ω
  |.bad=>.bad)
 |none=>.bad)else .bad
def tF(F:fD)(n:Nat)(a:ww):c8:=λρ ω=>(a ρ ω).bind λxs ω1=>gz (t8 F n xs ω1)
theorem Gf(h:∀a,B a->H a≠R):WM B K H [] []:=#[W,λi j a h=>by simp at h,h,λa h i=>by simp,λi a h=>by simp at h,λi a c h=>by simp at h]
theorem BR:∀{xs:G SV} {ds:G D},aA yl xs=M ds->xs=ds.map .fz
 |[],_,e=>by ext e;rfl
 |x::r,ds,e=>by
  unfold aA at e;cases x with
  |fz d=>
   dsimp only[yl]at e;cases q:aA yl r with
   |none=>rw[q]at e;ext e
   |some es=>rw[q]at e;ext e;rw[Wl,<-BR q]
  |rf i=>ext e
  |tp l=>ext e
def Iv(s:WM B K H X ω)(e:Yv (ow B X ω) K H X C xs)(w:WS K E B H X ω (PQ B K Q) (t8 F n xs ω)):kh K n F C H Q E:=by
 unfold t8 at w;by_cases hn:xs.length=n
 .rw[ax hn]at w
  show#[e.length.trans hn,?_];cases q:aA yl xs with
  |none=>rw[q]at w;show w.elim
  |some ds=>
   rw[q]at w;dsimp only at w;let l:=BR q;show#[ow B X ω,[],[],ds.map .fz,Gf s.owd,?_,?_]
   .rw[l]at e;show j4 _ _ ((Fb e).ev (Ev.sub λb z=>z.elim id λ#[i,c,q,_]=>by simp at q))
   .cases m:F (ds.map .fz) []with
    |bad=>rw[m]at w;show w.elim
    |ok x Z=>rw[m]at w;show λY H' f j v a=>Dv s w f j a
    |er x Z=>
     rw[m]at w;intro c p Y H' f j k;let g:=λb o h=>f.kp b o h λ#[i,c,q,_]=>by simp at q
     show w c p X H' (XX.same g) (s.grow g) (XOk.sub (λb z=>.inl z) k)
 .rw[aE hn]at w;show w.elim
def B3(c:ut K E o C):cb K E (kF (kh K n F) [] E0 o) (tF F n C):=by intro B σ H X ω ρ Q s b w;show c B σ H X ω ρ _ s b (w.bind.imp λxs U ω1 H1 e1 e a g f=>?_);rw[WL];show Iv e f (WS.e0 a)
def Sz(F:fD):FN:=λds=>match F (ds.map .fz) []with
 |.ok (.fz d) _=>.ok (.fz d)
 |.ok (.rf i) ω=>(match sh ω (.rf i)with
  |some (.list ds)=>.ok (.ow ds)
  |_=>.bad)
 |.ok (.tp _) _=>.bad
 |.er x _=>.er x
 |.bad=>.bad
def PY(h:CM K n (Sz F) vs H Q E):kh K n F vs H Q E:=by
 let(u,B,ds,A,G,w):=h;show#[u,B,[],[],ds.map .fz,Gf A,j4 _ _ (G.ev (Ev.sub λb z=>z.elim id λ#[i,c,q,_]=>by simp at q)),?_];unfold Sz at w;cases L:F (ds.map .fz) []with
 |bad=>rw[L]at w;show w.elim
 |er x Z=>rw[L]at w;intro c S Y H' f j k;show w c S H' (λb o h=>f.kp b o h λ#[i,c,q,_]=>by simp at q) (XOk.sub (λb z=>.inl z) k)
 |ok x Z=>
  rw[L]at w;intro Y H' f j v m;let g:=λb o h=>f.kp b o h λ#[i,c,q,_]=>by simp at q
  cases x with
  |fz d=>show w v H' g (DV.ev (Ev.sub λb z=>.inl z) m)
  |tp l=>show w.elim
  |rf i=>
   dsimp only at w;cases J:sh Z (.rf i)with
   |none=>rw[J]at w;show w.elim
   |some d=>
    rw[J]at w;cases d with
    |list es=>let(a,p,N,C,y,t):=mi j J;let(xs,r,_):=v5 J;let(I,e,rfl):=m;rw[N]at e;ext e;show w a p H' g ((f.lv a #[i,_,N,r,by intro z;ext z]).elim (λ#[i,c,q,_]=>by simp at q) id) C (y.ev (Ev.sub λb z=>z.elim (λz=>.inl z) λz=>by rw[z];show t))
    |_=>show w.elim
end
def oA(P:Ws)(w:WO)(K:lD)(d:Str->z B)(base:Heap)(a:u6)(k:Nat)(C m:Str)(c:G Str)(sp:Sp):Prop:=
 ∃b f fd,WC K Wr C=M (M (.ref b))/\Cls K b/\Meth K b m f/\FnOk P w K d base a k f fd c sp/\Binds K fd c []
def yg(P:Ws)(w:WO)(K:lD)(d:Str->z B)(base:Heap)(a:u6)(k:Nat)(C:Str)(c:G Str)(sp:Sp):Prop:=
 ∃b f fd,WC K Wr C=M (M (.ref b))/\d C=M (.ref b)/\Mk K b f/\FnOk P w K d base a k f fd c sp/\Binds K fd c []
def on(K:lD)(C m:Str)(sp:Sp)(E:XK)(c:TE)(t:TA):TE:=λa H Q=>∃b,WC K Wr C=M (M (.ref b))/\tZ b m sp [] E c t a H Q
def zF(K:lD)(C:Str)(sp:Sp)(E:XK)(t:TA):TE:=λa H Q=>∃b,WC K Wr C=M (M (.ref b))/\wT b sp [] E t a H Q
section
variable{X:Cx}{Y:u6}{E:XK}{k j:Nat}{C m:Str}{A:bg Str}{S:Sp}{o e:Ww}{es:bg Ww}{U:TE}{t:TA}{Z T p:Pos}
def M3(M:oA X.prog X.w X.K X.mg X.base Y k C m A S)(n:dG Y X E)(r:X0 j X.A)(u:PE X o U)(c:PA X (e::es) t)(g:k<=j:=by decide)
  (cV:Wn (e::es) X.env=(V4,eval e X.env)::Wn es X.env:=by rfl) (b:(backTo T (Wn es X.env)).any (·.1)=V4:=by rfl)
  (q:eval (.Call (.Attribute o m Z) (e::es) [] T) X.env=(do
   let ov<-eval o X.env
   standAt Z.atName
   let(f,first)<-holding [ov] (getMethod ov m pl)
   callWith T f first (backTo T (Wn (e::es) X.env)) (backToKw T (keywordEach [] X.env))):=by rfl):PE X (.Call (.Attribute o m Z) (e::es) [] T) (on X.K C m S E U t):=by
 let(L,f,G,F,B,z,y,v):=M;intro a s l H Q I #[J,i,h];rw[F]at i;ext i;show MC u B z y (r.mono g) v .nil n c cV b q a s l H Q I h
def Oz(M:oA X.prog X.w X.K X.mg X.base Y k C m A S)(l:dG Y X E)(q:X0 j X.A)(r:PE X o U)(b:k<=j:=by decide)
  (n:eval (.Call (.Attribute o m Z) [] [] T) X.env=(do
   let ov<-eval o X.env
   standAt Z.atName
   let(f,first)<-holding [ov] (getMethod ov m pl)
   callWith T f first (backTo T (Wn [] X.env)) (backToKw T (keywordEach [] X.env))):=by rfl):PE X (.Call (.Attribute o m Z) [] [] T) (on X.K C m S E U g6):=by
 let(J,f,F,B,z,y,v,u):=M;intro a s i H Q I #[G,g,h];rw[B]at g;ext g;show Gw r z y v (q.mono b) u .nil l n a s i H Q I h
def MN(M:yg X.prog X.w X.K X.mg X.base Y k C A S)(q:dG Y X E)(r:X0 j X.A)(c:PA X (e::es) t)(g:k+1<=j:=by decide)(u:Gl X C:=by rfl)
  (i:(C==("__debug__":Str))=V4:=by decide) (v:Wn (e::es) X.env=(V4,eval e X.env)::Wn es X.env:=by rfl) (b:(backTo T (Wn es X.env)).any (·.1)=V4:=by rfl):
  PE X (.Call (.Name C p) (e::es) [] T) (zF X.K C S E t):=by
 let(N,f,J,G,F,B,z,y):=M;intro a s n H Q I #[L,l,h];rw[G]at l;ext l;show MD B z (r.mono g) u F y .nil q c i v b a s n H Q I h
end
section
variable{K:lD}{E:XK}{C m:Str}{F:fD}{n:Nat}{to:TE}{Z:TA}{X:c8}{Y:ww}{L:bg Str}
def HN(a:lx K C L)(f:cb K E to X)(c:ut K E Z Y):cb K E (on K C m (kh K n F) E to Z) (jH C m F n X Y):=by let(g,a,_):=a;show λB b H α h i Q s e w=>#[g,a,EA a f c B b H α h i Q s e w]
def Bq(a:lx K C L)(f:cb K E to X)(c:ut K E Z Y):cb K E (on K C m (kh K n F) E0 to Z) (aL C m F n X Y):=by let(g,a,_):=a;show λB b H α h i Q s e w=>#[g,a,Cd a f c B b H α h i Q s e w]
def OY(a:lx K C L)(c:ut K E Z Y):cb K E (zF K C (kh K n F) E Z) (yT C F n Y):=by let(f,a,_):=a;show λB b H α g h Q s e w=>#[f,a,JL a c B b H α g h Q s e w]
def MJ(a:lx K C L)(c:ut K E Z Y):cb K E (zF K C (kh K n F) E0 Z) (qU C F n Y):=by let(f,a,_):=a;show λB b H α g h Q s e w=>#[f,a,Gg a c B b H α g h Q s e w]
end
section
variable{ρ ρ1 S:aW}{T X Z Y Q:aP}{x y z:SV}{i n:Nat}{d dx dy:D}{ds:bg D}{b:Bool}
def aQ(h:ρ[i]?=M (M x)):am i ρ T=.ok x T:=by ext am;rw[h]
def ah(h:f (bj ρ)=.ok (.fz d,ρ')):af f ρ T=.ok (.fz d) T:=by ext af;rw[h]
def dS(h:f (bj ρ)=.ok (.ow ds,ρ')):af f ρ T=.ok (.rf T.length) (T++[.lst (ds.map .fz)]):=by ext af;rw[h];rfl
def bu(h:f (bj ρ)=.ok (b,o)):bJ f ρ T=.ok b T:=by ext bJ;rw[h]
def hV(h:f (bj ρ)=.ok (ds,o)):ei f ρ T=.ok ds T:=by ext ei;rw[h]
def dr(g:e ρ T=.ok (.rf i) X)(h:X[i]?=M (.obj C fs))(a:fs.lookup f=M x):aJ C f e ρ T=.ok x X:=by ext aJ;rw[g,en];dsimp only;rw[h];dsimp only;rw[ax W,a];rfl
def cZ(c:o ρ T=.ok x X)(e:fb ρ X=.ok y Z)(a:pL f x y Z=.ok z Y):jK f o fb ρ T=.ok z Y:=by ext jK;rw[c,en,e,en,a]
def bW(h:f dx dy=M (.fz d)):pL f (.fz dx) (.fz dy) T=.ok (.fz d) T:=by ext pL;show((RS.W5 T (f dx dy)).bind λa X=>lP X a)=_;rw[h];rfl
def vh(e:sh T x=M dx)(a:sh T y=M dy)(h:f dx dy=M (.fz d)):pL f x y T=.ok (.fz d) T:=by ext pL;rw[e,a];show((RS.W5 T (f dx dy)).bind λg X=>lP X g)=_;rw[h];rfl
def PR(a:sh T x=R\/sh T y=R)(j:pd 6 T x=M dx)(g:pd 6 T y=M dy)(h:f dx dy=M (.fz d))(hd:BX d=P):pL f x y T=.ok (.fz d) T:=by
 let e:((RS.W5 T (pd 6 T x)).bind λdx X=>(RS.W5 X (pd 6 X y)).bind λdy Z=>(RS.W5 Z (f dx dy)).bind λl Y=>o0 Y l)=.ok (.fz d) T:=by rw[j];show((RS.W5 T (pd 6 T y)).bind λdy Z=>(RS.W5 Z (f dx dy)).bind λl Y=>o0 Y l)=_;rw[g];show((RS.W5 T (f dx dy)).bind λl Y=>o0 Y l)=_;rw[h];show(if BX d=P then RS.ok (SV.fz d) T else RS.bad)=_;rw[ax hd]
 ext pL;rcases a with a|a
 .rw[a];show e
 .rw[a];cases sh T x<;>show e
theorem nk:∀ds:G D,aA yl (ds.map .fz)=M ds
 |[]=>rfl
 |d::r=>by rw[Wl];ext aA;rw[nk r];rfl
def df(h:T[i]?=M (.lst (ds.map .fz))):sh T (.rf i)=M (.list ds):=by ext sh;dsimp only;rw[h];dsimp only;rw[nk];rfl
def aV(h:o ρ T=.ok (.fz (.bool b)) X):aZ o ρ T=.ok b X:=by ext aZ;rw[h];rfl
def jc(h:o ρ T=.ok P X)(k:fb ρ X=r):mn o fb ρ T=r:=by ext mn;rw[h,en,ax W,k]
def gU(h:o ρ T=.ok I X):mn o fb ρ T=.ok I X:=by ext mn;rw[h,en,aE Wv]
def mS(h:o ρ T=.ok P X):zS o fb ρ T=.ok P X:=by ext zS;rw[h,en,ax W]
def kj(h:o ρ T=.ok I X)(k:fb ρ X=r):zS o fb ρ T=r:=by ext zS;rw[h,en,aE Wv,k]
def ve(h:o ρ T=.ok b X):v9 o ρ T=.ok (!b) X:=by ext v9;rw[h];rfl
def tt(h:aZ o ρ T=.ok P X)(k:fb ρ X=r):wQ o fb ρ T=r:=by ext wQ;rw[h,en,ax W,k]
def Dc(h:aZ o ρ T=.ok I X):wQ o fb ρ T=.ok (.fz (.bool I)) X:=by ext wQ;rw[h,en,aE Wv]
def KC(h:c ρ T=.ok P X)(k:o ρ X=r):M8 c o fb ρ T=r:=by ext M8;rw[h,en,ax W,k]
def LR(h:c ρ T=.ok I X)(k:fb ρ X=r):M8 c o fb ρ T=r:=by ext M8;rw[h,en,aE Wv,k]
theorem aC:av ρ T=.ok [] T:=W
def aq(c:o ρ T=.ok x X)(a:fr ρ X=.ok xs Z):ai o fr ρ T=.ok (x::xs) Z:=by ext ai;rw[c,en,a,en]
def oh(c:o ρ T=.ok (ds.map .fz) X)(a:ds.length<=1000):ky o ρ T=.ok (.fz (.tuple ds)) X:=by ext ky;rw[c,en,V1,ax a];ext TW;rw[nk];rfl
def NX(c:o ρ T=.ok xs X)(a:xs.length<=1000)(f:aA yl xs=R)(e:aA TY xs=M l):ky o ρ T=.ok (.tp l) X:=by ext ky;rw[c,en,ax a];ext TW;rw[f];dsimp only;rw[e];rfl
def lL(c:o ρ T=.ok xs X)(a:aA (sh X) xs=M ds)(h:f ds=M (.fz d)):i4 f o ρ T=.ok (.fz d) X:=by ext i4;rw[c,en];ext sQ;rw[a];show((RS.W5 X (f ds)).bind λe X=>lP X e)=_;rw[h];rfl
def y9(e:o ρ T=.ok (ds.map .fz) X)(c:ds.length=n)(a:F ds=.ok (.fz d)):iY F n o ρ T=.ok (.fz d) X:=by ext iY;rw[e,en];ext xz;rw[V1,ax c,nk];dsimp only;rw[a];rfl
def wu(e:o ρ T=.ok (ds.map .fz) X)(c:ds.length=n)(a:F ds=.ok (.ow es)):iY F n o ρ T=.ok (.rf X.length) (X++[.lst (es.map .fz)]):=by ext iY;rw[e,en];ext xz;rw[V1,ax c,nk];dsimp only;rw[a];rfl
theorem wK:gz (RS.ok a T)=.ok a T:=W
def AJ(e:o ρ T=.ok (.rf i) X)(f:X[i]?=M (.obj C fs))(hm:fs.lookup m=R)(h:J ρ X=.ok xs Z)(c:(SV.rf i::xs).length=n)(g:F (.rf i::xs) Z=.ok x Y):aL C m F n o J ρ T=.ok x Y:=by
 let a:lJ X C m (.rf i)=P:=by ext lJ;dsimp only;rw[f];dsimp only;rw[hm,a4 W];rfl
 ext aL;rw[e,en,ax a,h,en,ax c,g];rfl
def P1(e:o ρ T=.ok xs X)(c:(SV.rf X.length::xs).length=n)(a:F (.rf X.length::xs) (X++[.obj C []])=.ok (.fz .none) Z):qU C F n o ρ T=.ok (.rf X.length) Z:=by ext qU;rw[e,en];ext tU;rw[ax c,a,en,ax (show CY (.fz .none)=P from rfl)];rfl
def bX(c:o ρ T=.ok (.fz dx) X)(a:fb ρ X=.ok (.fz dy) Z)(h:aX dx dy=M (.fz d)):gf o fb ρ T=.ok (.fz d) Z:=by ext gf;rw[c,en,a,en];show bW h
def vL(a:fo ρ T=.ok (.rf i) X)(h:X[i]?=M (.lst xs))(f:fe ρ X=.ok x Z)(g:Z[i]?=M (.lst ys))(e:ys.length<1000000):jB fo fe ρ T=.ok (.fz .none) (Z.set i (.lst (ys++[x]))):=by
 let e1:ig X (.rf i)=M (i,xs):=by ext ig;dsimp only;rw[h]
 let e2:ig Z (.rf i)=M (i,ys):=by ext ig;dsimp only;rw[g]
 ext jB;rw[a,en,e1];show((fe ρ X).bind _)=_;rw[f,en,e2];show(if ys.length<1000000 then _ else _)=_;rw[ax e]
def lZ(h:T[i]?=M (.dct o)):gY T (.rf i)=M (i,o):=by ext gY;dsimp only;rw[h]
def zh(a:o ρ T=.ok x X)(hd:fd ρ X=.ok (.rf i) Z)(f:sU x=M k)(e:Z[i]?=M (.dct C)):sT neg o fd ρ T=.ok (.fz (.bool ((jn C k).isSome !=neg))) Z:=by ext sT;rw[a,en,hd,en,f];show((RS.W5 Z (gY Z (.rf i))).bind _)=_;rw[lZ e];rfl
def Jb(hd:fd ρ T=.ok (.rf i) X)(a:C ρ X=.ok x Z)(g:sU x=M k)(f:Z[i]?=M (.dct o))(e:jn o k=M y):qV fd C ρ T=.ok y Z:=by ext qV;rw[hd,en,a,en,g];show((RS.W5 Z (gY Z (.rf i))).bind _)=_;rw[lZ f];show RS.W5 Z (jn o k)=_;rw[e];rfl
def JM(a:C ρ T=.ok y X)(hd:fd ρ X=.ok (.rf i) Z)(f:J ρ Z=.ok x Y)(h:sU x=M k)(g:Y[i]?=M (.dct o))(e:o.length<1000000):ud fd J C ρ T=.ok (.nx ρ) (Y.set i (.dct (jF o k y))):=by ext ud;rw[a,en,hd,en,f,en,h];show((RS.W5 Y (gY Y (.rf i))).bind _)=_;rw[lZ g];show(if o.length<1000000 then _ else _)=_;rw[ax e]
def LN(hd:fd ρ T=.ok (.rf i) X)(h:X[i]?=M (.dct J))(a:C ρ X=.ok x Z)(g:sU x=M k)(f:Z[i]?=M (.dct o))(e:jn o k=M y):um fd C ρ T=.ok y (Z.set i (.dct (mB o k))):=by ext um;rw[hd,en,lZ h];show((C ρ X).bind _)=_;rw[a,en,g];show((RS.W5 Z (gY Z (.rf i))).bind _)=_;rw[lZ f];show((RS.W5 Z (jn o k)).bind _)=_;rw[e];rfl
def Kx(hd:fd ρ T=.ok (.rf i) X)(h:X[i]?=M (.dct o)):xZ fd ρ T=.ok (.rf X.length) (X++[.lst (o.map (·.2))]):=by ext xZ;rw[hd,en,lZ h];rfl
def KW(hd:fd ρ T=.ok (.rf i) X)(h:X[i]?=M (.dct o))(e:aA yr (o.map (·.1))=M ns)(a:ns.length<64):rS fd ρ T=.ok (.rf X.length) (X++[.lst ((jX ns).map λi=>SV.fz (.int i))]):=by ext rS;rw[hd,en,lZ h];show((RS.W5 X (aA yr (o.map (·.1)))).bind _)=_;rw[e];show(if ns.length<64 then _ else _)=_;rw[ax a]
def JS(a:C ρ T=.ok x X)(h:wo x=M o):tM C ρ T=.ok (.rf X.length) (X++[.dct (ma [] o)]):=by ext tM;rw[a,en,h];rfl
variable{L:FlS}{r:RS FlS}
def ci(h:f ρ T=.ok (.nx ρ1) X)(k:g ρ1 X=r):aG f g ρ T=r:=by ext aG;rw[h,en];show k
def og(h:f ρ T=.ok (.rt x) X):aG f g ρ T=.ok (.rt x) X:=by ext aG;rw[h];rfl
def gh(h:c ρ T=.ok P X)(k:f ρ X=r):bZ c f g ρ T=r:=by ext bZ;rw[h,en,ax W,k]
def i6(h:c ρ T=.ok I X)(k:g ρ X=r):bZ c f g ρ T=r:=by ext bZ;rw[h,en,aE Wv,k]
def gq(h:f ρ T=.ok x X):fK f ρ T=.ok (.rt x) X:=by ext fK;rw[h];rfl
def iK(h:f ρ T=.ok x X):bc f ρ T=.ok (.nx ρ) X:=by ext bc;rw[h];rfl
def ka(h:f ρ T=.ok x X)(e:ρ.set i (M x)=ρ1):b8 f (cT i) ρ T=.ok (.nx ρ1) X:=by subst e;ext b8;rw[h];rfl
theorem iL:cJ ρ T=.ok (.nx ρ) T:=W
def jx(h:J ρ T=.ok x X)(a:o ρ X=.ok (.rf i) Z)(j:Z[i]?=M (.obj C fs))(g:fs.length<100):dM C f o J ρ T=.ok (.nx ρ) (Z.set i (.obj C (fH f x fs))):=by
 let e:Hz Z C (.rf i)=M (i,fs):=by ext Hz;dsimp only;rw[j];dsimp only;rw[ax W]
 ext dM;rw[h,en,a,en,e];show(if fs.length<100 then _ else _)=_;rw[ax g]
def oB(h:f ρ T=.ok x X)(k:frz 4 X x=M (d,Z)):ke f ρ T=.ok (.fz d) Z:=by ext ke;rw[h,en];ext Mv;rw[k]
def hJ(e:xs.map M++Wd (N - xs.length) R=ρ)(h:g ρ T=.ok (.rt x) X):cz N g xs T=.ok x X:=by subst e;ext cz;rw[h];rfl
def nv(e:xs.map M++Wd (N - xs.length) R=ρ)(h:g ρ T=.ok (.nx ρ1) X):cz N g xs T=.ok (.fz .none) X:=by subst e;ext cz;rw[h];rfl
end
section
variable{ρ S L:aW}{Y X Z J A:aP}{x y z:SV}{i n:Nat}{d u t:D}{ds:bg D}{b:Bool}
theorem gP(e:α->D)(f:α->SV)(Y:aP)(I:aW->Prop):∀(xs:G α) (ρ:aW) (acc:G SV),I ρ->acc.length+xs.length<=1000000->(∀x∈xs,∀ρ,I ρ->∃c,gt (.fz (e x)) ρ Y=.ok c Y/\C c Y=.ok P Y/\fe c Y=.ok (f x) Y/\I c)->bH gt C fe (xs.map e) ρ Y acc=.ok (acc++xs.map f) Y
 |[],ρ,acc,_,_,_=>by show RS.ok acc Y=_;rw[YK,WL]
 |x::r,ρ,acc,h0,o,m=>by let(c,l,j,h,g):=m x Wk ρ h0;rw[Wi]at o;show((gt (.fz (e x)) ρ Y).bind _)=_;rw[l,en,j,en,ax W,h,en,ax (),gP e f Y I r c _ g (by rw[V8,Z5];ext) λy a=>m y (Wf _ a),Wy];rfl
def gK(c:C ρ Y=.ok ds X)(a:bH gt o fe ds (d7 n fj ρ) X []=.ok xs Z):dw n fj C gt o fe ρ Y=.ok (.rf Z.length) (Z++[.lst xs]):=by ext dw;rw[c,en,a,wK,en]
theorem pY(m:Nat):∀(ds:G D),ju (frz m) Y (ds.map .fz)=M (ds,Y)
 |[]=>rfl
 |d::r=>by rw[Wl];ext ju;rw[show frz m Y (.fz d)=M (d,Y) by ext m<;>rfl];dsimp only;rw[pY m r]
def jj(h:Y[i]?=M (.lst (ds.map .fz))):frz 4 Y (.rf i)=M (.list ds,Y.set i .dead):=by ext frz;rw[h];dsimp only;rw[pY]
def Fz(h:o ρ Y=.ok (.rf i) X)(a:X[i]?=M (.lst (ds.map .fz))):ef o ρ Y=.ok ds (X.set i .dead):=by ext ef;rw[h,en,jj a];rfl
def Uj(N C:aW->aP->Prop)(T:SV->aP->Prop):RS FlS->Prop
 |.ok (.nx ρ) Y=>N ρ Y
 |.ok (.ct ρ) Y=>C ρ Y
 |.ok (.rt v) Y=>T v Y
 |_=>False
structure Zb(r:RS FlS)(N C:aW->aP->Prop)(T:SV->aP->Prop):Prop where
 out:Uj N C T r
variable{f g:dX}{Q:c8}{N C:aW->aP->Prop}{T:SV->aP->Prop}
def Zb.eq(e:r=r')(h:Zb r' N C T):Zb r N C T:=by rw[e];show h
def sB(h:Zb (f ρ Y) (λr o=>Zb (g r o) N C T) C T):Zb (aG f g ρ Y) N C T:=by
 show#[?_];let h:=h.out;ext aG;cases q:f ρ Y with
 |bad=>rw[q]at h;show h.elim
 |er x o=>rw[q]at h;show h.elim
 |ok a o=>
  rw[q]at h;cases a with
  |nx r=>show(show Zb (g r o) N C T from h).out
  |ct r=>show h
  |rt v=>show h
  |bk r=>show h.elim
def xH(h:c ρ Y=.ok b X)(a:b=P->Zb (f ρ X) N C T)(e:b=I->Zb (g ρ X) N C T):Zb (bZ c f g ρ Y) N C T:=by
 ext bZ;rw[h,en];cases b with
 |true=>show a W
 |false=>show e W
theorem qB(e:c ρ Y=.ok P X)(a:Zb (f ρ X) N C T):Zb (bZ c f g ρ Y) N C T:=xH e (λ_=>a) λh=>by ext h
theorem dR(e:c ρ Y=.ok I X)(a:Zb (g ρ X) N C T):Zb (bZ c f g ρ Y) N C T:=xH e (λh=>by ext h) λ_=>a
def QV(e:Q ρ Y=.ok x X)(a:gt x ρ X=.ok S Z)(h:N S Z):Zb (b8 Q gt ρ Y) N C T:=by show#[?_];ext b8;rw[e,en,a,en];show h
theorem nc(a:f ρ Y=.ok (.nx S) X)(h:N S X):Zb (f ρ Y) N C T:=#[by rw[a];show h]
theorem Tw(a:f ρ Y=.ok (.rt x) X)(h:T x X):Zb (f ρ Y) N C T:=#[by rw[a];show h]
theorem iM(a:Q ρ Y=.ok x X)(h:N ρ X):Zb (bc Q ρ Y) N C T:=nc (iK a) h
theorem Pk(a:Q ρ Y=.ok x X)(h:T x X):Zb (fK Q ρ Y) N C T:=Tw (gq a) h
theorem LH(h:T (.fz .none) Y):Zb (rp ρ Y) N C T:=#[h]
theorem lh(h:N ρ Y):Zb (cJ ρ Y) N C T:=#[h]
theorem jq{gt:wZ}(e:Q ρ Y=.ok x X)(a:gt x ρ X=.ok S Z)(h:Zb (g S Z) N C T):Zb (aG (b8 Q gt) g ρ Y) N C T:=sB (QV e a h)
theorem Bi(a:f ρ Y=.ok (.nx S) X)(h:Zb (g S X) N C T):Zb (aG f g ρ Y) N C T:=sB (nc a h)
theorem kJ(a:Q ρ Y=.ok x X)(h:Zb (g ρ X) N C T):Zb (aG (bc Q) g ρ Y) N C T:=sB (iM a h)
def xn{h a:dX}(m:c ρ Y=.ok b X)(j:b=P->Zb (aG h g ρ X) N C T)(l:b=I->Zb (aG a g ρ X) N C T):Zb (aG (bZ c h a) g ρ Y) N C T:=by
 let e:aG (bZ c h a) g ρ Y=if b=P then aG h g ρ X else aG a g ρ X:=by unfold aG bZ;rw[m,en];ext b<;>rfl
 show .eq e ?_;cases b with
 |true=>show j W
 |false=>show l W
theorem vk{a l:dX}(j:c ρ Y=.ok P X)(e:Zb (aG a g ρ X) N C T):Zb (aG (bZ c a l) g ρ Y) N C T:=xn j (λ_=>e) λh=>by ext h
theorem r8{l a:dX}(j:c ρ Y=.ok I X)(e:Zb (aG a g ρ X) N C T):Zb (aG (bZ c l a) g ρ Y) N C T:=xn j (λh=>by ext h) λ_=>e
theorem vX(h:T (.fz .none) Y):Zb (aG rp g ρ Y) N C T:=sB (LH h)
theorem nj(h:Zb (g ρ Y) N C T):Zb (aG cJ g ρ Y) N C T:=sB (lh h)
def QI{a e:dX}(h:Zb (aG a (aG e g) ρ Y) N C T):Zb (aG (aG a e) g ρ Y) N C T:=by
 show .eq ?_ h;ext aG;cases a ρ Y with
 |bad=>rfl
 |er x o=>rfl
 |ok j o=>ext j<;>rfl
def Py(a:xs.map M++Wd (n - xs.length) R=ρ)(h:Zb (g ρ Y) (λ_ c=>T (.fz .none) c) (λ_ _=>False) T):∃x c,cz n g xs Y=.ok x c/\T x c:=by
 let h:=h.out;ext cz;rw[a];cases q:g ρ Y with
 |bad=>rw[q]at h;show h.elim
 |er x o=>rw[q]at h;show h.elim
 |ok e o=>
  rw[q]at h;cases e with
  |nx r=>show#[_,_,W,h]
  |ct r=>show h.elim
  |rt v=>show#[_,_,W,h]
  |bk r=>show h.elim
def iR{W:aP->Prop}(a:xs.map M++Wd (n - xs.length) R=ρ)(h:Zb (g ρ Y) (λ_ c=>SV.fz .none=v/\W c) (λ_ _=>False) (λr c=>r=v/\W c)):∃c,cz n g xs Y=.ok v c/\W c:=by let(x,c,l,j,e):=Py (T:=λr c=>r=v/\W c) a h;show#[c,by rw[l,j],e]
end
end L10
namespace L10
open PySem PySem.SeqAt PySem.Spec PySem.W PyProof.Rows L2 L3
section
variable{K:lD}{E:XK}
def qY(k:Int):G Int->z Nat
 |[]=>R
 |n::r=>if n=k then M 0 else(qY k r).map (·+1)
theorem v7{k:Int}:∀{ns:G Int} {j:Nat},qY k ns=M j->ns[j]?=M k/\∀m,m<j->ns[m]?≠M k
 |[],_,h=>by ext h
 |n::r,j,h=>by
  unfold qY at h;split at h
  .rename_i e;ext h;show#[by rw[<-e];rfl,λm hm=>by ext]
  .rename_i e
   cases q:qY k r with
   |none=>rw[q]at h;ext h
   |some i=>
    rw[q]at h;ext h;let(b,a):=v7 q;show#[b,λm hm=>?_];cases m with
    |zero=>intro z;show e (Wm z)
    |succ m=>show a m (by let hm:m+1<i+1:=hm;ext)
def Gp(K:lD):V->G V->Hp->VK->Prop:=λx xs H Q=>∃(l:U) (a:G Int) (k:Int) (j:Nat),x=.ref l/\ZV K H l (a.map V.int)/\xs=[.int k]/\a[j]?=M k/\(∀m,m<j->a[m]?≠M k)/\j<1000/\Q (.int (j:Nat)) H
def Cf{X:Cx}:QL X "list.index" (Gp X.K):=by
 rintro C s U H x xs v Y Q I N f ⟨l,w,k,j,rfl,hl,rfl,hj,hno,hs,q⟩;obtain rfl:v=.ref l:=N;let(u,rfl,g):=f.one;let(t,rfl):=g;let(b,r,(o,n,J,T,hd,A),_):=I.list hl;let L:b.length=w.length:=by let:=r.length;rw[V1]at this;show this.symm
 let a:∀(m:Nat) (hm:m<b.length),∃t,b[m]=.int (w[m]'()) t:=λm hm=>by let(u,G,g):=r.get (i:=m) (x:=.int (w[m]'())) (by rw[Wg,V9 ()];rfl);let(t,rfl):=g;rw[V9 hm]at G;show#[t,Wm G]
 let(Z,R):=V2.mp hj;let(P,O,p,h):=o;obtain rfl:P=.type "list":=T;obtain rfl:p=.seq b.toArray n:=A;show ZE abw #[_,J,W] PySem.F.entry_list_index (PySem.F.args_list_index_2 _ _) (list_indexAt l b.toArray n O h (.int k t) (Ld.isInt k) j (by rw[Wt];ext) () ?_ λm hm lt=>?_) #[J,λy S=>?_,?_]
 .let(t,e):=a j ();rw[ac9,e,R];simp[Ld.isInt]
 .let B:m<b.length:=by rw[Wt]at hm;show hm
  let(t,e):=a m B;rw[ac9,e];let:=hno m lt;rw[V9 ()]at this;simp only[Ld.isInt];show beq_eq_false_iff_ne.mpr λz=>this (by rw[z])
 .let(m,hm,rfl):=ac7.mp (by simpa using S:y∈b);let(M,e):=a m hm;rw[e];show(MeetsSeq.EqGives.int _ k M t).at _ _
 .show#[.int (j:Nat),H,I.tok _,#[_,W],q]
def Gs(ds:G D)(d:D):z Nat:=match jR ds,d with
 |some ns,.int k=>(match qY k ns with
  |some j=>if j<1000 then M j else R
  |none=>R)
 |_,_=>R
def EU(c:FE)(b:aU):z (z PV)->Res (PV×aU)
 |some (M (.fz (.list ds)))=>(c b).bind λa=>(Res.W5 (sH a.2 a.1)).bind λd=>(Res.W5 (Gs ds d)).bind λj=>.ok (.fz (nd j),a.2)
 |_=>.bad
def C8(i:Nat)(b:FE):FE:=λa=>EU b a a[i]?
def Pu{i:Nat}{c:TE}{s:FE}(C:EO K E c s):EO K E (Ol K "list" (Gp K) (pQ i) (d6 c g6)) (C8 i s):=by
 intro B N O r H Y Q R w;unfold C8 at w;cases S:Y[i]? with
 |none=>rw[S]at w;show w.elim
 |some o=>
  cases o with
  |none=>rw[S]at w;show w.elim
  |some pv=>
   cases pv with
   |ow ds=>rw[S]at w;show w.elim
   |pl j=>rw[S]at w;show w.elim
   |fz G=>
    cases G with
    |list ds=>
     rw[S]at w;let(v,F,n):=R.slot i _ S;let n:L3.DV O K H v (.list ds):=n;cases n with
     |lst e m=>
      show#[_,F,.inl #[W,_,e.1.sq],?_];show C B N O r H Y _ R (WR.imp (WR.bind w) λb g L y M e1 q z=>?_);let(d,u,g):=g.W5;let(j,a,t):=g.W5;let h:=jC q z u;unfold Gs at a;cases X:jR ds with
      |none=>rw[X]at a;ext a
      |some p=>
       rw[X]at a;cases d with
       |int k=>
        dsimp only at a;cases T:qY k p with
        |none=>rw[T]at a;ext a
        |some A=>
         rw[T]at a;dsimp only at a;by_cases l:A<1000
         .rw[ax l]at a
          ext a;let h:y=.int k:=by ext h;rfl
          subst h;let(J,I):=v7 T;let f:=e.ev e1;let ev:=kS m X;rw[ev]at f;show#[_,p,k,_,W,f.1.sq,W,J,I,l,t L _ M e1 q (.int _)]
         .rw[aE l]at a;ext a
       |_=>ext a
    |_=>rw[S]at w;show w.elim
end
end L10
namespace L10
open PySem PyProof.Rows L2 L3
section
variable{B O J:bG}{K:lD}{E:XK}{H C A u:Hp}{t S Q N:bg V5}{T L Y Z:aP}{r:L2.St}{X:aW}{v:V}
def rY{c a:c8}{y z:SV}{i:Nat}{n:Int}{xs:G SV}(g:c X T=.ok (.rf i) Y)(f:a X Y=.ok y Z)(d:Hi y=M n)(b:Z[i]?=M (.lst xs))(e:lz xs n=M z):gf c a X T=.ok z Z:=by ext gf;rw[g,en,f,en];ext QK;simp only[b,d];show RS.W5 Z (lz xs n)=_;rw[e];rfl
end
end L10
namespace L10
open PySem PyProof.Rows L2 L3
section
variable{O Z:bG}{K:lD}{H X:Hp}{a b:V5}{T:bg V}{Y:Heap->Prop}
def TH(a:U)(O:bG)(H:Hp)(Z:bG)(X:Hp):Prop:=∀b o,b≠a->H b=M o->¬O b->X b=M o/\¬Z b
def aaW.evx(i:H a=M (.ext Y))(h:aaW O K H b T)(e:TH a O H Z X):aaW Z K X b T:=by
 let(h,k):=h;by_cases z:O b
 .show#[Ze.same (kK X) (k z),λ_=>k z]
 .rcases h with(h|⟨o,h⟩)|h
  .let(g,f):=e b _ (λy=>by rw[y,i]at h;ext h) h z;show#[.inl (.inl g),λy=>a7 y f]
  .let(g,f):=e b _ (λy=>by rw[y,i]at h;ext h) h z;show#[.inl (.inr #[o,g]),λy=>a7 y f]
  .show#[.inr h,λ_=>.inr h]
def Z4.evx(i:H a=M (.ext Y))(h:Z4 O K H b T)(e:TH a O H Z X):Z4 Z K X b T:=by
 let(h,k):=h;by_cases z:O b
 .show#[(kK X).tup (k z),λ_=>k z]
 .rcases h with(h|⟨o,h⟩)|h
  .let(g,f):=e b _ (λy=>by rw[y,i]at h;ext h) h z;show#[.inl (.inl g),λy=>a7 y f]
  .let(g,f):=e b _ (λy=>by rw[y,i]at h;ext h) h z;show#[.inl (.inr #[o,g]),λy=>a7 y f]
  .show#[.inr h,λ_=>.inr h]
mutual
theorem DV.evx(f:H a=cL (.ext Y))(e:TH a O H Z X):∀{v:V} {d:D},L3.DV O K H v d->L3.DV Z K X v d
 |_,_,.Yf=>.Yf
 |_,_,.bl b=>.bl b
 |_,_,.int i=>.int i
 |_,_,.str x=>.str x
 |_,_,.tup h hs=>.tup (Z4.evx f h e) (XU.evx f e hs)
 |_,_,.lst h hs=>.lst (aaW.evx f h e) (XU.evx f e hs)
theorem XU.evx(f:H a=cL (.ext Y))(e:TH a O H Z X):∀{vs:bg V} {ds:bg D},L3.XU O K H vs ds->L3.XU Z K X vs ds
 |_,_,.nil=>.nil
 |_,_,.cons h hs=>.cons (DV.evx f e h) (XU.evx f e hs)
end
end
end L10
namespace PySem
open Sem (wp)
open PyProof.Rows
section
variable{Y:Ws}{w:WO}{A:WK}{E:Ld->V7->Prop}{s:V7}{t:V5}{X:Array (Int×Tok)}
def ED{k:G B}{ns:G Int}{Q:B->V7->Prop}(r:A.handled=R)(l:s.heap.IsList t k.toArray)(x:IntsAre k ns)(i:0<ns.length)
  (h:∀d M (u:Tok) c,(∀b o,s.heap.get? b=cL o->d.get? b=cL o)->M∈ns->(∀a,a∈ns->a<=M)->Q (.int M u) {s with heap:=d,toks:=c}):
  wpAny (model Y w) A (call (.builtin "max") [.ref t]) Q E s:=by
 let(X,e):=x.allInts.items;let f:ns=X.toList.map (·.1):=by rw[<-x.numsOf,<-nums_intItems,<-e]
 let g:0<X.size:=by let m:=i;rw[f,V1,Xi]at m;show m
 rw[e]at l;show max_intList r l g λv d c n p=>?_;let(t,rfl):=intItems_at n;let(z,y):=argBest_gt (numAt X) (X.size - 1);show h _ _ t c p ?_ λa C=>?_
 .rw[f,numAt_eq];show getD_mem (by rw[V1,Xi];ext)
 .rw[f]at C;let(j,q,rfl):=mem_getD C;rw[V1,Xi]at q;rw[<-numAt_eq];show y j ()
end
end PySem
namespace L10
open PySem PySem.Spec PyProof.Rows L2 L3
def NQ(K:lD):G V->Hp->VK->Prop:=λxs H Q=>∃(a:U) (b:G Int),xs=[.ref a]/\ZV K H a (b.map V.int)/\0<b.length/\∀M,M∈b->(∀i,i∈b->i<=M)->Q (.int M) H
def CZ{X:Cx}(l:X.calm=P):Yg X (.builtin "max") (NQ X.K):=by intro b s o H xs p Q I r h;let(a,v,rfl,g,A,q):=h;let(u,rfl,f):=jE r;ext f;let(y,e,i,_):=I.list g;show ED (I.ok.hd l) i.isList (jz e) A λw M u t j n m=>#[.int M,H,I.kept j,#[_,W],q M n m]
def gx:G D->z RV
 |[.list ds]=>(match jR ds with
  |some a=>if 0<a.length then M (.fz (.int (Cg a)))else R
  |none=>R)
 |_=>R
def MK{K:lD}:BZ K (NQ K) gx:=by
 intro O H xs ds t Q n j e q;unfold gx at e;split at e
 .split at e
  .rename_i b i
   split at e
   .rename_i p
    ext e;cases j with
    |cons m l=>ext l;let(a,r,rfl,f,o):=Ch m;rw[kS o i]at f;show#[a,b,W,f.sq,p,λM h g=>?_];let(k1,k2):=uH p;let:M=Cg b:=aeX (k2 M h) (g _ k1);subst this;show q.at (.int _)
   .ext e
  .ext e
 .ext e
end L10
namespace L3
open PySem L2
structure NI(K:lD)(f:U)(n:Str)(t:XY):Prop where
 a:WC K Wr n=M (M (.ref f))
 F:∃fd,Fun K n n t f fd
structure MI(K:lD)(C f:U)(m q:Str)(t:XY):Prop where
 a:W0 K (.ref C) m=M (M (.ref f))
 i:Yc K (.ref f)=P
 F:∃fd,Fun K m q t f fd
structure CI(K:lD)(C:U)(n:Str)(fs:G Str):Prop where
 a:WC K Wr n=M (M (.ref C))
 pg:YQ K C Str.empty=P
 hd:Zh K C=P
 po:aav K C=P
 sa:W0 K (.ref C) "__setattr__"=M (M (.builtin "object.__setattr__"))
 mm:aaP K C=P
 kc:XF K (.ref C)=P
 fl:∀x∈fs,Zl K C x
def BA(n q:Str)(t:XY)(c:G Str):Prop:=∀(kV b e:B) (f:z U) (g ct:B) (a:G B),a.length=c.length->bindArgs (Xw n q (fh t) (bO t) (au t) .none kV b e f g ct) #[a,[]]=pure (c.zip a)
section
variable{P:Ws}{w:WO}{K:lD}{Y:Str->b3 Ld}{base h:Heap}{f C:V5}{n m q:Str}{t:XY}{S fs:bg Str}{Z k:Nat}{T Q:Sp}
theorem CI.cls(c:CI K C n fs):Cls K C:=#[c.pg,c.hd,c.po,c.sa]
theorem CI.cf(c:CI K C n fs):L10.lx K n fs:=#[C,c.a,c.cls,c.fl]
theorem NI.cal(i:NI K f n t)(X:K.In h)(G:h.Ns Wr Y)(b:BA n n t S)(ok:∀fd,Fun K n n t f fd->FnOk P w K Y base lu Z f fd S T):wH P w K Y base Z n S T:=
 let#[fd,z]:=i.F;#[f,fd,ok fd z,z.binds b,z.kp,XN X G i.a]
def NI.law(i:NI K f "law" t)(X:K.In h)(G:h.Ns Wr Y)(b:Y "law"=M (.ref fa))(p:BA "law" "law" t [x])(ok:∀base fd,Fun K "law" "law" t f fd->FnOk P w K Y base lu Z f fd [x] T):∃fd:Xf,(∀(s:V7) (v:Ld),aah s fd #[[v],[]] [(x,v)])/\∀base:Heap,K.In base->base.Ns Wr Y->FnOk P w K Y base lu Z fa fd [x] T:=by let e:=b.symm.trans (XN X G i.a);ext e;let(fd,z):=i.F;let(A,y,kV,g,j,r,u,ct,l,rfl,B,o):=z.ex;show#[_,λs v=>.of_eq (p kV g j r u ct [v] W),λbase _ _=>ok base _ z]
def ug(a:X0 k A):A.units+65<cLine:=by let:=a.un;ext
theorem LZ{W:U}{a:Array B}{i:Nat}{g:Array (z B)}{xs:G V}{ds:G D}(l:K.lookup W=M #[.type "tuple",R,.seq a i,g])(e:a.size<=We)(b:Vals xs a.toList)(hd:∀O H,XU O K H xs ds):∀O H,DV O K H (.ref W) (.tuple ds):=λO H=>
 .tup (xs:=xs) #[.inr #[_,_,_,l,#[rfl,rfl],rfl,e,b],λ_=>.inr #[_,_,_,l,#[rfl,rfl],rfl,e,b]] (hd O H)
end
end L3
namespace LD
open PySem PyProof.Rows L2 L3
def jI(xs:G (KD×U×V))(k:KD):z V:=(xs.find? λx=>decide (x.1=k)).map (·.2.2)
def lB(xs:G (KD×U×V))(k:KD)(b:U)(v:V):G (KD×U×V):=
 if(xs.find? λx=>decide (x.1=k)).isSome=P then xs.map (λx=>if x.1=k then(x.1,x.2.1,v)else x)else xs++[(k,b,v)]
abbrev RX:G (KD×U×V)->G (KD×U×B)->Prop:=Paired λx y=>x.1=y.1/\x.2.1=y.2.1/\RelV x.2.2 y.2.2
def Bp:∀{xs:G (KD×U×V)} {a:G (KD×U×B)},RX xs a->xs.map (·.1)=a.map (·.1):=by
 intro _ _ b
 induction b with
 |nil=>show W
 | @cons _ _ _ _ h t e=>rw[Wl,Wl,h.1,e]
def wq:∀{xs:G (KD×U×V)} {a:G (KD×U×B)},RX xs a->Zu (jI xs k) ((atKey a k).map (·.2)):=by
 intro _ _ b
 induction b with
 |nil=>unfold jI atKey;show trivial
 | @cons x y xs a h t f=>
  unfold jI atKey;rw[WZ,WZ,h.1];by_cases e:y.1=k
  .rw[a4 e];show h.2.2
  .rw[a5 e];show f
def Ju:∀{xs:G (KD×U×V)} {a:G (KD×U×B)},RX xs a->(xs.find? λx=>decide (x.1=k)).isSome=(atKey a k).isSome:=by
 intro _ _ b
 induction b with
 |nil=>show W
 | @cons x y xs a h t f=>
  ext atKey;rw[WZ,WZ,h.1];by_cases e:y.1=k
  .rw[a4 e];rfl
  .rw[a5 e];show f
def Pb(r:RelV v u):∀{xs:G (KD×U×V)} {a:G (KD×U×B)},RX xs a->RX (xs.map λx=>if x.1=k then(x.1,x.2.1,v)else x) (a.map (putAt k u)):=by
 intro _ _ b
 induction b with
 |nil=>show .nil
 | @cons x y xs a h t f=>
  rw[Wl,Wl];show .cons ?_ (f);ext putAt;by_cases e:y.1=k
  .rw[ax (h.1.trans e),ax e];show#[h.1,h.2.1,r]
  .rw[aE (by rw[h.1];show e),aE e];show h
def KN(h:x.1=y.1/\x.2.1=y.2.1/\RelV x.2.2 y.2.2):∀{xs:G (KD×U×V)} {a:G (KD×U×B)},RX xs a->RX (xs++[x]) (a++[y]):=by
 intro _ _ b
 induction b with
 |nil=>show .cons h .nil
 | @cons _ _ _ _ g t e=>show .cons g (e)
def Iz(r:RelV v u)(h:RX xs ys):RX (lB xs k b v) (storedH ys k b u):=by
 unfold lB storedH;rw[Ju h];split
 .show Pb r h
 .show KN #[W,W,r] h
def oX(xs:G (KD×U×V))(k:KD)(b:U)(v:V):(lB xs k b v).length<=xs.length+1:=by
 ext lB;split
 .rw[V1];ext
 .rw[V8];show Wa _
def pk(K:lD)(H:Hp)(xs:G (KD×U×V)):Prop:=∀x∈xs,L2.DV K H (.ref x.2.1) x.1.1
section
variable{X:Cx}{Z:bg (V5×Obj)}{Y:L2.St}{H:Hp}{s:V7}{a b:V5}{T:bg (KD×V5×V)}{k:KD}{v:V}{u r:Ld}{A:WK}{E:Ld->V7->Prop}
def SZ:∀{T:G (KD×U×V)} {es:G YW},Paired (λ(x:KD×U×V) (e:YW)=>e.hash=r9 w x.1.1/\e.key=.ref x.2.1/\RelV x.2.2 e.val) T es->∃ys,RX T ys/\es=ys.map (entryOfKey (fZ o w)):=by
 intro _ _ h
 induction h with
 |nil=>show#[[],.nil,W]
 | @cons x e _ _ p t q=>let(g,f,i):=p;let(ys,l,j):=q;show#[(x.1,x.2.1,e.val)::ys,.cons #[W,W,i] l,?_];rw[Wl,<-j];let(n,m,ev):=e;dsimp only at g f;subst g f;rfl
def SH:∀{T:G (KD×U×V)} {f:G (KD×U×B)},RX T f->Paired (λ(x:KD×U×V) (e:YW)=>e.hash=r9 w x.1.1/\e.key=.ref x.2.1/\RelV x.2.2 e.val) T (f.map (entryOfKey (fZ i w))):=by
 intro _ _ g
 induction g with
 |nil=>show .nil
 | @cons _ _ _ _ h t j=>show .cons #[by rw[h.1];rfl,by rw[h.2.1];rfl,h.2.2] (j)
theorem nU(I:L2.Inv X Z Y H s)(h:L2.DV X.K H (.ref b) k.1):(fZ X.prog X.w).is s.heap k b:=L2.DV.reads I h W
def ub(I:L2.Inv X Z Y H s)(e:H a=M (DkO a T))(j:pk X.K H T):T.length<=We/\(a==Xu)=V4/\∃ys,RX T ys/\s.heap.DictOfH (fZ X.prog X.w) a ys:=by
 let(((z,n,nd),o,es,L,G,F,C,B),_):=(show ObjOk X.prog X.w H s.heap a (DkO a T)from I.Xr a _ e);let(ys,h,J):=SZ B;show#[z,n,ys,h,o,es,L,G,F,C,J,?_,by rw[<-Bp h];show nd];let all:∀{l:bg (KD×U×V)} {m:bg (KD×U×Ld)},RX l m->(∀x∈l,L2.DV X.K H (.ref x.2.1) x.1.1)->∀y∈m,(fZ X.prog X.w).is s.heap y.1 y.2.1:=by
  intro l m q
  induction q with
  |nil=>intro _ y f;show nomatch f
  | @cons p q ps S N t Q=>
   intro g y f;rcases WE.mp f with e|f
   .subst e;let:=nU I (g p (Wk ..));rw[N.1,N.2.1]at this;show this
   .show Q (λx i=>g x (Wf _ i)) y f
 show all h j
def zg(z:T.length<=We)(hd:(a==Xu)=I)(e:RX T ys)(dd:C.DictOfH (fZ y w) a ys):ObjOk y w H' C a (DkO a T):=by let(o,es,f,g,m,l,j,n,i):=dd;show#[#[#[z,hd,by rw[Bp e];show i],o,es,f,g,m,l,by rw[j];show SH e],#[o,g],?_];rintro t p ⟨q,o,es,f,e1,e2⟩ h;show#[q,o,es,f,h o e1,e2]
def mZ(e:A.units+64<cLine):(fZ X.prog X.w).room A.in1:=by show A.in1.units+8<cLine;rw[WK.in1_units];ext
def OJ(m:A.units+64<cLine)(I:L2.Inv X Z Y H s)(e:H a=M (DkO a T))(o:pk X.K H T)(q:L2.DV X.K H (.ref b) k.1)(g:jI T k=M v)(h:∀c d,L2.Inv X Z Y H d->RelV v c->Q c d):
  wpAny (model X.prog X.w) A (getItem (.ref a) (.ref b)) Q E s:=by
 let(z,y,t,i,dd):=ub I e o;let(c,l,f):=Zu.some_of (by rw[<-g];show wq i);let(p,n,j):=ZK.mp l;show afp (mZ m) (nU I q) dd n ?_;rw[j];show h c _ (I.tok _) f
def Tx(g:A.units+64<cLine)(I:L2.Inv X Z Y H s)(e:H a=M (DkO a T))(i:pk X.K H T)(l:L2.DV X.K H (.ref b) k.1)(h:∀c,L2.Inv X Z Y H c->Q (.bool (jI T k).isSome) c):
  wpAny (model X.prog X.w) A (Xs .In (.ref b) (.ref a)) Q E s:=by
 let(z,j,m,f,dd):=ub I e i;show ak1 (mZ g) (nU I l) j dd ?_;let q:=(wq (k:=k) f).Zv;rw[Zk]at q;rw[<-q];show h _ (I.tok _)
def Pp(g:A.units+64<cLine)(I:L2.Inv X Z Y H s)(e:H a=M (DkO a T))(i:pk X.K H T)(l:L2.DV X.K H (.ref b) k.1)(h:∀c,L2.Inv X Z Y H c->Q (.bool (!(jI T k).isSome)) c):
  wpAny (model X.prog X.w) A (Xs .NotIn (.ref b) (.ref a)) Q E s:=by
 let(z,j,m,f,dd):=ub I e i;show wpAny_notIn_heap (mZ g) (nU I l) j dd ?_;let q:=(wq (k:=k) f).Zv;rw[Zk]at q;rw[<-q];show h _ (I.tok _)
def QF(m:A.units+64<cLine)(I:L2.Inv X Z Y H s)(e:H a=M (DkO a T))(o:pk X.K H T)(y:L2.DV X.K H (.ref b) k.1)(d:RelV v r)(C:T.length<We)(h:∀c,L2.Inv X Z Y (a8 H a (DkO a (lB T k b v))) c->Q ⟨⟩ c):
  wpAny (model X.prog X.w) A (setItem (.ref a) (.ref b) r) Q E s:=by
 let(z,t,j,f,dd):=ub I e o;let l:j.length<=We:=by rw[<-Paired.length f];show z
 let i:(lB T k b v).length<=We:=by let:=oX T k b v;ext
 show afq (hsz:=l) (mZ m) (nU I y) dd λB g n=>h _ ?_;let p:∃q,B.get? a=M q:=let#[q,_,_,J,_]:=g;#[q,J]
 show mK I (by rw[e];show True.intro) n p (zg i t (Iz d f) g)
def AE(I:L2.Inv X Z Y H s)(e:H a=M (DkO a T)):s.TypeIs (.ref a) "dict"/\(∀b,Ld.ref a=.ref b->∃c,s.heap.get? b=M c/\c.dict=R)/\(a==Xu)=V4:=by let(((z,h,nd),o,es,l,g,f,j,i),_):=(show ObjOk X.prog X.w H s.heap a (DkO a T)from I.Xr a _ e);show#[#[o,g,f.1],λb q=>?_,h];ext q;show#[o,g,f.2.1]
end
section
variable(K:lD)
def Fh(neg:Bool)(ty g:TE):TE:=λf H Q=>ty f H λy h=>g f h λx e=>∃a b xs k,x=.ref a/\y=.ref b/\e a=M (DkO a xs)/\pk K e xs/\L2.DV K e (.ref b) k.1/\Q (.bl ((jI xs k).isSome !=neg)) e
def Hr(g ty:TE):TE:=λf H Q=>g f H λx h=>ty f h λy e=>∃a b xs k v,x=.ref a/\y=.ref b/\e a=M (DkO a xs)/\pk K e xs/\L2.DV K e (.ref b) k.1/\jI xs k=M v/\Q v e
def HR(h ty g:TE):TS:=λD e H=>g e H λv j=>h e j λx i=>ty e i λy f=>∃a b xs k,x=.ref a/\y=.ref b/\f a=M (DkO a xs)/\pk K f xs/\L2.DV K f (.ref b) k.1/\xs.length<We/\D.nx e (a8 f a (DkO a (lB xs k b v)))
def Ep:TE:=λ_ H Q=>∀p,H p=R->Q (.ref p) (a8 H p (DkO p []))
end
section
variable{X:Cx}{o i e f Z:Ww}{U Y tx tv:TE}{pos T apos Yy:Pos}
def pc_ddin(v:X.A.units+64<cLine)(c:PE X i Y)(w:PE X o U):PC X .In i o (Fh X.K V4 Y U):=by intro g s j H Q I h;show bT (c g s j H _ I h) λN m #[y,J,F,n,q]=>bT (w g m j J _ F q) λu M a=>?_;let(x,G,E,p,a,b,xs,k,A,z,e,r,t,l):=a;subst A z;obtain rfl:=p;obtain rfl:=n;rw[aeZ]at l;show Tx v E e r t λL C=>#[.bl _,G,C,W,l]
def pc_ddnin(v:X.A.units+64<cLine)(c:PE X i Y)(w:PE X o U):PC X .NotIn i o (Fh X.K P Y U):=by intro g s j H Q I h;show bT (c g s j H _ I h) λN m #[y,J,F,n,q]=>bT (w g m j J _ F q) λu M a=>?_;let(x,G,E,p,a,b,xs,k,A,z,e,r,t,l):=a;subst A z;obtain rfl:=p;obtain rfl:=n;rw[Bool.bne_true]at l;show Pp v E e r t λL C=>#[.bl _,G,C,W,l]
def pe_ddget(C:X.A.units+64<cLine)(F:PE X o U)(c:PE X i Y)(E:QD i):PE X (.Subscript o i pos) (Hr X.K U Y):=by intro j s m H Q I h;show BL abf.lookup E (bT (F j s m H _ I h) λu p #[x,O,Mz0,r,w]=>bT (c j p m O _ Mz0 w) λiv S a=>?_);let(y,N,n,q,a,b,xs,k,v,J,G,e,z,A,g,t):=a;subst J G;obtain rfl:=r;obtain rfl:=q;show#[(AE n e).1,OJ C n e z A g λP R L l=>#[v,N,L,l,t]]
def ps_ddput(E:X.A.units+64<cLine)(G:PE X o U)(c:PE X i Y)(C:PE X Z tv)(F:Yu Z (cL (.Subscript o i T)) pos.line X.env=pure V4):
  PS X (.Assign [.Subscript o i T] Z pos) (HR X.K U Y tv):=by
 intro g s j H D I h;show adM (bT (C g s j H _ I h) λr m #[v,S,Q,rv,w]=>bT (G g m j S _ Q w) λu l #[x,R1,Pz0,p,t]=>bT (c g l j R1 _ Pz0 t) λiv s3 a=>?_) F;let(y,H3,O,n,a,b,xs,k,Mz0,L,e,z,A,J,q):=a;subst Mz0 L;obtain rfl:=p;obtain rfl:=n;show QF E O e z A rv J λs4 N=>#[j,_,N,q]
theorem pe_ddnew:PE X (.Dict [] [] pos) Ep:=λa s b H Q I h=>
 wpAny_Dict_empty #[.ref s.heap.objs.size,_,I.laid (λ_ _ q=>b4 _ q) (Wa _) (zg (W8 _) (beq_eq_false_iff_ne.mpr (d0 (Wz I.big))) .nil (Heap.DictOfH.new s.heap)),W,h _ (I.Xr.fresh (Wa _))]
end
mutual
def Rp:V3->V3->b3 Bool
 |.int i,.int j=>cL (decide (i<j))
 |.str x,.str y=>cL (decide (x.cps.toList<y.cps.toList))
 |.tuple xs,.tuple ys=>So xs ys
 |_,_=>VY
def So:bg V3->bg V3->b3 Bool
 |[],[]=>cL V4
 |[],_::_=>cL V0
 |_::_,[]=>cL V4
 |x::xs,y::ys=>if V3.eqv x y=V0 then So xs ys else Rp x y
end
end LD
namespace LD
open PySem PyProof.Rows
structure VE(es:G YW)(WA:G (Unit×B)):Prop where
 vals:es.map (·.val)=WA.map (·.2)
end LD
namespace L10
open PySem PyProof.Rows L2 L3 LD
def jV:SV->z D
 |.fz d=>if keyD d=P then M d else R
 |_=>R
def Rs:SV->z D
 |.fz d=>M d
 |_=>R
def oy(a:aP):SV->z (Nat×G (D×D))
 |.rf i=>match a[i]? with
  |some (.dd b)=>M (i,b)
  |_=>R
 |_=>R
def gy(b:G (D×D))(k:D):z D:=(b.find? λa=>V3.eqv a.1 k).map (·.2)
def ng(b:G (D×D))(k v:D):G (D×D):=if(b.find? λa=>V3.eqv a.1 k).isSome=P then b.map (λa=>if V3.eqv a.1 k=P then(a.1,v)else a)else b++[(k,v)]
section
variable{B O O':bG}{K:lD}{E:XK}{H H' S R:Hp}{Y α' X T:bg V5}{ω ω' ω1 Z:aP}{U:L2.St}{ρ:aW}{v:V}{k:KD}
def mM(e:jV x=M d)(h:YI O K H Y v x):∃(k:KD) (b:V5),k.1=d/\v=.ref b/\L3.DV O K H (.ref b) d:=by
 cases x with
 |fz z=>
  let e:(if keyD z=P then M z else VY)=M d:=e;by_cases a:keyD z=P
  .rw[ax a]at e
   ext e;let h:=h;cases d with
   |tuple xs=>cases h with
    |tup g f=>show#[#[_,a],_,W,W,.tup g f]
   |_=>simp[keyD]at a
  .rw[aE a]at e;ext e
 |rf i=>ext e
 |tp l=>ext e
def uj(s:WM B K H Y ω)(b:YI (ow B Y ω) K H Y v x)(h:oy ω x=M (i,o)):ω[i]?=M (.dd o)/\∃a xs,Y[i]?=M a/\v=.ref a/\H a=M (DkO a xs)/\PrD (ow B Y ω) K H xs o:=by
 cases x with
 |fz d=>ext h
 |tp l=>ext h
 |rf j=>
  let(a,n,rfl):=b;unfold oy at h;dsimp only at h;cases q:ω[j]? with
  |none=>rw[q]at h;ext h
  |some c=>
   rw[q]at h;cases c with
   |dd m=>let e:=Wm h;ext e;let(ws,g,f):=s.cel i a _ n q;show#[q,a,ws,n,W,g,f]
   |_=>ext h
def yi:∀{xs:G (KD×V5×V)} {c:G (D×D)},PrD O K H xs c->pk K H xs:=by
 intro _ _ b
 induction b with
 |nil=>show λ_ h=>nomatch h
 | @cons x g xs c h t f=>
  intro y a;rcases WE.mp a with e|a
  .subst e;rw[h.1];show h.2.1.plain
  .show f y a
def uD{x:KD×V5×V}{a:D×D}(h:x.1.1=a.1):decide (x.1=k)=V3.eqv a.1 k.1:=by
 rw[<-h]
 haveI:Decidable (x.1.1=k.1):=Classical.propDecidable _
 rw[FR (eA x.1.2).1 (eA k.2).1];by_cases e:x.1=k
 .rw[a4 e,a4 (eg Subtype.val e)]
 .rw[a5 e,a5 λz=>e (Subtype.ext z)]
def sA:∀{xs:G (KD×V5×V)} {b:G (D×D)},PrD O K H xs b->(∀d,gy b k.1=M d->∃v,jI xs k=M v/\L3.DV O K H v d)/\(gy b k.1=VY->jI xs k=VY):=by
 intro _ _ a
 induction a with
 |nil=>show#[λx e=>(by ext e),λ_=>W]
 | @cons x f xs b h t g=>
  unfold gy jI;rw[WZ,WZ,uD h.1];cases V3.eqv f.1 k.1 with
  |true=>show#[λd e=>#[x.2.2,W,by ext e;show h.2.2],λe=>by ext e]
  |false=>show g
def zG(h:PrD O K H xs o):(jI xs k).isSome=(gy o k.1).isSome:=by
 let(b,a):=sA h;cases q:gy o k.1 with
 |none=>rw[a q];rfl
 |some x=>let(u,e,_):=b x q;rw[e];rfl
def Re:∀{xs:G (KD×V5×V)} {c:G (D×D)},PrD O K H xs c->(xs.find? λx=>decide (x.1=k)).isSome=(c.find? λb=>V3.eqv b.1 k.1).isSome:=by
 intro _ _ a
 induction a with
 |nil=>show W
 | @cons x b xs c h t e=>
  rw[WZ,WZ,uD h.1];cases V3.eqv b.1 k.1 with
  |true=>rfl
  |false=>show e
def RY(b:L3.DV O K H v d):∀{xs:G (KD×V5×V)} {f:G (D×D)},PrD O K H xs f->PrD O K H (xs.map λx=>if x.1=k then(x.1,x.2.1,v)else x) (f.map λc=>if V3.eqv c.1 k.1=P then(c.1,d)else c):=by
 intro _ _ a
 induction a with
 |nil=>show .nil
 | @cons x c xs f h t g=>
  rw[Wl,Wl];show .cons ?_ (g);let e:=uD (k:=k) h.1;by_cases z:x.1=k
  .rw[ax z,ax (by rw[<-e];show a4 z)];show#[h.1,h.2.1,b]
  .rw[aE z,aE (by rw[<-e,a5 z];simp)];show h
def Fi(r:x.1.1=o.1/\L3.DV O K H (.ref x.2.1) o.1/\L3.DV O K H x.2.2 o.2):∀{xs:G (KD×V5×V)} {b:G (D×D)},PrD O K H xs b->PrD O K H (xs++[x]) (b++[o]):=by
 intro _ _ a
 induction a with
 |nil=>show .cons r .nil
 | @cons _ _ _ _ g t e=>show .cons g (e)
def xX(e:L3.DV O K H (.ref b) k.1)(a:L3.DV O K H v d)(h:PrD O K H xs o):PrD O K H (lB xs k b v) (ng o k.1 d):=by
 unfold lB ng;rw[Re h];split
 .show RY a h
 .show Fi #[W,e,a] h
theorem EI(e:Ev O H O' H')(h:PrD O K H xs o):PrD O' K H' xs o:=Paired.Zt h λ_ _ q=>#[q.1,q.2.1.ev e,q.2.2.ev e]
def tX(neg:Bool)(a fd:c8):c8:=λρ ω=>(a ρ ω).bind λx ω1=>(fd ρ ω1).bind λo Z=>(RS.W5 Z (jV x)).bind λk Z=>(RS.W5 Z (oy Z o)).bind λp Z=>.ok (.fz (.bool ((gy p.2 k).isSome !=neg))) Z
def xW(r:cb K E C fk)(hd:cb K E J fd):cb K E (Fh K neg C J) (tX neg fk fd):=by intro B U H Y ω ρ Q s f w;show r B U H Y ω ρ _ s f (w.bind.imp λx X ω1 S e1 l j v p=>?_);show hd B U S X ω1 ρ _ l (f.Yl e1) (j.bind.imp λo T Z R e2 g e u q=>?_);let(d,n,e):=WS.W5 e;let((i,L),m,e):=WS.W5 e;let(_,a,xs,A,rfl,y,h):=uj g q m;let(k,b,rfl,rfl,t):=mM n (p.Yl e2);show#[a,b,xs,k,W,W,y,yi h,t.plain,?_];rw[zG h];show WS.now g e _ (.bl _)
def nV(fd a:c8):c8:=λρ ω=>(fd ρ ω).bind λo ω1=>(a ρ ω1).bind λx Z=>(RS.W5 Z (jV x)).bind λk Z=>(RS.W5 Z (oy Z o)).bind λp Z=>(RS.W5 Z (gy p.2 k)).bind λd Z=>.ok (.fz d) Z
def Cw(hd:cb K E td fd)(C:cb K E J fk):cb K E (Hr K td J) (nV fd fk):=by intro B U H Y ω ρ Q s f w;show hd B U H Y ω ρ _ s f (w.bind.imp λo X ω1 S e1 m j u A=>?_);show C B U S X ω1 ρ _ m (f.Yl e1) (j.bind.imp λx T Z R e2 g e v t=>?_);let(d,q,e):=WS.W5 e;let((i,N),p,e):=WS.W5 e;let(_,a,xs,L,rfl,G,h):=uj g (A.Yl e2) p;let(k,b,rfl,rfl,F):=mM q t;let(y,n,e):=WS.W5 e;let(z,r,l):=(sA h).1 y n;show#[a,b,xs,k,z,W,W,G,yi h,F.plain,r,WS.now g e z l]
def se(fd e b:c8):dX:=λρ ω=>(b ρ ω).bind λy ω1=>(fd ρ ω1).bind λo Z=>(e ρ Z).bind λx a=>(RS.W5 a (jV x)).bind λk a=>(RS.W5 a (oy a o)).bind λp a=>(RS.W5 a (Rs y)).bind λd a=>if p.2.length<1000000 then .ok (.nx ρ) (a.set p.1 (.dd (ng p.2 k d)))else .bad
def OB(e:Rs x=M d)(h:YI O K H Y v x):L3.DV O K H v d:=by
 cases x with
 |fz z=>ext e;show h
 |rf i=>ext e
 |tp l=>ext e
def C2(hd:cb K E td fd)(Q:cb K E tk fk)(N:cb K E tv fv):pO K E (HR K td tk tv) (se fd fk fv):=by
 intro B U H Y ω ρ D s h w;show N B U H Y ω ρ _ s h (WS.imp (WS.bind w) λy X ω1 S e1 F A p m=>?_);show hd B U S X ω1 ρ _ F (h.Yl e1) (WS.imp (WS.bind A) λo T Z R e2 C t u P=>?_);show Q B U R T Z ρ _ C (h.Yl (e1.trans e2)) (WS.imp (WS.bind t) λx e g j e3 q f z L=>?_);let(kd,J,f):=WS.W5 f;let((i,WA),I,f):=WS.W5 f;let(d,G,f):=WS.W5 f;let(l,a,xs,ha,rfl,g1,n):=uj q (P.Yl e3) I;let(k,b,rfl,rfl,r):=mM J L;let M:=OB G (m.Yl (e2.trans e3));dsimp only at f;by_cases hn:WA.length<1000000
 .rw[ax hn]at f;let ev:Ev (ow B e g) j (ow B e g) (a8 j a (DkO a (lB xs k b p))):=oO ha l (by nofun);let e4:XX e g j e (g.set i (.dd (ng WA k.1 d))) (a8 j a (DkO a (lB xs k b p))):=XX.put ha l (by nofun) (by nofun);let hl:=Paired.length n;show#[a,b,xs,k,W,W,g1,yi n,r.plain,qK (),?_];show f e _ e4 (q.put ha l (by nofun) (by nofun) #[_,aI,xX (r.ev ev) (M.ev ev) (EI ev n)]) U ((h.Yl (e1.trans (e2.trans e3))).Yl e4)
 .rw[aE hn]at f;show f.elim
def rc:c8:=λ_ ω=>.ok (.rf ω.length) (ω++[.dd []])
def CF:cb K E Ep rc:=by intro B U H Y ω ρ Q s b w;show λp a=>nr s a w λ_=>#[[],aI,.nil]
end
end L10
namespace L3
open PySem PyProof.Rows L2
structure acg(K:lD)(x qual:Str)(st:XY)(f:U)(fd:Xf)(T:U)(W3:Array B):Prop where
 ex:∃(oc:B) (od:z U) (kV doc pm:B) (an:z U) (XZ ct:B) (osl:Array (z B)),
  fd=Xw x qual (fh st) (bO st) (au st) (.ref T) kV doc pm an XZ ct/\K.lookup f=M #[oc,od,.func fd,osl]/\Y9 K XZ qual=P
 kp:XF K (.ref f)=P
 tp:∃o n,K.lookup T=M o/\o.data=.seq W3 n
section
variable{P:Ws}{w:WO}{K:lD}{J:Str->b3 Ld}{base:Heap}{x Z:Str}{Y:XY}{f:V5}{S:Xf}{T:V5}{A:Array Ld}{N ps:bg Str}{k n m:Nat}{L:Sp}{Q:bg Ld}
def acg.binds(F:acg K x Z Y f S T A)
  (h:∀(kV a b:B) (e:z U) (g ct:B) (us:G B),(us++Q).length=ps.length->∃k:z (Array B)->Sem (G (Str×B)),bindArgs (Xw x Z (fh Y) (bO Y) (au Y) (.ref T) kV a b e g ct) #[us,[]]=seqItems? (.ref T)>>=k/\k (M A)=pure (ps.zip (us++Q))):Binds K S ps Q:=by
 let(t,r,kV,a,b,e,g,ct,i,rfl,u,l):=F.ex;let(o,n,q,p):=F.tp;intro s us X j;let(k,e1,e2):=h kV a b e g ct us j;show aah.of_defaults (fd:=Xw x Z (fh Y) (bO Y) (au Y) (.ref T) kV a b e g ct) W (X _ _ q) p e1 e2
def yw(P:Ws)(w:WO)(K:lD)(J:Str->z B)(base:Heap)(b:u6)(k:Nat)(x:Str)(ps:G Str)(a:G V)(L:Sp):Prop:=
 ∃(f:U) (S:Xf) (Q:G B),FnOk P w K J base b k f S ps L/\Binds K S ps Q/\Vals a Q/\XF K (.ref f)=V0/\J x=M (.ref f)
def u7(C:yw X.prog X.w X.K X.mg X.base CX k x ps ZN L)(o:X0 j X.A)(l:dG CX X E)(c:PA X (e::es) t)(g:k<=j:=by decide)(q:Gl X x:=by rfl)
  (h:(x==("__debug__":Str))=I:=by decide) (r:Wn (e::es) X.env=(I,eval e X.env)::Wn es X.env:=by rfl) (a:(backTo pos (Wn es X.env)).any (·.1)=I:=by rfl):
  PE X (.Call (.Name x p) (e::es) [] pos) (kF L ZN E t):=by
 let(f,S,Q,F,b,v,i,m):=C;show Bs F (o.mono g) q m i b v l c h r a
end
end L3
namespace L10
open PySem PyProof.Rows L2 L3
section
variable{P:Ws}{w:WO}{K:lD}{L:Str->b3 Ld}{base:Heap}{x Z:Str}{Y:XY}{f:V5}{J:Xf}{T:V5}{W3:Array Ld}{N X:bg Str}{k n m:Nat}{g:dX}{C:fD}
def TF(F:acg K x Z Y f J T W3)(S:Ye N X (au Y))(c:X.length=n)(hm:N.length=m)(q:C=cz m g)
  (u:∀(a:Ld) (A:WK) (outer:G Env) (s:V7) (H:Hp) (E:XK),X0 k (A.deeper (WT Z (au Y) s.heap.objs.size f a))->
   ∃t,PSs (eF (L4.j7 P w) P w K L base N Z (au Y) f a A outer s H E) (bO Y) t/\pO K E t g):FnOk P w K L base (L4.j7 P w) (k+1) f J X (kh K n C):=by
 subst q hm;let(z,y,kV,r,v,B,a,ct,i,rfl,j,e):=F.ex;show EZ j e S (λvs H Q E h=>h.1.trans c.symm) λA outer s H vs Q E p b=>?_;let(t,l,o):=u a A outer s H E p;show#[t,l,yP (xs:=[]) o b]
end
section
variable{K:lD}{E:XK}
def tQ(F:fD)(n:Nat)(es:G D)(c:ww):c8:=λe b=>(c e b).bind λxs a=>if(xs++es.map SV.fz).length=n then F (xs++es.map SV.fz) a else .bad
theorem yR:∀{c ws:G V} {xs b:G SV},Yv O K H α c xs->Yv O K H α ws b->Yv O K H α (c++ws) (xs++b)
 |_,_,_,_,.nil,h=>h
 |_,_,_,_,.cons a t,h=>.cons a (yR t h)
def Db(hd:∀O H,L3.XU O K H ZN es)(c:ut K E C J):cb K E (kF (kh K n F) ZN E C) (tQ F n es J):=by
 intro B g H α m o Q s h w;show c B g H α m o _ s h (w.bind.imp λxs a b l e1 i f p j=>?_);by_cases hn:(xs++es.map SV.fz).length=n
 .rw[ax hn]at f;let e:=yR j (j4 (ow B a b) a (hd (ow B a b) l));show#[e.length.trans hn,B,a,b,_,i,e,f]
 .rw[aE hn]at f;show f.elim
end
end L10
namespace L4
open PySem PyProof.Rows L2 L3
def aa9(h:Heap)(e:U)(c:B)(d:z U)(a:B)(T:U)(v:B):Prop:=
 ∃b fs,h.get? e=M b/\b.cls=c/\b.dict=d/\b.data=.fields fs/\fs[0]?=M a/\fs[1]?=M (.ref T)/\T≠e/\∃g f,h.get? T=M g/\g.data=.fields f/\f[3]?=M v
section
variable{M:ady}{A:WK}{E:Ld->V7->Prop}{s:V7}
def sE
  (C:A.frames=cL (env::outer)) (r:s.heap.FunFrames base (env::outer)) (B:env.frame=cL L) (t:s.heap.get? e=cL J) (h:J.data=.fields fs) (p:1<fs.size) (F:fs[0]?=cL a0)
  (k:∀x T,s.heap.objs.size<=T->aa9 x e J.cls J.dict a0 T (rawInt L)->Lft (env::outer) e R s.heap x->Q ⟨⟩ {s with heap:=x}):
  wpAny M A (frameOf env>>=λfr=>entryPlaceOf L nx>>=λpl=>EntryCells.newEntry hv fr .none (rawInt L) .none pl>>=λb=>setField (.ref e) 1 b) Q E s:=by
 let g:e∉(env::outer).filterMap (·.frame):=λz=>by let(_,o,q,n):=r.mem z;rw[t]at q;ext q;show n fs h
 show CL (af7 C r B λa S=>?_);show CL (afr λpl P=>?_);unfold EntryCells.newEntry newFields;show CL (XT ?_ (P.sizeOk5 _ _ _ _ _));let l:=(S.2.1 e g).trans t;generalize X:({cls:=.type "traceback",dict:=R,data:=.fields ([hv,.ref L,.none,rawInt L,.none]++(if pl.isEmpty then Wd 6 Ld.none else pl)).toArray}:Obj)=N;let u:N.data=.fields ([hv,.ref L,.none,rawInt L,.none]++(if pl.isEmpty then Wd 6 Ld.none else pl)).toArray:=by rw[<-X]
 let G:=dN u;let j:=b4 N l;show Xq j h p ?_;let m:=Xn (cj l);let v:=dt h (·.setIfInBounds 1 (Ld.ref a.objs.size));let i:=cv (Obj.mapFields (·.setIfInBounds 1 (Ld.ref a.objs.size))) j (dN v)
 let w:=
  (cn (a.push N) (Obj.mapFields (·.setIfInBounds 1 (Ld.ref a.objs.size))) m.symm).trans (ck a G)
 let Zw:∀b o,b≠e->a.get? b=cL o->((a.push N).update e (Obj.mapFields (·.setIfInBounds 1 (Ld.ref a.objs.size)))).get? b=cL o:=λb o ne q=>by rw[cn _ _ ne.symm];show b4 N q
 show k _ a.objs.size (by rw[S.1];show Wa _) #[_,_,i,Obj.cls_mapFields _ _,?_,v,?_,?_,m,_,_,w,u,?_] #[λb o q ne _ y=>Zw b o ne ((S.2.1 b y).trans q),λb o q ne _=>?_,λb o q=>?_]
 .cases J with
  |mk c d H f=>ext H<;>rfl
 .rw[YU ()];show F
 .simp[p]
 .rfl
 .let(f,z):=S.2.2 b o q;show#[f,Zw b _ ne z]
 .by_cases ne:b=e
  .subst ne;show#[_,i]
  .let(f,z):=S.2.2 b o q;show#[_,Zw b _ ne z]
def OM{base:Heap}{env:Env}{outer:bg Env}{L e:U}{c B:Ld}{D hd:b3 U}{Q:Unit->V7->Prop}
  (v:A.frames=cL (env::outer)) (u:s.heap.FunFrames base (env::outer)) (h:env.frame=cL L) (F:Dh s.heap e c D B hd)
  (k:∀x T,s.heap.objs.size<=T->aa9 x e c D B T (rawInt L)->Lft (env::outer) e hd s.heap x->Q ⟨⟩ {s with heap:=x}):wpAny M A (noteFrame (.ref e) env) Q E s:=by
 let(O,fs,q,J,I,d,w,r):=F;subst J I;cases hd with
 |none=>let r:fs[1]?=cL .none:=r;ext noteFrame;simp only[h];show CL (WQ q d r ?_);rw[aE ()];show sE v u h q d (WJ.mp r).1 w k
 |some T=>
  let(r,G,P,C,g,dT,p):=r;ext noteFrame;simp only[h];show CL (WQ q d r ?_);rw[ax (show(Ld.ref T !=Ld.none)=V0 from by simp)];show CL (WQ g dT p ?_);rw[aE (show¬((Ld.none==rawInt L)=V0)from by simp[rawInt])];show CL (Xq g dT (WJ.mp p).1 ?_);let f:∀b,b≠T->(s.heap.update T (Obj.mapFields (·.setIfInBounds 3 Ld.none))).get? b=s.heap.get? b:=λb ne=>cn _ _ ne.symm;let a:=cv (Obj.mapFields (·.setIfInBounds 3 Ld.none)) g (dN (dt dT _));let m:∀b o,s.heap.get? b=cL o->(∀S,o.data≠.fields S)->b≠T:=λb o z n y=>by rw[y,g]at z;ext z;show n C dT
  show sE v (u.of_keeps λb o z n=>#[o,(f b (m b o z n)).trans z,W]) h ((f e G.symm).trans q) d (WJ.mp r).1 w λx K t N i=>k x K (by rw[Heap.size_after_update]at t;show t) N #[λb o z l j H=>?_,λb o z l j=>?_,λb o z=>?_]
  .show i.keep b o ((f b λy=>j (by rw[y])).trans z) l (by simp) H
  .show i.slot b o ((f b λy=>j (by rw[y])).trans z) l (by simp)
  .by_cases y:b=T
   .subst y;show i.here b _ a
   .show i.here b o ((f b y).trans z)
def Dg{base:Heap}{env:Env}{outer:bg Env}{L e T:U}{c G v:Ld}{V:b3 U}{Q:Unit->V7->Prop}
  (P:A.frames=cL (env::outer)) (O:s.heap.FunFrames base (env::outer)) (B:env.frame=cL L) (F:aa9 s.heap e c V G T v)
  (k:∀x D,(D=T\/s.heap.objs.size<=D)->Dh x e c V G (cL D)->Lft (env::outer) e (cL T) s.heap x->Q ⟨⟩ {s with heap:=x}):wpAny M A (leaving env (.ref e)) Q E s:=by
 let(I,fs,q,N,K,d,C,r,m,S,H,h,dT,t):=F;subst N K;let f:∀b,b≠T->(s.heap.update T (Obj.mapFields (·.setIfInBounds 3 Ld.none))).get? b=s.heap.get? b:=λb ne=>cn _ _ ne.symm;let a:=cv (Obj.mapFields (·.setIfInBounds 3 Ld.none)) h (dN (dt dT _));let l:=(WJ.mp t).1;unfold leaving noteFrame;simp only[B];show CL (CL (WQ q d r ?_));rw[ax (show(Ld.ref T !=Ld.none)=V0 from by simp)];show CL (WQ h dT t ?_);by_cases u:(v==rawInt L)=V0
 .rw[ax u]
  show Wb ?_;ext setFlight;show CL (WQ q d r ?_);rw[ax (show(Ld.ref T !=Ld.none)=V0 from by simp)];show Xq h dT l ?_;show k _ T (.inl W) #[I,fs,(f e m.symm).trans q,W,W,d,C,r,m,_,_,a,dt dT _,?_] #[λb o z i g _=>?_,λb o z i g=>#[o.slots,?_],λb o z=>?_]
  .rw[XD l]
  .show(f b λy=>g (by rw[y])).trans z
  .show(f b λy=>g (by rw[y])).trans z
  .by_cases y:b=T
   .subst y;show#[_,a]
   .show#[o,(f b y).trans z]
 .rw[aE u]
  show CL (Xq h dT l ?_);let p:∀b o,s.heap.get? b=cL o->(∀X,o.data≠.fields X)->b≠T:=λb o z n y=>by rw[y,h]at z;ext z;show n H dT
  show g9 P (O.of_keeps λb o z n=>#[o,(f b (p b o z n)).trans z,W]) B ((f e m.symm).trans q) d (WJ.mp r).1 C λx D w R j=>k x D (.inr (by rw[Heap.size_after_update]at w;show w)) R #[λb o z i g J=>?_,λb o z i g=>?_,λb o z=>?_]
  .show j.keep b o ((f b λy=>g (by rw[y])).trans z) i (by simp) J
  .show j.slot b o ((f b λy=>g (by rw[y])).trans z) i (by simp)
  .by_cases y:b=T
   .subst y;show j.here b _ a
   .show j.here b o ((f b y).trans z)
def FB{g:Env}{h:String}{e T:U}{c m v:Ld}{D:b3 U}{Q:Ld->V7->Prop}(F:aa9 s.heap e c D m T v)
  (k:∀x J,aa9 x e c D m T J->(∀b o,b≠T->s.heap.get? b=cL o->x.get? b=cL o)->(∃o,x.get? T=cL o)->E (.ref e) {s with heap:=x}):wpAny M A (afs h (.ref e) g:Sem Ld) Q E s:=by
 let(t,fs,q,w,u,d,y,r,l,C,B,j,dT,p):=F;subst w u;let i:=(WJ.mp p).1;ext afs;show CL (WQ q d r ?_);rw[aE (show¬((Ld.ref T==Ld.none)=P)from by simp)];ext setFlight;show CL (CL (WQ q d r ?_));rw[ax (show(Ld.ref T !=Ld.none)=P from by simp)];show Xq j dT i (wpAny_throw ?_);let n:∀b,b≠T->(s.heap.update T (Obj.mapFields (·.setIfInBounds 3 (g.frame.elim Ld.none λf=>rawInt f)))).get? b=s.heap.get? b:=λb ne=>cn _ _ ne.symm;let a:=cv (Obj.mapFields (·.setIfInBounds 3 (g.frame.elim Ld.none λf=>rawInt f))) j (dN (dt dT _));show k _ _ #[t,fs,(n e l.symm).trans q,W,W,d,y,r,l,_,_,a,dt dT _,XD i] (λb o ne z=>(n b ne).trans z) #[_,a]
end
end L4
namespace L2
open PySem PySem.Spec PyProof.Rows
def Uy(Y:Cx)(E:XK):B->V7->Prop:=λx a=>∃pins b H1 e c f a0 hd,x=.ref e/\Inv Y pins b H1 a/\L4.Dh a.heap e c f a0 hd/\(Y.s₀.heap.get? e=R\/e∈Y.ex)/\(∀T,hd=M T->Y.s₀.heap.get? T=R\/T∈Y.ex)/\H1 e=R/\(∀T,hd=M T->H1 T=R)/\E c f H1
end L2
namespace L4
open PySem PyProof.Rows L2 L3
def Pv{P:Ws}{w:WO}{K:lD}{k:Str->b3 Ld}{base:Heap}{N:bg Str}{i:Str}{a:XS}{f:V5}{M:Ld}{A:WK}{outer:bg Env}{g:V7}{Q:Hp}{E:XK}
  {m:bg (V5×Obj)} {R:L2.St} {H:Hp} {s:V7} {e T:V5} {c O v:Ld} {d:b3 V5} (I:L2.Inv (eF (j7 P w) P w K k base N i a f M A outer g Q E) m R H s)
  (F:aa9 s.heap e c d O T v) (J:g.heap.get? e=VY) (G:g.heap.get? T=VY) (ne:H e=VY) (u:H T=VY) (q:E c d H):
  (eF (j7 P w) P w K k base N i a f M A outer g Q E).xe (.ref e) s:=by
 let hA:=I.ok.frames;let hF:=I.stack;show Dg (L:=g.heap.objs.size) hA hF W F λh' t j F' L=>?_;let X:=L.Xr I.Xr ne (λT1 z=>by ext z;show u) I.aaC;let sz:=I.sz;let Z:H t=VY:=by
  rcases j with e|j
  .rw[e];show u
  .show I.Xr.fresh j
 let gT:g.heap.get? t=VY:=by
  rcases j with e|j
  .rw[e];show G
  .show dk (WU sz j)
 let r:∀b o,g.heap.get? b=cL o->b<g.heap.objs.size:=λb o z=>cj z;let h:∀b o,g.heap.get? b=cL o->b≠e/\cL T≠cL b:=λb o z=>#[(λy=>by rw[y,J]at z;ext z),(λy=>by ext y;rw[G]at z;ext z)];show#[e,c,d,O,t,H,W,J,gT,F',ne,Z,I.os,I.bare,?_,X,q];let B:=I.base;show#[λb o z n C _=>?_,λb o z n Y _=>?_,λb o z n _=>?_,λb o z _=>?_,B.aa6,B.aaX,B.abb]
 .let l:=B.keep b o z n C (λy=>nomatch y)
  show L.keep b o l (h b o z).1 (h b o z).2 λy=>?_;rcases WE.mp (I.aan b y)with y|y
  .let y:b=g.heap.objs.size:=y;show a7 (r b o z) (by rw[y];show Xk _)
  .show C y
 .let(sl,l):=B.slot b o z n Y (λy=>nomatch y);let(p,S):=L.slot b _ l (h b o z).1 (h b o z).2;show#[p,S]
 .show B.free b o z n (λy=>nomatch y)
 .let(U,l):=B.there b o z (λy=>nomatch y);show L.here b U l
def Fp(X:Cx)(E:XK):Prop:=∀(a:L2.St) (H:Hp) (s:V7) (e T:U) (c b v:B) (f:z U),L2.Inv X [] a H s->aa9 s.heap e c f b T v->X.s₀.heap.get? e=R->X.s₀.heap.get? T=R->H e=R->H T=R->E c f H->X.xe (.ref e) s
theorem LG{P:Ws}{w:WO}{K:lD}{d:Str->z B}{base:Heap}{N:G Str}{b:Str}{a:XS}{f:U}{m:B}{A:WK}{outer:G Env}{g:V7}{n:Hp}{E:XK}:
  Fp (eF (j7 P w) P w K d base N b a f m A outer g n E) E:=λo H s e T c p v r I F l j i h q=>Pv I F l j i h q
def Hs{X:Cx}{h:V7}{l:Hp}{a:XS}{C:U}{N:G Str}{d:G U}{E:XK}:
  dG (j7 X.prog X.w) ((bq X h l a C N d).ZH (Uy (bq X h l a C N d) E)) E:=by
 rintro f m H s x u I ⟨e,c,L,n,T,t,rfl,le,J,F,ne,A,os,bare,un,Xr,q⟩;let r:=I.acr (ch:=[]) os un Xr bare (λb z=>nomatch z);let g:∀b,s.heap.get? b=R->h.heap.get? b=R\/b∈d:=λb z=>by
  by_cases j:b∈d
  .show .inr j
  .show .inl ?_
   cases y:h.heap.get? b with
   |none=>rfl
   |some o=>let(v,i):=I.base.there b o y j;rw[z]at i;ext i
 show#[f,m,t,e,c,L,n,M T,W,r.Y4,F,g e le,(λp z=>by ext z;show g T J),ne,(λp z=>by ext z;show A),q]
def aa9.at{h h':Heap}{e T:U}{c a v:B}{s:z U}(F:aa9 h e c s a T v)(k:∀b o,b=e\/b=T->h.get? b=M o->h'.get? b=M o):aa9 h' e c s a T v:=by let(j,fs,q,p,n,d,t,r,m,l,f,i,dT,g):=F;show#[j,fs,k _ _ (.inl W) q,p,n,d,t,r,m,l,f,k _ _ (.inr W) i,dT,g]
end L4
namespace L2
open PySem PySem.Spec PyProof.Rows
theorem Inv.ag8{X:Cx}{a:G (U×Obj)}{b:St}{H:Hp}{s:V7}(I:Inv X a b H s):Inv X [] b H s:=
 #[I.ok,I.os,I.bare,I.base,I.loc,I.cell,I.free,I.Y6,λp e=>I.pin p (by rw[WL]at e;show Y5 _ e),I.Xr,I.len]
def Hh{X:Cx}{elt V iter:Ww}{ifs:G Ww}{scope:XS}{pos:Pos}(own:G Str)(u:G (Str×Nat)){wi:TI}{g:TG}{tc:TT}{te:TE}{EK:XK}(cV:X.stack=X.env::X.outer/\X.env.frame=M X.env.locals)(hex:X.ex=[])(k:X.pn=[])(PX:L4.Fp X EK)(hc:X.calm=P)(hi:PI X V iter wi)
  (hg:∀s H C i,PG (bq X s H scope C (cG own u) i) V g) (ht:∀s H C i,xu (bq X s H scope C (cG own u) i) ifs tc) (he:∀s H C i,PE ((bq X s H scope C (cG own u) i).ZH (Uy (bq X s H scope C (cG own u) i) EK)) elt te) (hfv:abr X scope u)
  (adW:(scope.names.all λy=> !(y.2==Wo.free)||(X.env.scope.names.lookup y.1==M Wo.cell)||(X.env.scope.names.lookup y.1==M Wo.free))=P)
  (YZ:scope.kind=.function:=by rfl) (hnd:(scope.names.map (·.1)).Nodup:=by left)
  (aba:∀y∈scope.names,y.2=.local->scope.names.lookup y.1=M .local:=by left) (hs:∀x,foldedSetIterable iter X.env x=pure x:=by intro _;rfl):
  PE X (.ListComp elt [#[V,iter,ifs,0]] scope pos) (oY own u wi g tc te):=by
 intro pins s σ H Q I h;let S:=HP adW;rw[akZ];show Z0 (use:=VY) W hs (mj (kI I.ok S)) YZ aba (bT (hi pins s σ H _ I h) λxv s1 h1=>bT h1 λitv s2 h2=>?_);let(it,i,tn,J,H2,e,j,T,st2,f2,R):=h2;subst e;show lV j hc YZ hnd (kI I.ok S) hfv T st2 f2 (λC=>hg _ _ C _) (λC=>ht _ _ C _) (λC=>he _ _ C _) ?_ (Fin:=λD H'=>Q (.ref D) H') R ?_
 .rintro D C x s3 hC ⟨alU,σ3,l,e,c,dx,a0,hd,rfl,f,F,fe,fT,ne,nT,q⟩
  let hsz:s2.heap.objs.size<=s3.heap.objs.size:=f.sz;show wpAny (model X.prog X.w) X.A (noteFrame (.ref e) X.env) _ _ s3;show L4.OM (env:=X.env) (outer:=X.outer) (base:=X.base) (L:=X.env.locals) (by rw[<-cV.1];show f.ok.frames) (by rw[<-cV.1];show f.stack) cV.2 F λh' T' Y F' L=>?_;rw[<-cV.1]at L;let(m,hm,_):=f.loc;let hm:s3.heap.Ns C m:=hm;let hn3:l C=VY:=f.free;let fo:∀b,b=e\/hd=M b->s2.heap.get? b=VY\/b∈i:=λb z=>by
   rcases z with z|z
   .rw[z];show fe
   .show fT b z
  let ajS:∀b,b=e\/hd=M b->∃o vs,s3.heap.get? b=M o/\o.data=.fields vs:=λb z=>by
   let(ob,fs,q1,_,_,d,_,r):=F;rcases z with z|z
   .rw[z];show#[ob,fs,q1,d]
   .subst z;let(_,_,oT,ts,qT,dT,_):=r;show#[oT,ts,qT,dT]
  let nC:¬(C=e\/hd=M C):=λz=>by let(o,vs,q1,d):=ajS C z;let(o',es,ep,q2,d2,_):=hm;rw[q1]at q2;ext q2;rw[d]at d2;ext d2
  let nfr:C∉wx X.stack:=λz=>by let(_,o,t,_):=j.stack.mem z;show a7 (Wx (cj t) hC) (Xk _)
  let IX:Inv X [] σ l s3:=(j.acr (ch:=i) f.os f.base f.Xr f.bare λb a=>#[(f2 b a).2.2.2.1,(f2 b a).2.1,(f2 b a).2.2.2.2.1,(f2 b a).2.2.2.2.2]).ag8;let n0:∀b,b=e\/hd=M b->X.s₀.heap.get? b=VY:=λb z=>by
   rcases fo b z with y|y
   .cases z0:X.s₀.heap.get? b with
    |none=>rfl
    |some o=>let(o',z1):=j.base.there b o z0 (by rw[hex];show λy=>nomatch y);rw[y]at z1;ext z1
   .rcases(f2 b y).2.2.2.1 with w|w
    .rw[hex]at w;ext w
    .show dk w
  let Ia:Inv X [] σ l {s3 with heap:=h'}:=by
   show L4.rO IX (λb=>b=e\/hd=M b) hex (by rw[k];show λp N=>nomatch N) (λb o z n nf=>L.keep b o z (λy=>n (.inl y)) (λy=>n (.inr y)) nf) (λb o z n=>L.slot b o z (λy=>n (.inl y)) (λy=>n (.inr y))) L.here n0 (λz=>?_) (λx cc z y=>?_) (λb z=>?_)
   .rcases fo _ z with y|y
    .let(mm,hn,_):=j.loc;let(o,_,_,t,_):=hn;rw[y]at t;ext t
    .show(f2 _ y).2.1 W
   .rcases fo _ y with w|w
    .let(v,o,t,_):=j.cell x cc z;rw[w]at t;ext t
    .show(f2 _ w).2.2.2.2.1 x cc z W
   .rcases z with z|z
    .rw[z];show ne
    .show nT b z
  let A:l T'=VY:=f.Xr.fresh Y;show#[m,hm.at' λo z=>L.keep C o z (λy=>nC (.inl y)) (λy=>nC (.inr y)) nfr,λh4 sb acT _=>?_];let CT:C<s3.heap.objs.size:=hm.lt;let F4:L4.aa9 h4 e c dx a0 T' (rawInt X.env.locals):=F'.at λb o z y=>by
   show(sb.2 b λw=>?_).trans y;rcases z with z|z
   .show nC (.inl (w.symm.trans z))
   .let this:T'=C:=z.symm.trans w;rw[this]at Y;show a7 (Wx CT Y) (Xk _)
  show L4.FB F4 λh5 v' F5 k5 t5=>?_;let(f0,f1,_,f3,f4,f5):=j.abJ (H':=l) hC hn3;let Ib:Inv X [] σ l {s3 with heap:=h4}:=Ia.turned (t':=s3.toks) (λb o a z=>(sb.2 b a).trans z) f0 f1 f3 f4 (by rw[k];show λp N=>nomatch N);let(g0,g1,_,g3,g4,g5):=j.abJ (H':=l) (WU hsz Y) A;let Ic:Inv X [] σ l {s3 with heap:=h5}:=Ib.turned (t':=s3.toks) (λb o a z=>k5 b o a z) g0 g1 g3 g4 (by rw[k];show λp N=>nomatch N);show PX σ l _ e T' c a0 v' dx Ic F5 (n0 e (.inl W)) ?_ ne A q;rcases g3 with w|w
  .rw[hex]at w;ext w
  .show dk w
 .intro D C H' s' I' fin hm hC hn;let(m,hm):=hm;show#[m,hm,λh' hs'=>#[.ref D,H',?_,W,fin]];let(f0,f1,_,f3,f4,f5):=j.abJ hC hn;show I'.turned (t':=s'.toks) (λb o a q=>(hs'.2 b a).trans q) f0 f1 f3 f4 f5
end L2
namespace L10
open PySem PyProof.Rows L2 L3
section
variable{B O u:bG}{K:lD}{E:XK}{H H' L H2:Hp}{X C U A:bg V5}{S y N Z:aP}{Y:L2.St}{T:aW}{v:V}
theorem Pf{g:TG}{gt:wZ}(h:EL K E0 g gt):EL K E g (λx T S=>gz (gt x T S)):=λB Y H X S T v x Q s a r w=>h B Y H X S T v x Q s a r (WS.e0 w)
theorem Qw{t:TT}{b:rG}(h:sY K E0 t b):sY K E t (λT S=>gz (b T S)):=λB Y H X S T Q s a w=>h B Y H X S T Q s a (WS.e0 w)
def oK(n:Nat)(c:G Nat)(a:IP)(gt:wZ)(b:rG)(d:c8):c8:=λT S=>(a T S).bind λds N=>(bH (λx T S=>gz (gt x T S)) (λT S=>gz (b T S)) d ds (d7 n c T) N []).bind λxs Z=>.ok (.rf Z.length) (Z++[.lst xs])
def Dk{own:G Str}{f:G (Str×Nat)}{a:TI}{g:TG}{b:TT}{c:TE}{h:IP}{gt:wZ}{d:rG}{r:c8}{n:Nat}{k:G Nat}(t:own.length=n)(p:f.map (·.2)=k)
  (x:P2 K E a h) (o:EL K E0 g gt) (m:sY K E0 b d) (q:cb K E c r):cb K E (oY own f a g b c) (oK n k h gt d r):=by
 intro B Y H X S T Q s e w;show x B Y H X S T _ s e (WS.imp (WS.bind w) λds U N L e1 j i J l=>?_);show ri t p (Pf o) (Qw m) q j (e.Yl e1) l i
end
end L10
namespace L3
open PySem L2
section
variable{P:Ws}{w:WO}{K:lD}{S:Str->b3 Ld}{base h:Heap}{f C:V5}{n m q:Str}{t:XY}{T fs:bg Str}{Z k:Nat}{Q N:Sp}{Y:u6}
theorem MI.ahg(i:MI K C f m q t)(c:CI K C n fs)(b:BA m q t T)(ok:∀fd,Fun K m q t f fd->FnOk P w K S base Y Z f fd T Q):L10.oA P w K S base Y Z n m T Q:=
 let#[fd,z]:=i.F;#[C,f,fd,c.a,c.cls,#[i.a,i.i,z.kp],ok fd z,z.binds b]
theorem MI.ai6(i:MI K C f "__init__" q t)(c:CI K C n fs)(X:K.In h)(G:h.Ns Wr S)(b:BA "__init__" q t T)(ok:∀fd,Fun K "__init__" q t f fd->FnOk P w K S base Y Z f fd T Q):L10.yg P w K S base Y Z n T Q:=
 let#[fd,z]:=i.F;#[C,f,fd,c.a,XN X G c.a,#[c.mm,i.a,i.i,c.kc],ok fd z,z.binds b]
end
end L3
namespace L10
open PySem PySem.Spec PyProof.Rows L2 L3
section
variable{B O Q:bG}{K:lD}{E:XK}{H H' Y H2:Hp}{α α' Z α2:bg V5}{T ω' X ω2:aP}{σ:L2.St}{S:aW}{v:V}
def nI(c f:Str)(a:c8):dX:=λS T=>(a S T).bind λx X=>match x with
 |.fz d=>if L9.Ts d=P then .er #[c,[(f,d)]] X else .bad
 |_=>.bad
def zA(M:WC K Wr c=cL (cL (.ref C)))(L:cb K E te fe):pO K E (L9.BH C (L9.uY C f) E (d6 te g6)) (nI c f fe):=by
 intro B σ H α T S D s G w;show L B σ H α T S _ s G (WS.imp (WS.bind w) λx Z X Y e1 I a v h=>?_)
 match x,h,a with
 |.fz d,h,a=>
  let h:=h;dsimp only at a;by_cases r:L9.Ts d=V0
  .rw[ax r]at a
   let j:L9.Rx v/\∀(Q:bG) (H':Hp),L3.DV Q K H' v d:=by
    cases d with
    |none=>ext h;show#[.inl W,λ_ _=>.Yf]
    |int i=>ext h;show#[.inr #[i,W,a6 r],λ_ _=>.int i]
    |_=>ext r
   show#[by show 1<=We;decide,λe hn=>#[e,v,W,j.1,aI,λp F g=>#[W,p,?_,?_]]]
   .rw[aw (d0 g),aI]
   .let u:Y p=R:=by rw[aw g]at F;show F
    let A:XQ Y (L9.RA (a8 (a8 (a8 Y e (.ext (L9.IG C e))) e (.ext (L9.Rn C e p))) p (.xd [(f,v)])) e):=λb o z=>by
     let t:b≠e:=λy=>by rw[y,hn]at z;ext z
     let J:b≠p:=λy=>by rw[y,u]at z;ext z
     rw[L9.jp t,aw J,aw t,aw t];show z
    show a (.ref C) (cL p) Z _ (XX.same A) (I.grow A) #[#[C,W,M],[(f,v)],λP q=>?_,λm N l=>#[(λz=>nomatch z),?_]]
    .ext q;rw[L9.jp g,aI]
    .let n:(match m==f with|true=>cL d|false=>X4 m [])=cL N:=l
     cases hb:m==f with
     |true=>rw[hb]at n;ext n;show#[v,?_,j.2 _ _];show(match m==f with|true=>cL v|false=>X4 m [])=cL v;rw[hb]
     |false=>rw[hb]at n;ext n
  .rw[aE r]at a;show a.elim
 |.rf _,_,a=>show a.elim
 |.tp _,_,a=>show a.elim
end
end L10
namespace L3
open PySem L2
theorem Eu{X:Cx}{P:Ws}{w:WO}:dG (L4.j7 P w) X E0:=λ_ _ _ _ _ _ _ h=>by let(_,_,_,_,_,_,_,_,_,_,_,_,_,_,_,_,h):=h;show h.elim
end L3
namespace L10
open PySem PyProof.Rows L2 L3
section
variable{B O u:bG}{K:lD}{E:XK}{H t S r:Hp}{N J Z C:bg V5}{X A Y y:aP}{L:L2.St}{T:aW}{v:V}
def nM(F:fD)(n:Nat)(es:G D)(a:ww):c8:=λT X=>(a T X).bind λxs Y=>if(xs++es.map SV.fz).length=n then gz (F (xs++es.map SV.fz) Y)else .bad
def y8(hd:∀O H,L3.XU O K H ZN es)(c:ut K E o fa):cb K E (kF (kh K n F) ZN E0 o) (nM F n es fa):=by
 intro B L H N X T Q s e w;show c B L H N X T _ s e (w.bind.imp λxs Z Y S e1 f b h g=>?_);by_cases hn:(xs++es.map SV.fz).length=n
 .rw[ax hn]at b;let a:=yR g (j4 (ow B Z Y) Z (hd (ow B Z Y) S));show#[a.length.trans hn,B,Z,Y,_,f,a,WS.e0 b]
 .rw[aE hn]at b;show b.elim
end
end L10
namespace L10
open PySem L2 L3
def Uh(T:A->aP->Prop)(X:Xc->Prop):RS A->Prop
 |.ok a b=>T a b
 |.er x _=>X x
 |.bad=>False
structure Out{A:Type}(r:RS A)(T:A->aP->Prop)(X:Xc->Prop):Prop where
 out:Uh T X r
section
variable{A B:Type}{r r':RS A}{T S:A->aP->Prop}{U:B->aP->Prop}{X:Xc->Prop}{Y:aP}
def Out.eq(e:r=r')(h:Out r' T X):Out r T X:=by rw[e];show h
def Out.imp(h:Out r T X)(k:∀a Y,T a Y->S a Y):Out r S X:=by
 show#[?_];let h:=h.out;cases r with
 |bad=>show h
 |er x o=>show h
 |ok a o=>show k a o h
def Out.bind(h:Out r (λa o=>Out (f a o) U X) X):Out (r.bind f) U X:=by
 show#[?_];let h:=h.out;cases r with
 |bad=>show h
 |er x o=>show h
 |ok a o=>show(show Out (f a o) U X from h).out
def Out.all(h:Out r T λ_=>False):∃a o,r=.ok a o/\T a o:=by
 let h:=h.out;cases r with
 |bad=>show h.elim
 |er x o=>show h.elim
 |ok a o=>show#[a,o,W,h]
def Out.er(h:Out r (λ_ _=>False) X):∃x o,r=.er x o/\X x:=by
 let h:=h.out;cases r with
 |bad=>show h.elim
 |er x o=>show#[x,o,W,h]
 |ok a o=>show h.elim
end
section
variable{ρ ρ1 Q:aW}{ω S Z Y:aP}{x y z:SV}{i n:Nat}{d:D}{L:bg D}{b:Bool}{f g:dX}{fe:c8}{N:aW->aP->Prop}{T:SV->aP->Prop}{X:Xc->Prop}
def VS(N:aW->aP->Prop)(T:SV->aP->Prop):FlS->aP->Prop
 |.nx ρ,ω=>N ρ ω
 |.rt v,ω=>T v ω
 |_,_=>False
abbrev jQ(r:RS FlS)(N:aW->aP->Prop)(T:SV->aP->Prop)(X:Xc->Prop):Prop:=Out r (VS N T) X
def l7(h:jQ (f ρ ω) (λr o=>jQ (g r o) N T X) T X):jQ (aG f g ρ ω) N T X:=by
 show Out.bind (h.imp λa o k=>?_);cases a with
 |nx r=>show k
 |rt v=>show#[k]
 |ct r=>show k.elim
 |bk r=>show k.elim
theorem tO(a:f ρ ω=.ok (.nx ρ1) S)(h:jQ (g ρ1 S) N T X):jQ (aG f g ρ ω) N T X:=l7 (.eq a #[h])
theorem zK(a:f ρ ω=.ok (.nx ρ1) S)(h:N ρ1 S):jQ (f ρ ω) N T X:=.eq a #[h]
theorem fu(e:fe ρ ω=.ok x S)(a:gt x ρ S=.ok ρ1 Z)(h:jQ (g ρ1 Z) N T X):jQ (aG (b8 fe gt) g ρ ω) N T X:=tO (by ext b8;rw[e,en,a,en]) h
theorem wl(a:Out (fe ρ ω) (λx S=>jQ (g (ρ.set i (M x)) S) N T X) X):jQ (aG (b8 fe (cT i)) g ρ ω) N T X:=l7 (Out.bind (a.imp λ_ _ k=>#[k]))
theorem GG(a:Out (fe ρ ω) (λ_ S=>jQ (g ρ S) N T X) X):jQ (aG (bc fe) g ρ ω) N T X:=l7 (Out.bind (a.imp λ_ _ k=>#[k]))
def PK{a j:dX}(e:c ρ ω=.ok P S)(h:jQ (aG a g ρ S) N T X):jQ (aG (bZ c a j) g ρ ω) N T X:=by show .eq ?_ h;unfold aG bZ;rw[e,en,ax W]
def uz{j a:dX}(e:c ρ ω=.ok I S)(h:jQ (aG a g ρ S) N T X):jQ (aG (bZ c j a) g ρ ω) N T X:=by show .eq ?_ h;unfold aG bZ;rw[e,en,aE Wv]
theorem pW(h:jQ (g ρ ω) N T X):jQ (aG cJ g ρ ω) N T X:=l7 #[h]
theorem vf(a:fe ρ ω=.ok x S)(h:T x S):jQ (fK fe ρ ω) N T X:=.eq (gq a) #[h]
theorem Kq(a:fe ρ ω=.ok x S)(h:T x S):jQ (aG (fK fe) g ρ ω) N T X:=l7 (vf a h)
theorem K6(a:Out (fe ρ ω) T X):jQ (fK fe ρ ω) N T X:=Out.bind (a.imp λ_ _ k=>#[k])
def sF(a:xs.map M++Wd (n - xs.length) R=ρ)(h:jQ (g ρ ω) (λ_ c=>T (.fz .none) c) T X):Out (cz n g xs ω) T X:=by
 ext cz;rw[a];show Out.bind (h.imp λe o k=>?_);cases e with
 |nx r=>show#[k]
 |rt v=>show#[k]
 |ct r=>show k.elim
 |bk r=>show k.elim
theorem Hk{b:dX}(I:Nat->aW->aP->Prop)(M:Nat)(j:∀n ρ ω,I n ρ ω->(∃S,c ρ ω=.ok V4 S/\N ρ S)\/(n<M/\∃S,c ρ ω=.ok P S/\jQ (b ρ S) (I (n+1)) T X)):∀(m n:Nat) (ρ:aW) (ω:aP),M - n<m->I n ρ ω->jQ (sP c b m ρ ω) N T X
 |0,n,_,_,h,_=>by ext
 |m+1,n,ρ,ω,h,h0=>by
  rcases j n ρ ω h0 with⟨S,e,p⟩|⟨q,S,e,l⟩
  .show .eq (show sP c b (m+1) ρ ω=.ok (.nx ρ) S from ?_) #[p];show((c ρ ω).bind _)=_;rw[e,en,aE Wv]
  .show .eq (show sP c b (m+1) ρ ω=(b ρ S).bind λa Z=>match a with
    |.nx Q=>sP c b m Q Z
    |.ct Q=>sP c b m Q Z
    |.bk Q=>.ok (.nx Q) Z
    |.rt x=>.ok (.rt x) Z from ?_) (Out.bind (l.imp λa o k=>?_))
   .show((c ρ ω).bind _)=_
    rw[e,en,ax W]
    all_goals (cases b ρ S with
     |bad=>rfl
     |er x o=>rfl
     |ok a o=>ext a<;>rfl)
   .cases a with
    |nx r=>show Hk I M j m (n+1) r o () k
    |rt v=>show#[k]
    |ct r=>show k.elim
    |bk r=>show k.elim
theorem xi{b:dX}(I:Nat->aW->aP->Prop)(M:Nat)(h:M<1000000)(e:I 0 ρ ω)(a:∀n ρ ω,I n ρ ω->(∃S,c ρ ω=.ok V4 S/\N ρ S)\/(n<M/\∃S,c ρ ω=.ok P S/\jQ (b ρ S) (I (n+1)) T X)):jQ (lY c b ρ ω) N T X:=Hk I M a 1000000 0 ρ ω () e
theorem AD{b:dX}(I:Nat->aW->aP->Prop):∀(L:G D) (k:Nat) (ρ:aW) (ω:aP),I k ρ ω->(∀i d ρ ω,L[i]?=M d->I (k+i) ρ ω->∃ρ1 S,gt (.fz d) ρ ω=.ok ρ1 S/\jQ (b ρ1 S) (I (k+i+1)) T X)->jQ (km gt b L ρ ω) (I (k+L.length)) T X
 |[],k,ρ,ω,h0,_=>#[h0]
 |d::r,k,ρ,ω,h0,C=>by
  let(ρ1,S,w,u):=C 0 d ρ ω W h0;let p:∀j a,I (k+1) j a->jQ (km gt b r j a) (I (k+(r.length+1))) T X:=λj a h=>by
   let e:k+(r.length+1)=k+1+r.length:=by ext
   rw[e];show AD I r (k+1) j a h λi A m l J t=>?_;let e:k+1+i=k+(i+1):=by ext
   rw[e]at t⊢;show C (i+1) A m l (by simpa using J) t
  show .eq (show km gt b (d::r) ρ ω=(b ρ1 S).bind λq Z=>match q with
   |.nx Q=>km gt b r Q Z
   |.ct Q=>km gt b r Q Z
   |.bk Q=>.ok (.nx Q) Z
   |.rt x=>.ok (.rt x) Z from ?_) (Out.bind (u.imp λq o k=>?_))
  .show((gt (.fz d) ρ ω).bind _)=_
   rw[w,en]
   all_goals (cases b ρ1 S with
    |bad=>rfl
    |er x o=>rfl
    |ok q o=>ext q<;>rfl)
  .cases q with
   |nx r=>show p _ _ k
   |rt v=>show#[k]
   |ct r=>show k.elim
   |bk r=>show k.elim
def DG{b:dX}(I:Nat->aW->aP->Prop)(m:C ρ ω=.ok L S)(h:I 0 ρ S)(a:∀i d ρ ω,L[i]?=M d->I i ρ ω->∃ρ1 S,gt (.fz d) ρ ω=.ok ρ1 S/\jQ (b ρ1 S) (I (i+1)) T X)(e:∀l c,I L.length l c->N l c):jQ (uX C gt b ρ ω) N T X:=by
 let:=AD I L 0 ρ S h (by simpa using a);rw[Xg]at this;show .eq ?_ (this.imp λj o k=>?_)
 .ext uX;rw[m,en]
 .cases j with
  |nx r=>show e _ _ k
  |rt v=>show k
  |ct r=>show k.elim
  |bk r=>show k.elim
theorem gS(I:Nat->aW->aP->G SV->Prop):∀(L:G D) (k:Nat) (ρ:aW) (ω:aP) (acc:G SV),I k ρ ω acc->(∀i d ρ ω acc,L[i]?=M d->I (k+i) ρ ω acc->acc.length<1000000/\∃ρ1,gt (.fz d) ρ ω=.ok ρ1 ω/\ft ρ1 ω=.ok P ω/\Out (fe ρ1 ω) (λx Z=>I (k+i+1) ρ1 Z (acc++[x])) X)->Out (bH gt ft fe L ρ ω acc) (λxs c=>∃s,I (k+L.length) s c xs) X
 |[],k,ρ,ω,acc,h0,_=>#[ρ,h0]
 |d::r,k,ρ,ω,acc,h0,A=>by
  let(p,ρ1,u,t,q):=A 0 d ρ ω acc W h0;show .eq (show bH gt ft fe (d::r) ρ ω acc=(fe ρ1 ω).bind λx Y=>bH gt ft fe r ρ1 Y (acc++[x])from ?_) (Out.bind (q.imp λx o m=>?_))
  .show((gt (.fz d) ρ ω).bind _)=_
   rw[u,en,t,en,ax W];cases fe ρ1 ω with
   |bad=>rfl
   |er x o=>rfl
   |ok x o=>show(if acc.length<1000000 then _ else _)=_;rw[ax p];rfl
  .let e:k+(d::r).length=k+1+r.length:=by rw[Wi];ext
   rw[e];show gS I r (k+1) ρ1 o _ m λi v h a j C l=>?_;let e:k+1+i=k+(i+1):=by ext
   rw[e]at l⊢;show A (i+1) v h a j (by simpa using C) l
def zm(c:J ρ ω=.ok L S)(a:Out (bH (λx ρ ω=>gz (gt x ρ ω)) (λρ ω=>gz (o ρ ω)) fe L (d7 n C ρ) S []) (λxs Z=>T (.rf Z.length) (Z++[.lst xs])) X):Out (oK n C J gt o fe ρ ω) T X:=by ext oK;rw[c,en];show Out.bind (a.imp λ_ _ k=>#[k])
def AH(a:fo ρ ω=.ok (.rf i) S)(h:S[i]?=M (.obj C fs))(hm:fs.lookup m=R)(j:fa ρ S=.ok xs Z)(c:(SV.rf i::xs).length=n):jH C m F n fo fa ρ ω=F (.rf i::xs) Z:=by
 let e:lJ S C m (.rf i)=P:=by ext lJ;dsimp only;rw[h];dsimp only;rw[hm];simp
 ext jH;rw[a,en,ax e,j,en,ax c]
def Ir(c:fa ρ ω=.ok xs S)(a:(SV.rf S.length::xs).length=n):yT C F n fa ρ ω=(F (.rf S.length::xs) (S++[.obj C []])).bind λr Z=>(if CY r=P then .ok (.rf S.length) Z else .bad):=by ext yT;rw[c,en];ext tU;rw[ax a]
def xK(c:fa ρ ω=.ok xs S)(a:(xs++es.map SV.fz).length=n):tQ F n es fa ρ ω=F (xs++es.map SV.fz) S:=by ext tQ;rw[c,en,ax a]
def tJ(e:o ρ ω=.ok xs S)(c:(xs++es.map SV.fz).length=n)(a:F (xs++es.map SV.fz) S=.ok x Z):nM F n es o ρ ω=.ok x Z:=by ext nM;rw[e,en,ax c,a];rfl
def Cv{c f:Str}(h:fe ρ ω=.ok (.fz d) S)(hd:L9.Ts d=P):nI c f fe ρ ω=.er #[c,[(f,d)]] S:=by ext nI;rw[h,en];dsimp only;rw[ax hd]
end
end L10
namespace L3
open PySem PyProof.Rows L2
section
variable{P:Ws}{w:WO}{K:lD}{Q:Str->b3 Ld}{base h:Heap}{f T:V5}{n:Str}{t:XY}{S:bg Str}{Y:Nat}{N:Sp}{U:u6}{Z:Array Ld}
theorem NI.aj7(i:NI K f n t)(X:K.In h)(G:h.Ns Wr Q)(b:BA n n t S)(ok:∀fd,Fun K n n t f fd->FnOk P w K Q base U Y f fd S N):yw P w K Q base U Y n S [] N:=
 let#[fd,z]:=i.F;#[f,fd,[],ok fd z,z.binds b,.nil,z.kp,XN X G i.a]
structure DI(K:lD)(f T:V5)(n:Str)(t:XY)(Z:Array B):Prop where
 a:WC K Wr n=M (M (.ref f))
 F:∃fd,acg K n n t f fd T Z
theorem KG{x a:Str}{b:XY}{r:B}{q:z V5}{kV e j:B}{l:z V5}{i ct:B}{g:Array (z B)}{p:B}{o:z V5}{k:Nat}{m:Array (z B)}
  (u:K.lookup f=M #[r,q,.func (Xw x a (fh b) (bO b) (au b) (.ref T) kV e j l i ct),g]) (y:Y9 K i a=V0) (v:XF K (.ref f)=V0) (lt:K.lookup T=M #[p,o,.seq Z k,m]):acg K x a b f (Xw x a (fh b) (bO b) (au b) (.ref T) kV e j l i ct) T Z:=
 #[#[_,_,_,_,_,_,_,_,_,W,u,y],v,_,_,lt,W]
def BD(n:Str)(t:XY)(T:V5)(Z:Array B)(S:G Str)(ds:G B):Prop:=∀(kV b e:B) (g:z V5) (i ct:B) (a:G B),(a++ds).length=S.length->∃k:z (Array B)->Sem (G (Str×B)),bindArgs (Xw n n (fh t) (bO t) (au t) (.ref T) kV b e g i ct) #[a,[]]=seqItems? (.ref T)>>=k/\k (M Z)=pure (S.zip (a++ds))
theorem DI.cal{ds:bg B}{b:bg V}(i:DI K f T n t Z)(X:K.In h)(G:h.Ns Wr Q)(g:BD n t T Z S ds)(e:Vals b ds)(ok:∀fd,acg K n n t f fd T Z->FnOk P w K Q base U Y f fd S N):yw P w K Q base U Y n S b N:=
 let#[fd,z]:=i.F;#[f,fd,ds,ok fd z,z.binds g,e,z.kp,XN X G i.a]
end
structure Tp(P:Ws)(w:WO)(K:lD)(mg:Str->z B)(base h:Heap):Prop where
 X:K.In h
 G:h.Ns Wr mg
section
variable{P:Ws}{w:WO}{K:lD}{X:Str->b3 Ld}{base h:Heap}{f C T:V5}{n m q:Str}{t:XY}{S fs:bg Str}{Z:Nat}{Q:Sp}{Y:u6}{U:Array Ld}
theorem NI.c(i:NI K f n t)(W:Tp P w K X base h)(ok:∀fd,Fun K n n t f fd->FnOk P w K X base lu Z f fd S Q)(a:BA n n t S:=by ext:2):wH P w K X base Z n S Q:=i.cal W.X W.G a ok
theorem NI.d(i:NI K f n t)(W:Tp P w K X base h)(ok:∀fd,Fun K n n t f fd->FnOk P w K X base Y Z f fd S Q)(a:BA n n t S:=by ext:2):yw P w K X base Y Z n S [] Q:=i.aj7 W.X W.G a ok
theorem MI.mt(i:MI K C f m q t)(c:CI K C n fs)(W:Tp P w K X base h)(ok:∀fd,Fun K m q t f fd->FnOk P w K X base Y Z f fd S Q)(a:BA m q t S:=by ext:2):L10.oA P w K X base Y Z n m S Q:=i.ahg c a ok
theorem MI.k(i:MI K C f "__init__" q t)(c:CI K C n fs)(W:Tp P w K X base h)(ok:∀fd,Fun K "__init__" q t f fd->FnOk P w K X base Y Z f fd S Q)(a:BA "__init__" q t S:=by ext:2):L10.yg P w K X base Y Z n S Q:=i.ai6 c W.X W.G a ok
theorem DI.c{ds:G B}{a:G V}(i:DI K f T n t U)(W:Tp P w K X base h)(b:Vals a ds)(ok:∀fd,acg K n n t f fd T U->FnOk P w K X base Y Z f fd S Q)(e:BD n t T U S ds:=by ext:8):yw P w K X base Y Z n S a Q:=i.cal W.X W.G e b ok
end
end L3
namespace LD
open PySem PySem.Spec PyProof.Rows L2 L3
section
variable{X:Ws}{w:WO}{K:Type}[DecidableEq K]{Y:aiY X w K}{A:WK}{E:Ld->V7->Prop}{s:V7}
def Dt(t:Y.room A)(g:Y.is s.heap k a)(hm:s.heap.DictOfH Y d xs)(D:xs.length<=We)
  (F:∀p,atKey xs k=M p->Q p.2 {s with toks:=s.toks+Y.draws k})
  (C:atKey xs k=R->∀c,c.DictOfH Y d (storedH xs k a v)->Heap.SameBut d s.heap c->Q v {s with heap:=c,toks:=s.toks+Y.draws k}):wpAny (model X w) A (dictSetDefault d (.ref a) v) Q E s:=by
 let(o,es,G,h,B,f,n,m,J):=hm;ext dictSetDefault
 try specialize XH ?_
 show CL (Y.pyHash t g (CL (wpAny_dictFind_heap t g h f n m J (λi=>?_) λj p u=>?_)))
 .let l:=atKey_none_of_get i
  let q:=C l;rw[storedH_new l]at q;let r:=not_mem_keys_of_get i;show CL (ZF (CL (wpAny_updateDictKeys (hz:=by let e:=ahJ n;ext) h f (Wb (q _ #[_,_,G+1,cv _ h (Obj.isFreed_of_dict (Obj.data_mapDictKeys f _)),B.mapDictKeys _,Obj.data_mapDictKeys f _,by simp[n,entryOfKey],λx b=>?_,?_] (Heap.SameBut.update ..))))))
  .rcases W7.mp b with b|b
   .show Y.keeps (m x b) h f (Heap.SameBut.update ..)
   .rw[WI.mp b];show Y.keeps g h f (Heap.SameBut.update ..)
  .rw[Wu,YO];show#[J,by simp,λx b y z e=>r (by rw[WI.mp z]at e;rw[show k=x from e.symm];show b)]
 .let q:=F p (atKey_of_get J u);show CL (af9 h f ?_);rw[entry_at n j,u];show CL (ZF (Wb q))
theorem xO(d a:U)(hd:(d==Xu)=I)(v:B):MeetsIn X w (Xe.«dict.setdefault» #[[.ref d,.ref a,v],[]]) (λA R s=>Y.room A.in1/\∃k xs,Y.is s.heap k a/\s.heap.DictOfH Y d xs/\xs.length<=We/\
  (∀p,atKey xs k=M p->R (.ok (.ret p.2)) {s with toks:=s.toks+Y.draws k})/\(atKey xs k=VY->∀c,c.DictOfH Y d (storedH xs k a v)->Heap.SameBut d s.heap c->R (.ok (.ret v)) {s with heap:=c,toks:=s.toks+Y.draws k})):=
 .of_wp λA R s #[h,k,xs,g,hm,b,l,j]=>by show CL ?_;show CL (ael hm.typeIs ?_);show Wb ?_;show wpAny _ _ (if(d==Xu)=P then _ else(dictSetDefault d (.ref a) v>>=_)) _ _ s;rw[aE (by rw[hd];show Wv)];show CL (Dt h g hm b (λp i=>Wb #[p.2,W,l p i]) λm c f e=>Wb #[v,W,j m c f e])
end
section
variable{X:Cx}{Z:bg (V5×Obj)}{Y:L2.St}{H:Hp}{s:V7}{A:WK}{E:Ld->V7->Prop}{a b:V5}{T:bg (KD×V5×V)}{k:KD}{v:V}{r:Ld}
def Mg(M:A.units+64<cLine)(I:L2.Inv X Z Y H s)(e:H a=cL (DkO a T))(y:pk X.K H T)(C:L2.DV X.K H (.ref b) k.1)(x:RelV v r)(N:T.length<We)
  (J:∀u d c,jI T k=cL u->L2.Inv X Z Y H c->RelV u d->Q d c) (G:jI T k=R->∀c,L2.Inv X Z Y (a8 H a (DkO a (lB T k b v))) c->Q r c):
  wpAny (model X.prog X.w) A (call (.builtin "dict.setdefault") [.ref a,.ref b,r]) Q E s:=by
 let(z,m,l,h,dd):=ub I e y;let n:l.length<=We:=by rw[<-Paired.length h];show z
 let j:(lB T k b v).length<=We:=by let:=oX T k b v;ext
 let f:=wq (k:=k) h;show abj aaU dd.typeIs PySem.F.entry_dict_setdefault (PySem.F.args_dict_setdefault_3 _ _ _) (xO a b m r) #[mZ (),k,l,nU I C,dd,n,λp t=>?_,λhn L i o=>?_]
 .rw[t]at f
  cases g:jI T k with
  |none=>rw[g]at f;show f.elim
  |some u=>rw[g]at f;show J u p.2 _ g (I.tok _) f
 .rw[hn]at f
  cases g:jI T k with
  |some u=>rw[g]at f;show f.elim
  |none=>
   show G g _ ?_;let B:∃q,L.get? a=cL q:=let#[q,_,_,S,_]:=i;#[q,S]
   show mK I (by rw[e];show True.intro) o B (zg j m (Iz x h) i)
def ND(K:lD)(h ty g:TE):TE:=λY H Q=>h Y H λx f=>∃a j,x=.ref a/\f a=M (DkO a j)/\ty Y f λy i=>g Y i λz e=>∃b T k,y=.ref b/\e a=M (DkO a T)/\pk K e T/\L2.DV K e (.ref b) k.1/\T.length<We/\
 (∀u,jI T k=M u->Q u e)/\(jI T k=R->Q z (a8 e a (DkO a (lB T k b z))))
end
section
variable{X:Cx}{o e f:Ww}{td ty tx:TE}{Z Yy:Pos}
def pe_ddsd(P:X.A.units+64<cLine)(R:PE X o td)(U:PE X e ty)(T:PE X f tx)(m:M2 X o "setdefault" Z e f Yy):PE X (.Call (.Attribute o "setdefault" Z) [e,f] [] Yy) (ND X.K td ty tx):=by
 intro i s j H Q I h;show af6 m.base m.few m.line Zq aaU PySem.F.type_dict_setdefault (bT (R i s j H _ I h) λu B a=>?_);let(x,H1,p,E,a,q,ex,e0,A):=a;subst ex;obtain rfl:=E;let(t,r,_):=AE p e0;show#[t,r,?_];rw[m.trees];show Calls.callWith_builtin W (Calls.evalArgs_plain (Calls.spliced_cons (bT (U i B j H1 _ p A) λiv w #[y,H2,I2,C,L]=>
  Calls.spliced_cons (bT (T i w j H2 _ I2 L) λfv s3 a=>?_))));let(z,H3,I3,rz,b,xs,k,Y,e3,N,O,S,J,G):=a;show Calls.spliced_nil ?_
 subst Y;obtain rfl:=C;show Mg P I3 e3 N O rz S (λu w' v g n l=>#[u,H3,n,l,J u g]) λg v n=>#[z,_,n,rz,G g]
end
end LD
namespace L10
open PySem PyProof.Rows L2 L3 LD
section
variable{B O O':bG}{K:lD}{E:XK}{H H' H1 H2:Hp}{α α' U X:bg V5}{ω ω' ω1 Y Z:aP}{T:L2.St}{ρ:aW}{v:V}
def tj(fd b a:c8):c8:=λρ ω=>(fd ρ ω).bind λo ω1=>(RS.W5 ω1 (oy ω1 o)).bind λ_ ω1=>(b ρ ω1).bind λx Y=>(a ρ Y).bind λz Z=>(RS.W5 Z (jV x)).bind λk Z=>(RS.W5 Z (Rs z)).bind λe Z=>(RS.W5 Z (oy Z o)).bind λp Z=>
 if p.2.length<1000000 then(match gy p.2 k with
  |some d=>.ok (.fz d) Z
  |none=>.ok (.fz e) (Z.set p.1 (.dd (ng p.2 k e))))else .bad
def GM(hd:cb K E td fd)(D:cb K E tk fk)(c:cb K E tx fx):cb K E (ND K td tk tx) (tj fd fk fx):=by
 intro B T H α ω ρ Q s t w;show hd B T H α ω ρ _ s t (w.bind.imp λo U ω1 H1 e1 L r u N=>?_);let((i0,ag4),q0,r):=WS.W5 r;let(_,a,p,_,rfl,g0,_):=uj L N q0;show#[a,p,W,g0,?_];show D B T H1 U ω1 ρ _ L (t.Yl e1) (r.bind.imp λx X Y H2 e2 s2 S v hv=>?_);show c B T H2 X Y ρ _ s2 (t.Yl (e1.trans e2)) (S.bind.imp λz f Z j e3 A g l hz=>?_);let(d,q1,g):=WS.W5 g;let(e,C,g):=WS.W5 g;let((i,WA),q2,g):=WS.W5 g;let(F,a',xs,ha,ea,g1,n):=uj A (N.Yl (e2.trans e3)) q2;ext ea;let(k,b,rfl,rfl,P):=mM q1 (hv.Yl e3);let h:L3.DV (ow B f Z) K j l e:=by
  cases z with
  |fz d=>ext C;show hz
  |rf _=>ext C
  |tp _=>ext C
 by_cases I:WA.length<1000000
 .rw[ax I]at g
  let G:xs.length<We:=qK (by rw[Paired.length n];show I);let(M,p2):=sA n;show#[b,xs,k,W,g1,yi n,P.plain,G,λu m=>?_,λR=>?_]
  .cases q:gy WA k.1 with
   |none=>rw[p2 q]at m;ext m
   |some y=>rw[q]at g;let(u',J,h'):=M y q;rw[J]at m;ext m;show WS.now A g _ h'
  .cases q:gy WA k.1 with
   |some y=>let(u',J,_):=M y q;rw[J]at R;ext R
   |none=>rw[q]at g;let ev:Ev (ow B f Z) j (ow B f Z) (a8 j a (DkO a (lB xs k b l))):=oO ha F (by nofun);let e4:XX f Z j f (Z.set i (.dd (ng WA k.1 e))) (a8 j a (DkO a (lB xs k b l))):=XX.put ha F (by nofun) (by nofun);show g f _ e4 (A.put ha F (by nofun) (by nofun) #[_,aI,xX (P.ev ev) (h.ev ev) (EI ev n)]) l (YI.Yl e4 h)
 .rw[aE I]at g;show g.elim
end
end L10
namespace LD
open PySem PySem.Spec PyProof.Rows L2 L3
section
variable{Y:Ws}{w:WO}{K:Type}[DecidableEq K]{X:aiY Y w K}{A:WK}{E:Ld->V7->Prop}{s:V7}
theorem yt(d:U)(hd:(d==Xu)=I):MeetsIn Y w (Xe.«dict.__len__» #[[.ref d],[]]) (λ_ R s=>∃xs,s.heap.DictOfH X d xs/\R (.ok (.ret (.int xs.length s.toks))) {s with toks:=s.toks+1}):=
 .of_wp λA R s #[xs,hm,h]=>by let(o,es,i,b,g,a,f,e,j):=hm;show wpAny _ _ (dictSize d>>=_) _ _ s;show CL (CL (af9 b a (Wb ?_)));show CL (wpAny_pendingCount_other hd ?_);show wpAny_ret_mkInt ?_;rw[Nat.add_zero,ahJ f];show h
def GP(hd:(d==Xu)=I)(hm:s.heap.DictOfH X d xs)(a:(xs.length:Int)<2^63)
  (h:Q (.int xs.length (s.toks+1)) {s with toks:=s.toks+1+1}):wpAny (model Y w) A (call (.builtin "len") [.ref d]) Q E s:=by
 show Calls.call_function_entry kind_len plain_len entry_len (args_len1 _) ?_;show CL (Wb ?_);show CL (Yh hm.typeIs ab0
  (abj ab0 hm.typeIs PySem.F.entry_dict_len (PySem.F.args_dict_len_1 _) (yt d hd) #[xs,hm,?_]))
 show CL (XH (Wb ?_));show CL (YA ?_);rw[aE ()];rw[aE ()];show CL (aey (Wb #[_,W,h]))
end
def rLenDD(K:lD):G V->Hp->(V->Hp->Prop)->Prop:=λxs H Q=>∃a b,xs=[V.ref a]/\H a=M (DkO a b)/\pk K H b/\Q (.int b.length) H
def call_lenDD:Yg X (.builtin "len") (rLenDD X.K):=by intro e s j H xs m Q I r h;let(a,o,rfl,n,g,q):=h;let(u,rfl,f):=jE r;ext f;let(z,i,l,b,dd):=ub I n g;show GP i dd (by rw[<-Paired.length b];rw[X8]at z;ext) ?_;rw[<-Paired.length b];show#[.int o.length,H,I.tok _,#[_,W],q]
end LD
namespace L10
open PySem PyProof.Rows L2 L3 LD
section
variable{B O Y:bG}{K:lD}{E:XK}
def mh(fd:c8):c8:=λe b=>(fd e b).bind λo a=>(RS.W5 a (oy a o)).bind λp a=>.ok (.fz (.int p.2.length)) a
def Cq(hd:cb K E C fd):cb K E (Ax (rLenDD K) (d6 C g6)) (mh fd):=by intro B j H α r t Q s l w;show hd B j H α r t _ s l (w.bind.imp λo b h q e1 f e u n=>?_);let((i,y),m,e):=WS.W5 e;let(_,a,xs,v,rfl,p,g):=uj f n m;show#[a,xs,W,p,yi g,?_];rw[Paired.length g];show e b _ .refl f _ (.int _)
def jr(c:c8):IP:=λe b=>(c e b).bind λx a=>(RS.W5 a (Rs x)).bind λd a=>RS.W5 a (gv [d])
def DL(h:cb K E C J):P2 K E (Hu (d6 C g6)) (jr J):=by
 intro B l H α t u q s m w;show h B l H α t u _ s m (WS.imp (WS.bind w) λx b e i e1 n a v o=>?_);let(d,f,a):=WS.W5 a;cases r:gv [d]with
 |none=>rw[r]at a;show a.elim
 |some ds=>
  rw[r]at a;let p:L3.DV (ow B b e) K i v d:=by
   cases x with
   |fz d=>ext f;show o
   |rf _=>ext f
   |tp _=>ext f
  cases d with
  |int j=>
   unfold gv at r;dsimp only at r;split at r
   .rename_i g;ext r;ext p;show#[j,W,g.1,g.2,a b i .refl n _ xg]
   .ext r
  |_=>ext r
end
end L10
namespace L4
open PySem PySem.Spec PyProof.Rows L2 L3
def MZ(g:XK)(d e:TS):TS:=λD b H=>d D b H/\∀c f H1,g c f H1->∀(a:L2.St),a.length=b.length->e {nx:=D.nx,rt:=D.rt} a H1
def Ls{X:Cx}{J P:bg XY}{b0:XY}{tb ts:TS}{E2:XK}{U:V5}{x:Str}{np akT pos:Pos}{mU:bg Ld}
  (hex:X.ex=[]) (cV:X.stack=X.env::X.outer) (V:X.env.frame=cL X.env.locals) (hg:Gl X x) (hm:X.mg x=cL (.ref U)) (hU:xa X.K U mU) (hbU:mU.contains (.type "BaseException")=V0)
  (hb:∀l,PSs ((Cx.pinned X l).ZH (HL (Cx.pinned X l) E2)) J tb) (hs:∀l e,PSs (Cx.marked (Cx.pinned X l) e) (b0::P) ts)
  (hE:∀c d H,E2 c d H->∃C m,c=.ref C/\xa X.K C m/\(Ld.ref C::m).contains (.ref U)=V0) (hdb:(x==("__debug__":Str))=V4:=by decide):
  PS X (.Try J [.ExceptHandler (cL (.Name x np)) VY (b0::P) akT] [] [] pos) (MZ E2 tb ts):=by
 intro g s σ H D I #[h,hc];let IY:=JC I;let M:(Cx.pinned X (X.pn++g)).ex=[]:=hex;show wpAny_Try_except (wpAny_mono (hb (X.pn++g) [] s σ H D (IY.ZH _) h) (λf O n=>?_) (λv O hx=>?_))
 .let n:=SP.Y4 n
  cases f with
  |next=>let(a,j,i,G):=n;show Zj #[a,j,gQ I.ok i,G]
  |brk=>let(a,j,i,G):=n;show#[a,j,gQ I.ok i,G]
  |cont=>let(a,j,i,G):=n;show#[a,j,gQ I.ok i,G]
  |ret u=>let(v,a,j,i,r,G):=n;show#[v,a,j,gQ I.ok i,r,G]
 .let(a,j,e,c,d,a0,T,rfl,i,F,Y,S,ne,nT,q):=hx
  let(C,mC,hcC,(n1,G,N1,b1,d1,t1,u1,a1,l1,x1,i0,i1,i2,i3,i5,id1,kC),hup):=hE c d j q;let(n2,q2,N2,b2,d2,t2,u2,a2,l2,x2,j0,j1,j2,j3,j5,id2,kU):=hU;let fr:X.A.frames=cL (X.env::X.outer):=by rw[<-cV];show I.ok.frames
  let ff:O.heap.FunFrames X.base (X.env::X.outer):=by rw[<-cV];show i.stack
  show LX fr ff V F λh2 Z z2 F2 N=>?_
  let A:L2.Inv (Cx.pinned X (X.pn++g)) [] a j {O with heap:=h2}:=rO i (λb=>b=e\/b=T) M (λp R y=>y.elim (Y.nP p R) (S.nP p R))
   (λb o z B nf=>N.keep b o z (λy=>B (.inl y)) (λy=>B (.inr (Wm y).symm)) (by rw[<-cV];show nf))
   (λb o z B=>N.slot b o z (λy=>B (.inl y)) (λy=>B (.inr (Wm y).symm))) N.here
   (λb y=>y.elim (λy=>by rw[y];show Y.n0) (λy=>by rw[y];show S.n0)) (λy=>y.elim (λy=>Y.nL y.symm) (λy=>S.nL y.symm))
   (λy k z w=>w.elim (Y.nC y k z) (S.nC y k z)) (λb y=>y.elim (λy=>by rw[y];show ne) (λy=>by rw[y];show nT))
  let E:Apart (Cx.pinned X (X.pn++g)) Z:=rB i M (dk z2);let nT2:j Z=VY:=i.Xr.fresh z2;show wpAny_handleBy_cons (codeAny_handlers_test (kO (X:=Cx.marked (Cx.pinned X (X.pn++g)) e) (qQ A e) hg hm ?_ hdb)) (by nofun);let F2':=F2;let(ob,fs,qe,cE,dE,dF,_):=F2';show Fx (A.kIn _ _ kC) (A.kIn _ _ kU) qe (cE.trans hcC) hbU hup ?_;show codeAny_handlers_suite (Ri F2 λh3 F3 Zp hT3=>?_)
  let I3:L2.Inv (Cx.pinned X (X.pn++g)) [] a j {O with heap:=h3}:=rO (s:={O with heap:=h2}) A (λb=>b=Z) M (λp R y=>E.nP p R y)
   (λb o z B _=>(Zp b B).trans z) (λb o z B=>#[o.slots,(Zp b B).trans z])
   (λb o z=>(Classical.em (b=Z)).elim (λy=>by rw[y];show hT3) (λy=>#[o,(Zp b y).trans z])) (λb y=>by rw[y];show E.n0) (λy=>E.nL y.symm) (λy k z w=>E.nC y k z w) (λb y=>by rw[y];show nT2)
  let w:=hc c d j q a (i.len.trans I.len.symm);show wpAny_mono (hs (X.pn++g) e [] _ _ _ _ (qQ I3 e) w) (λf s5 n=>?_) (λy s5 z=>z.elim);cases f with
  |next=>let(t,H2,Q,L):=n;show#[_,_,gQ I.ok (qN IY.ok Q),L]
  |brk=>let(t,H2,Q,L):=n;show L.elim
  |cont=>let(t,H2,Q,L):=n;show L.elim
  |ret u=>let(v,t,H2,Q,r,L):=n;show#[v,t,H2,gQ I.ok (qN IY.ok Q),r,L]
end L4
namespace PySem
namespace SetTable
def UF(xs:Array Nat):Prop:=xs.toList.Pairwise (·<·)
structure TI(b:Bool)(t:SetTable):Prop where
 led:t.led=b
 dm:t.dummies= #v[]
 ris:UF t.place
end SetTable
end PySem
namespace PySem
open SetTable
section
variable{prog:Ws}{w:WO}{K:Type}[DecidableEq K]{knd:KeyKind prog w K}{A:WK}{E:Ld->V7->Prop}{s:V7}{b:Bool}{a:V5}{es:Array (Int×Ld)}
structure SetX(knd:KeyKind prog w K)(b:Bool)(h:Heap)(a:U)(es:Array (Int×B)):Prop where
 x:∃o ep t,h.get? a=M o/\o.ExactSet/\o.data=.set es ep t/\t.fits es.size=P/\TI b t
 el:ElemsOf knd es.toList
 sz:es.size<scanBound
end
end PySem
namespace PySem
namespace SetTable
structure TT(t:SetTable)(n:Nat):Prop where
 k:∃k,t.mask+1=2^k
 dm:t.dummies= #v[]
 ris:UF t.place
 le:∀v∈t.place.toList,v<=t.mask
 sz:t.place.size=n
 few:n*5<t.mask*3
section
variable{t:SetTable}{n:Nat}{p:Probe}
structure PI(t:SetTable)(p:Probe):Prop where
 nine:p.more<=9
 jm:p.j+p.more<=t.mask
 pt:p.perturb<2^64
 dm:p.dummy=R
end
end SetTable
end PySem
namespace LD
open PySem PySem.SetTable PyProof.Rows L2 L3
section
variable{prog:Ws}{w:WO}{E:Ld->V7->Prop}
variable{A:WK}{s:V7}
structure SetH(prog:Ws)(w:WO)(b:Bool)(h:Heap)(a:U)(es:Array (Int×B))(ks:G (KD×U)):Prop where
 x:∃o ep t,h.get? a=M o/\o.ExactSet/\o.data=.set es ep t/\TT t es.size/\t.led=b/\t.mask<=8*es.size+8
 el:∀e∈es.toList,∃k c,(k,c)∈ks/\e.2=.ref c/\(fZ prog w).is h k c
mutual
theorem C9{h h':Heap}{x:V5}{e:Obj}(f:h.get? x=cL e)(i:∀vs n,e.data≠.seq vs n)(g:Heap.SameBut x h h'):∀(d:V3) (v:Ld) (as:bg V5),kd d=V0->acE h v d as->acE h' v d as
 |.none,_,_,_,r=>by cases r;exact .none
 |.int _,_,_,_,r=>by cases r;exact .int _ _
 |.str _,_,_,_,r=>by cases r;exact .str _ _
 |.tuple xs,_,_,k,r=>by
  cases r with
  | @tuple a o vs n _ _ h1 h2 h3 h4=>
   have b:a≠x:=by rintro rfl;rw[f]at h1;cases h1;exact i _ _ h3
   unfold kd at k;exact .tuple ((g.2 a b).trans h1) h2 h3 (qu f i g xs _ _ k h4)
 |.bool _,_,_,h,_|.list _,_,_,h,_|.dict _,_,_,h,_=>by simp[kd]at h
theorem qu{h h':Heap}{x:V5}{a:Obj}(b:h.get? x=cL a)(f:∀vs n,a.data≠.seq vs n)(e:Heap.SameBut x h h'):∀(ds:bg V3) (vs:bg Ld) (as:bg V5),kds ds=V0->aaH h vs ds as->aaH h' vs ds as
 |[],_,_,_,r=>by cases r;exact .nil
 |d::ds,_,_,k,r=>by
  cases r with
  |cons i g=>unfold kds at k;rw[VZ]at k;exact .cons (C9 b f e d _ _ k.1 i) (qu b f e ds _ _ k.2 g)
end
end
end LD
namespace L2
open PySem PySem.Spec PyProof.Rows
variable{X:Cx}{a b:Ww}{Y:bg Ww}{T:Pos}{S Q:TE}
end L2
namespace CC
open PySem L2 L3 L10
def iZ:Ww->Bool
 |.BinOp .. |.UnaryOp .. |.IfExp .. |.ListComp .. |.Compare .. |.Call .. |.Constant .. |.Attribute .. |.Subscript .. |.Name .. |.List .. |.Tuple .. |.BoolOp .. |.JoinedStr .. |.Dict .. =>P
 |_=>I
def UN:Ww->Bool
 |.BinOp .. |.Call .. |.Attribute .. |.Subscript .. |.Name .. =>P
 |_=>I
def Oo:Ww->Bool
 |.ListComp .. =>P
 |_=>I
def SK:Ww->Bool
 |.Constant .. |.Attribute .. |.Subscript .. |.Name .. =>P
 |_=>I
section
variable{e o a b:Ww}{es:bg Ww}{env:Env}{Y p:Pos}{n k:Nat}
def jv(h:iZ e=P):Wn (e::es) env=(I,eval e env)::Wn es env:=by ext e<;>first|rfl|ext h
def uE(h:iZ e=P):AW e:=by ext e<;>first|(intro _ _;rfl)|ext h
def AI(h:iZ e=P):∀x,foldedSetIterable e env x=pure x:=by ext e<;>first|(intro _;rfl)|ext h
def Lu(h:UN e=P):∀whole:Sem B,isTrue e env whole=(do let v<-whole;standAt e.pos;holding [v] (truthy v)):=by ext e<;>first|(intro _;rfl)|ext h
def AY{t}(h:(iZ e&& !Oo e)=P):Yu e t n env=pure I:=by ext e<;>first|rfl|ext h
def Td{f p}(h:iZ e=P):Yu e (M (.Attribute o f p)) n env=pure I:=by ext e<;>first|rfl|ext h
def N0(h:iZ e=P):Yu e (M (.Subscript o a p)) n env=pure I:=by ext e<;>first|rfl|ext h
def fQ{f:Str}(h:SK e=P):attributeBase e f env (eval e env)=eval e env:=by ext e<;>first|rfl|ext h
def Mj(h:iZ e=P):Qd e=I:=by ext e<;>first|rfl|ext h
def OZ(h:es.all iZ=P):((backTo Y (Wn es env)).any λx=>x.1)=I:=by
 induction es with
 |nil=>rfl
 |cons e es f=>rw[Yk,VZ]at h;rw[jv h.1];show f h.2
def QP(h:es.all iZ=P):((backTo Y (Wn es env)).all λx=> !x.1)=P:=by
 induction es with
 |nil=>rfl
 |cons e es f=>rw[Yk,VZ]at h;rw[jv h.1];show f h.2
def db(h:(e::es).all iZ=P):Wn (e::es) env=(I,eval e env)::Wn es env:=by rw[Yk,VZ]at h;show jv h.1
def iC(h:(e::es).all iZ=P):((backTo Y (Wn es env)).any λx=>x.1)=I:=by rw[Yk,VZ]at h;show OZ h.2
def mH(h:es.all iZ=P)(f:es.length<20):methodCallForm (es.length+([]:G ZS).length) (backTo Y (Wn es env)) (backToKw Y (keywordEach [] env))=P:=by ext methodCallForm;rw[QP h,ZA];show(VZ _ _).mpr #[W,a4 ?_];show es.length+0+0<30;ext
def Sa{q}{m:Str}(h:SK o=P)(g:es.all iZ=P)(i:es.length<20)(j:(p.endLine==q.line)=P):∃pl,eval (.Call (.Attribute o m p) es [] q) env=(do
   let C<-eval o env
   standAt p.atName
   let(f,first)<-holding [C] (getMethod C m pl)
   callWith q f first (backTo q (Wn es env)) (backToKw q (keywordEach [] env))):=by
 show#[do return(<-importBound o env).getD P,?_];show(do
  let C<-attributeBase o m env (eval o env)
  standAt p.atName
  methodCall o m p q env C (es.length+([]:G ZS).length) (backTo q (Wn es env)) (backToKw q (keywordEach [] env)))=_
 rw[fQ h];unfold methodCall calleeOf methodCallPos;rw[mH g i,j];rfl
def Sb{elt g sc x}(h1:env.scope.kind=.function)(f:env.kindOf x=M .local)(d:(p.line==Y.line)=P)(c:(sc.names.any λy=>y.1==x&&(y.2==.local||y.2==.cell))=I):Yu (.ListComp elt [g] sc Y) (M (.Name x p)) n env=pure P:=by show(pure _:Sem Bool)=_;rw[show env.blockKind=.function by ext Env.blockKind;rw[h1];rfl,f];show(pure (_&&(p.line==Y.line)&& !(sc.names.any λy=>y.1==x&&(y.2==.local||y.2==.cell))):Sem Bool)=_;rw[d,c];rfl
end
def bf{α:Type}{o:z α}{p:α->Bool}(h:o.any p=P):∃x,o=M x/\p x=P:=by
 cases o with
 |none=>ext h
 |some x=>show#[x,W,h]
def sK{α:Type}{P:α->Prop}{o:z α}(k:o.elim True P){x:α}(h:o=M x):P x:=by subst h;show k
def vN:Ww->z (Str×Pos)
 |.Name x p=>M (x,p)
 |_=>R
def vC:Ww->z Const
 |.Constant c _ _=>M c
 |_=>R
def Su:Ww->z (Ww×aet×Ww)
 |.BinOp a o b _=>M (a,o,b)
 |_=>R
def P8:Ww->z (Ww×G abW×G Ww)
 |.Compare a o b _=>M (a,o,b)
 |_=>R
def yK:Ww->z (Ww×Ww×Pos)
 |.Subscript a b p=>M (a,b,p)
 |_=>R
def GA:Ww->z (G Ww)
 |.Tuple es _ _=>M es
 |_=>R
def Sj:Ww->z (G Ww)
 |.List es _=>M es
 |_=>R
def Bh:Ww->z (Ww×G Ww×G ZS×Pos)
 |.Call f es a p=>M (f,es,a,p)
 |_=>R
def TU:Ww->z (Ww×Str×Pos)
 |.Attribute o x p=>M (o,x,p)
 |_=>R
def UR:Ww->z (Ww×Ww×Ww)
 |.IfExp c a b _=>M (c,a,b)
 |_=>R
def TL:Ww->z (aft×G Ww×Pos)
 |.BoolOp o es p=>M (o,es,p)
 |_=>R
def Ut:Ww->z (UnaryOp×Ww)
 |.UnaryOp o a _=>M (o,a)
 |_=>R
def UZ:Ww->z (Ww×G Za×XS×Pos)
 |.ListComp e g s p=>M (e,g,s,p)
 |_=>R
def U0:Ww->z (G (z Ww)×G Ww)
 |.Dict k v _=>M (k,v)
 |_=>R
section
variable{e:Ww}
theorem qW(h:vN e=M x):e=.Name x.1 x.2:=sK (P:=λx=>e=.Name x.1 x.2) (by ext e<;>first|show trivial|rfl|show#[_,W]|show#[_,_,W]) h
theorem Nm(h:vC e=M x):∃k p,e=.Constant x k p:=sK (P:=λx=>∃k p,e=.Constant x k p) (by ext e<;>first|show trivial|rfl|show#[_,W]|show#[_,_,W]) h
theorem JD(h:Su e=M x):∃p,e=.BinOp x.1 x.2.1 x.2.2 p:=sK (P:=λx=>∃p,e=.BinOp x.1 x.2.1 x.2.2 p) (by ext e<;>first|show trivial|rfl|show#[_,W]|show#[_,_,W]) h
theorem Aq(h:P8 e=M x):∃p,e=.Compare x.1 x.2.1 x.2.2 p:=sK (P:=λx=>∃p,e=.Compare x.1 x.2.1 x.2.2 p) (by ext e<;>first|show trivial|rfl|show#[_,W]|show#[_,_,W]) h
theorem kL(h:yK e=M x):e=.Subscript x.1 x.2.1 x.2.2:=sK (P:=λx=>e=.Subscript x.1 x.2.1 x.2.2) (by ext e<;>first|show trivial|rfl|show#[_,W]|show#[_,_,W]) h
theorem uJ(h:GA e=M x):∃k p,e=.Tuple x k p:=sK (P:=λx=>∃k p,e=.Tuple x k p) (by ext e<;>first|show trivial|rfl|show#[_,W]|show#[_,_,W]) h
theorem Jk(h:Sj e=M x):∃p,e=.List x p:=sK (P:=λx=>∃p,e=.List x p) (by ext e<;>first|show trivial|rfl|show#[_,W]|show#[_,_,W]) h
theorem rZ(h:Bh e=M x):e=.Call x.1 x.2.1 x.2.2.1 x.2.2.2:=sK (P:=λx=>e=.Call x.1 x.2.1 x.2.2.1 x.2.2.2) (by ext e<;>first|show trivial|rfl|show#[_,W]|show#[_,_,W]) h
theorem yU(h:TU e=M x):e=.Attribute x.1 x.2.1 x.2.2:=sK (P:=λx=>e=.Attribute x.1 x.2.1 x.2.2) (by ext e<;>first|show trivial|rfl|show#[_,W]|show#[_,_,W]) h
theorem QE(h:UR e=M x):∃p,e=.IfExp x.1 x.2.1 x.2.2 p:=sK (P:=λx=>∃p,e=.IfExp x.1 x.2.1 x.2.2 p) (by ext e<;>first|show trivial|rfl|show#[_,W]|show#[_,_,W]) h
theorem yI(h:TL e=M x):e=.BoolOp x.1 x.2.1 x.2.2:=sK (P:=λx=>e=.BoolOp x.1 x.2.1 x.2.2) (by ext e<;>first|show trivial|rfl|show#[_,W]|show#[_,_,W]) h
theorem FV(h:Ut e=M x):∃p,e=.UnaryOp x.1 x.2 p:=sK (P:=λx=>∃p,e=.UnaryOp x.1 x.2 p) (by ext e<;>first|show trivial|rfl|show#[_,W]|show#[_,_,W]) h
theorem Pg(h:UZ e=M x):e=.ListComp x.1 x.2.1 x.2.2.1 x.2.2.2:=sK (P:=λx=>e=.ListComp x.1 x.2.1 x.2.2.1 x.2.2.2) (by ext e<;>first|show trivial|rfl|show#[_,W]|show#[_,_,W]) h
theorem QC(h:U0 e=M x):∃p,e=.Dict x.1 x.2 p:=sK (P:=λx=>∃p,e=.Dict x.1 x.2 p) (by ext e<;>first|show trivial|rfl|show#[_,W]|show#[_,_,W]) h
def Ew(e:Ww):Bool:=(GA e).isSome
def Io(h:Ew e=P):∃l k p,e=.Tuple l k p:=by let(x,h):=XA.mp h;show#[x,uJ h]
end
abbrev Fd:=Ws->WO->lD->(Str->z B)->Heap->Prop
abbrev fdP(lv:Nat)(x:Str)(b:G Str)(n:Nat)(F:FN):Fd:=λP w K a base=>T9 P w K a base lv x b n F
abbrev fdS(lv:Nat)(x:Str)(b:G Str)(n:Nat)(F:fD):Fd:=λP w K a base=>wH P w K a base lv x b (kh K n F)
abbrev fdM(b:Bool)(lv:Nat)(C x:Str)(c:G Str)(n:Nat)(F:fD):Fd:=λP w K a base=>oA P w K a base (if b then L4.j7 P w else lu) lv C x c (kh K n F)
abbrev fdK(lv:Nat)(C:Str)(b:G Str)(n:Nat)(F:fD):Fd:=λP w K a base=>yg P w K a base lu lv C b (kh K n F)
structure Md where
 bl:G Str
 ex:G Str
 cs:G (Str×D)
 cl:G (Str×G Str)
structure Gm where
 M:Md
 N:G Str
 sc:G (Str×Wo)
 lv:Nat
 rz:Bool
 fa:Bool
 fc:G Str
 top:Nat
abbrev Th:G B:=[.type "ValueError",.type "Exception",.type "BaseException",.type "object"]
structure acq(K:lD)(mg:Str->z B)(M:Md):Prop where
 bl:∀x∈M.bl,mg x=R
 ex:∀x∈M.ex,∃C,WC K Wr x=cL (cL (.ref C))/\mg x=cL (.ref C)/\YX K C Th "ValueError.__new__"=P
 cs:∀x d,M.cs.lookup x=cL d->∃v u,mg x=cL u/\RelV v u/\∀O H,DV O K H v d
 cl:∀C L,M.cl.lookup C=cL L->lx K C L
structure Ct(T:G Fd)(Γ:Gm)(X:Cx)(E:XK):Prop where
 n:X.N=Γ.N
 nd:X.N.Nodup
 sc:X.env.scope.names=Γ.sc
 kd:X.env.scope.kind=.function
 cm:X.calm=P
 rm:X0 Γ.lv X.A
 po:Γ.fa=P->abC (model X.prog X.w) X.A X.env X.xe
 px:Γ.rz=P->∃(N:G Str) (qual:Str) (scope:XS) (f:U) (cd:B) (A:WK) (outer:G Env) (s0:V7) (H0:Hp),X=eF (L4.j7 X.prog X.w) X.prog X.w X.K X.mg X.base N qual scope f cd A outer s0 H0 E
 fc:∀x∈Γ.fc,X.fn x=P
 md:acq X.K X.mg Γ.M
 fs:∀i fd,i<Γ.top->T[i]?=M fd->fd X.prog X.w X.K X.mg X.base
def RT(s:G (Str×Wo))(x:Str):Bool:=s.lookup x==M .local||s.lookup x==M .cell||s.lookup x==M .free
def MV(x:Str):Bool:= !(x==("__debug__":Str))&& !(x==("__classdict__":Str))&& !(x==("__name__":Str))
def Rq(a:Gm)(x:Str):Bool:=a.sc.lookup x==M .globalImplicit&&MV x
def blt(a:Gm)(x:Str):Bool:=Rq a x&&a.M.bl.contains x
def eK{a:z Wo}{b:Wo}(h:(a==M b)=P):a=M b:=by
 cases a with
 |none=>ext h
 |some a=>ext a<;>ext b<;>first|rfl|ext h
section
variable{T:bg Fd}{Z:Gm}{X:Cx}{E:XK}{x:Str}{i:Nat}
def u8(h:MV x=P):(x==("__debug__":Str))=I/\(x==("__classdict__":Str))=I/\x≠("__name__":Str):=by unfold MV at h;simp only[VZ,Yn]at h;show#[h.1.1,h.1.2,λe=>by rw[e,eh]at h;cases h.2]
def oa(c:Ct T Z X E)(h:Rq Z x=P):Gl X x/\(x==("__debug__":Str))=I/\x≠("__name__":Str):=by unfold Rq at h;rw[VZ]at h;show#[?_,(u8 h.2).1,(u8 h.2).2.2];show X.env.scope.names.lookup x=_;rw[c.sc];show eK h.1
def oG(c:Ct T Z X E)(h:blt Z x=P):Gl X x/\X.mg x=R/\(x==("__debug__":Str))=I/\x≠("__name__":Str):=by unfold blt at h;rw[VZ]at h;let(b,a):=oa c h.1;show#[b,c.md.bl x (Z7.mp h.2),a]
def Ed(c:Ct T Z X E)(h:Z.rz=P):dG (L4.j7 X.prog X.w) X E:=by let(N,g,a,f,l,A,b,j,m,e):=c.px h;rw[e];show L4.EH
end
abbrev Jd(a:Type):=lD->XK->a->Prop
def eo(g:FE):Jd TE:=λK E t=>EO K E t g
def es(g:c8):Jd TE:=λK E t=>cb K E t g
def ao(g:FA):Jd TA:=λK E t=>AO K E t g
def as(g:ww):Jd TA:=λK E t=>ut K E t g
def my(g:FT):Jd TT:=λK E t=>TTO K E t g
def mE(g:rG):Jd TT:=λK E t=>sY K E t g
def go(g:FG):Jd TG:=λK E t=>GO K E t g
def DC(g:wZ):Jd TG:=λK E t=>EL K E t g
def gs(g:Rr):Jd zx:=λK E t=>S7 K E t g
def Rv(g:Dq):Jd zx:=λK E t=>Iq K E t g
def io(g:FI):Jd TI:=λK E t=>L3.IO K E t g
def Rh(g:FI):Jd TI:=λK E t=>Um K E t g
def IH(g:IP):Jd TI:=λK E t=>P2 K E t g
def so(g:FS):Jd TS:=λK E t=>SO K E t g
def X7(g:dX):Jd TS:=λK E t=>pO K E t g
class CK (T:G Fd) {α τ:Type} (P:Cx->α->τ->Prop) (J:Jd τ) where
 chk:Gm->α->Bool
 ok:∀{Γ X E a},Ct T Γ X E->chk Γ a=V0->∃t,P X a t/\J X.K E t
def VN(X:Cx)(e:Ww)(t:TG):Prop:=PG X e t/\∀r,assignEach (e::r) X.env=(I,assign e X.env)::assignEach r X.env
def U8(X:Cx)(r:G Ww)(t:zx):Prop:=SJ X r t/\(assignEach r X.env).length=r.length/\List.findIdx? (λx=>x.1) (assignEach r X.env)=R
def VG(X:Cx)(p:Ww×Ww)(t:TI):Prop:=PI X p.1 p.2 t/\iZ p.2=P
abbrev CE(T:G Fd)(J:Jd TE):=CK T PE J
abbrev CA(T:G Fd)(J:Jd TA):=CK T PA J
abbrev CT(T:G Fd)(J:Jd TT):=CK T PT J
abbrev CQ(T:G Fd)(J:Jd TT):=CK T xu J
abbrev CG(T:G Fd)(J:Jd TG):=CK T VN J
abbrev CH(T:G Fd)(J:Jd zx):=CK T U8 J
abbrev CI(T:G Fd)(J:Jd TI):=CK T VG J
abbrev CU(T:G Fd)(J:Jd TS):=CK T PS J
abbrev CS(T:G Fd)(J:Jd TS):=CK T PSs J
def yj{T:G Fd}{α a:Type}{P:Cx->α->a->Prop}{A J:Jd a}[x:CK T P A](k:∀{K E t},A K E t->J K E t):CK T P J:=#[x.chk,λc h=>let#[t,p,q]:=x.ok c h;#[t,p,k q]]
end CC
set_option warn.classDefReducibility false
namespace CC
open PySem L2 L3 L10
variable{T:bg Fd}
def Me(i:Nat)(a:Gm)(e:Ww):Bool:=(vN e).any λx=>a.N[i]? ==M x.1&&RT a.sc x.1&&MV x.1
def zu{a:Gm}{X:Cx}{E:XK}{i:Nat}{e:Ww}(c:Ct T a X E)(h:Me i a e=P):PE X e (pQ i):=by
 let(x,q,h):=bf h;rw[qW q];unfold RT at h;simp only[VZ,Xp]at h;show D1 (by rw[c.n];show beq_iff_eq.mp h.1.1) ?_ (u8 h.2).1 (u8 h.2).2.1;ext TK;rw[c.sc];rcases h.1.2 with(z|z)|z
 .show .inl (eK z)
 .show .inr (.inl (eK z))
 .show .inr (.inr (eK z))
def Ny{J:Jd TE}(i:Nat)(k:∀{K E},J K E (pQ i)):CE T J:=#[Me i,λc h=>#[_,zu c h,k]]
noncomputable instance:CE T (eo (aa i)):=Ny i QM
noncomputable instance:CE T (es (am i)):=Ny i BC
def dq:Nat->D->D->Bool
 |0,_,_=>I
 |_+1,.int a,.int b=>a==b
 |_+1,.str a,.str b=>a==b
 |_+1,.none,.none=>P
 |_+1,.bool a,.bool b=>a==b
 |n+1,.tuple a,.tuple b=>a.length==b.length&&(a.zip b).all λp=>dq n p.1 p.2
 |n+1,.list a,.list b=>a.length==b.length&&(a.zip b).all λp=>dq n p.1 p.2
 |_,_,_=>I
def Qq{f:D->D->Bool}(j:∀a b,f a b=P->a=b):∀{a b:G D},(a.length==b.length&&(a.zip b).all λp=>f p.1 p.2)=P->a=b:=by
 intro a
 induction a with
 |nil=>
  intro b h;cases b with
  |nil=>rfl
  |cons y s=>ext h
 |cons x r i=>
  intro b h;cases b with
  |nil=>ext h
  |cons y s=>rw[VZ]at h;let(g,e):=h;rw[List.zip_cons_cons,Yk,VZ]at e;let g:=eq_of_beq g;rw[j x y e.1,i (b:=s) (by rw[VZ];show#[beq_iff_eq.mpr (by simpa using g),e.2])]
def Fw:∀(n:Nat) (a b:D),dq n a b=P->a=b:=by
 intro n
 induction n with
 |zero=>intro a b h;ext h
 |succ n e=>intro a b h;ext a<;>ext b<;>first|show a7 h Wv|rfl|show eg _ (eq_of_beq h)|show eg _ (Qq e h)
def cD:Const->z D
 |.int i=>M (.int i)
 |.str x=>M (.str x)
 |.bool b=>M (.bool b)
 |.none=>M .none
 |_=>R
noncomputable instance{d:D}:CE T (eo (pC d)) where
 chk Γ e:=(((vC e).bind cD).any λa=>dq 9 a d)||((vN e).any λx=>Rq Γ x.1&&((Γ.M.cs.lookup x.1).any λa=>dq 9 a d))
 ok c h:=by
  rcases(Xp _ _).mp h with h|h
  .let(a,q,h):=bf h
   obtain rfl:=Fw _ _ _ h;let(k,f,b):=W2.mp q;let(_,_,rfl):=Nm f;ext k<;>ext b
   .show#[_,y0,Pr]
   .show#[_,RU,SG]
   .show#[_,Fs,QU]
   .show#[_,OO,Q3]
  .let(x,q,h):=bf h;rw[VZ]at h;let(a,b,g):=bf h.2;obtain rfl:=Fw _ _ _ g;let(j,i,_):=oa c h.1;let(v,u,e1,e2,e3):=c.md.cs _ _ b;rw[qW q];show#[_,JQ j e1 e2 i,CD e3]
class BOp (f:D->D->z RV) where
 sp:Ww->z (Ww×Ww)
 ok:∀{X:Cx} {e p ta tb},sp e=M p->X.A.units+65<cLine->iZ p.2=P->PE X p.1 ta->PE X p.2 tb->∃r,PE X e (IC r ta tb)/\jJ X.K r f
def JG{f:D->D->b3 RV}(op:aet)(g:∀{X:Cx},∃r,OpR X (XJ op) r/\jJ X.K r f):BOp f where
 sp e:=(Su e).bind λx=>if x.2.1=op then M (x.1,x.2.2)else R
 ok h hu _ ha hb:=by
  let(x,q,a):=W2.mp h;let(_,rfl):=JD q;split at a
  .rename_i z;ext a;let(r,b,i):=g;rw[<-z]at b;show#[r,Tl b ha hb,i]
  .ext a
def UM{f:D->D->z RV}(k:∀{K},jJ K (Sf K) f):BOp f where
 sp e:=(yK e).map λx=>(x.1,x.2.1)
 ok h _ hp ha hb:=by let(x,q,a):=ZK.mp h;ext a;rw[kL q];show#[_,Nk DE ha hb (uE hp),k]
class COp (f:D->D->z RV) where
 op:abW
 ok:∀{X:Cx},X.A.units+65<cLine->∃r,OpR X (Xs op) r/\jJ X.K r f
def SQ(op:abW)(e:Ww):z (Ww×Ww):=(P8 e).bind λx=>match x.2.2 with
 |[b]=>if x.2.1=[op]&& !behindInMarks op b then M (x.1,b)else R
 |_=>R
def wc{op:abW}{e:Ww}{p:Ww×Ww}(h:SQ op e=M p):∃pos,e=.Compare p.1 [op] [p.2] pos/\behindInMarks op p.2=I:=by
 let((a,o,b),q,f):=W2.mp h;let(_,rfl):=Aq q;dsimp only at f;split at f
 .split at f
  .rename_i z;ext f;rw[VZ,decide_eq_true_eq,Yn]at z;show#[_,by rw[z.1],z.2]
  .ext f
 .ext f
noncomputable instance[o:COp f]:BOp f where
 sp:=SQ o.op
 ok h hu _ ha hb:=by let(p,rfl,q):=wc h;let(r,b,a):=o.ok hu;show#[r,JJ b ha hb q,a]
noncomputable instance:BOp aX:=UM EW
noncomputable instance:BOp L3.gf:=UM IU
noncomputable instance:COp cP:=#[.Eq,λh=>#[_,Ou (),OQ]]
noncomputable instance:COp sI:=#[.NotEq,λh=>#[_,Ox (),Oe]]
noncomputable instance:COp N3:=#[.LtE,λ_=>#[_,Tj,QR]]
noncomputable instance:COp J1:=#[.Lt,λ_=>#[_,To,PL]]
noncomputable instance:COp DB:=#[.Gt,λ_=>#[_,Tc,Qt]]
noncomputable instance:COp N8:=#[.GtE,λ_=>#[_,SU,Rb]]
noncomputable instance:COp IK:=#[.In,λh=>#[_,PB h,Po]]
noncomputable instance:COp sL:=#[.NotIn,λh=>#[_,Ml h,Ll]]
noncomputable instance:COp qI:=#[.Is,λ_=>#[_,OA,IW]]
noncomputable instance:COp pI:=#[.IsNot,λ_=>#[_,Mf,K8]]
noncomputable instance:BOp c7:=JG .Add #[_,Ka,JT]
noncomputable instance:BOp rM:=JG .Sub #[_,Qf,Jf]
noncomputable instance:BOp pG:=JG .Mod #[_,Rj,Lf]
noncomputable instance:BOp zH:=JG .FloorDiv #[_,E4,J6]
noncomputable instance:BOp gL:=JG .Mult #[_,Ki,G5]
noncomputable instance:BOp yd:=JG .BitAnd #[_,QH,LK]
noncomputable instance:BOp Jt:=JG .LShift #[_,QS,KM]
noncomputable instance:BOp D4:=JG .RShift #[_,QX,Kg]
section
variable{A B C J:Jd TE}{U Z:Jd TA}{Q R S:Jd TT}
def TB(A B:Jd TE){f:D->D->z RV}[o:BOp f][x:CE T A][y:CE T B](k:∀{K E r m d},jJ K r f->A K E m->B K E d->J K E (IC r m d)):CE T J where
 chk Γ e:=(o.sp e).any λp=>iZ p.2&&x.chk Γ p.1&&y.chk Γ p.2
 ok c h:=by let(p,q,h):=bf h;simp only[VZ]at h;let(m,l,j):=x.ok c h.1.2;let(d,i,g):=y.ok c h.2;let(r,b,a):=o.ok q (ug c.rm) h.1.1 l i;show#[_,b,k a j g]
noncomputable instance[BOp f][CE T (eo a)][CE T (eo b)]:CE T (eo (aF f a b)):=TB (eo a) (eo b) Nv
noncomputable instance[BOp f][CE T (es a)][CE T (es b)]:CE T (es (jK f a b)):=TB (es a) (es b) HE
noncomputable instance[CE T (es a)][CE T (es b)]:CE T (es (L10.gf a b)) where
 chk Γ e:=(yK e).any λp=>iZ p.2.1&&CK.chk T PE (es a) Γ p.1&&CK.chk T PE (es b) Γ p.2.1
 ok c h:=by let(p,q,h):=bf h;simp only[VZ]at h;let(m,j,i):=CK.ok c h.1.2;let(l,g,f):=CK.ok c h.2;rw[kL q];show#[_,Nk DE j g (uE h.1.1),Qu i f]
def NJ(k:∀{K E},Z K E g6):CA T Z:=#[λ_ l=>l.isEmpty,λ_ h=>by rw[W4.mp h];show#[_,gX,k]]
def HB(A:Jd TE)(U:Jd TA)[x:CE T A][y:CA T U](k:∀{K E i d},A K E i->U K E d->Z K E (d6 i d)):CA T Z where
 chk Γ l:=match l with
  |e::r=>iZ e&&x.chk Γ e&&y.chk Γ r
  |[]=>I
 ok c h:=by
  split at h
  .simp only[VZ]at h;let(i,g,f):=x.ok c h.1.2;let(d,b,a):=y.ok c h.2;show#[_,dI g b (jv h.1.1),k f a]
  .ext h
noncomputable instance:CA T (ao ar):=NJ Rg
noncomputable instance:CA T (as av):=NJ pS
noncomputable instance[CE T (eo a)][CA T (ao b)]:CA T (ao (ae a b)):=HB (eo a) (ao b) Jw
noncomputable instance[CE T (es a)][CA T (as b)]:CA T (as (ai a b)):=HB (es a) (as b) nA
def M9(U:Jd TA)[x:CA T U](k:∀{K E t},U K E t->J K E (Lh t)):CE T J where
 chk Γ e:=(GA e).any (x.chk Γ)
 ok c h:=by let(l,q,h):=bf h;let(_,_,rfl):=uJ q;let(t,b,a):=x.ok c h;show#[_,N6 b,k a]
def SB(U:Jd TA)[x:CA T U](k:∀{K E t},U K E t->J K E (Q1 t)):CE T J where
 chk Γ e:=(Sj e).any (x.chk Γ)
 ok c h:=by let(l,q,h):=bf h;let(_,rfl):=Jk q;let(t,b,a):=x.ok c h;show#[_,On b,k a]
noncomputable instance[CA T (ao a)]:CE T (eo (b7 a)):=M9 (ao a) Op
noncomputable instance[CA T (as a)]:CE T (es (ky a)):=M9 (as a) Ky
noncomputable instance[CA T (ao a)]:CE T (eo (cx a)):=SB (ao a) QJ
noncomputable instance[CE T (eo a)]:CE T (es (af a)):=yj (A:=eo a) rC
noncomputable instance[CE T (es a)]:CE T (es (ke a)):=yj (A:=es a) uM
class Fn (T:G Fd) {φ:Type} (k:Nat->Str->G Str->Nat->φ->Fd) (F:φ) (n:Nat) where
 i:Nat
 lv:Nat
 x:Str
 ps:G Str
 h:T[i]?=M (k lv x ps n F)
def Rz(b:Gm)(i lv:Nat)(x:Str)(e:Ww):b3 (Ww×G Ww×Pos×Pos):=(Bh e).bind λy=>match y.2.1 with
 |a::r=>(vN y.1).bind λz=>if z.1==x&&Rq b x&&decide (i<b.top)&&decide (lv<=b.lv)&&(a::r).all iZ&&y.2.2.1.isEmpty then M (a,r,z.2,y.2.2.2)else VY
 |[]=>VY
def rH{c:Gm}{i lv:Nat}{x:Str}{e:Ww}{y:Ww×G Ww×Pos×Pos}(h:Rz c i lv x e=M y):e=.Call (.Name x y.2.2.1) (y.1::y.2.1) [] y.2.2.2/\Rq c x=P/\i<c.top/\lv<=c.lv/\(y.1::y.2.1).all iZ=P:=by
 let((f,l,o,p),q,a):=W2.mp h;rw[rZ q];dsimp only at a;split at a
 .let(z,b,g):=W2.mp a
  obtain rfl:=qW b;split at g
  .rename_i z;ext g;simp only[VZ,decide_eq_true_eq,beq_iff_eq,W4]at z;let(((((rfl,b),n),m),j),rfl):=z;show#[W,b,n,m,j]
  .ext g
 .ext a
def tP(U:Jd TA){d:Type}(D:Nat->Str->G Str->Nat->d->Fd)(F:d)(n:Nat)[o:Fn T D F n][u:CA T U](s:Bool)(k:∀{X:Cx} {E lv x L t e r p q},D lv x L n F X.prog X.w X.K X.mg X.base->(s=P->dG (L4.j7 X.prog X.w) X E)->X0 lv X.A->Gl X x->(x==("__debug__":Str))=I->(e::r).all iZ=P->PA X (e::r) t->U X.K E t->∃i,PE X (.Call (.Name x p) (e::r) [] q) i/\J X.K E i):CE T J where
 chk Γ e:=(!s||Γ.rz)&&(Rz Γ o.i o.lv o.x e).any λy=>u.chk Γ (y.1::y.2.1)
 ok c h:=by rw[VZ]at h;let(y,q,j):=bf h.2;let(rfl,g,N,b,a):=rH q;let(v,m,_):=oa c g;let(t,l,f):=u.ok c j;show k (c.fs _ _ N o.h) (λz=>Ed c (by let:=h.1;rw[z]at this;show this)) (c.rm.mono b) v m a l f
noncomputable instance[Fn T fdP F n][CA T (ao a)]:CE T (eo (d8 F n a)):=tP (ao a) fdP F n I λf _ r g d p e b=>#[_,uB f r e (Wa _) g d (db p) (iC p),Oi b]
noncomputable instance[Fn T fdP F n][CA T (as a)]:CE T (es (iY F n a)):=tP (as a) fdP F n I λf _ r g d p e b=>#[_,uB f r e (Wa _) g d (db p) (iC p),KH b]
noncomputable instance[Fn T fdS F n][CA T (as a)]:CE T (es (j6 F n a)):=tP (as a) fdS F n I λf _ r g d p e b=>#[_,uB f r e (Wa _) g d (db p) (iC p),B5 b]
noncomputable instance[Fn T fdS F n][CA T (as a)]:CE T (es (tF F n a)):=tP (as a) fdS F n I λf _ r g d p e b=>#[_,uB f r e (Wa _) g d (db p) (iC p),B3 b]
class CB (f:G D->z RV) where
 x:Str
 v:Ld
 b:Xa x=M v
 y:(∃id,v=.builtin id)\/∃ty,v=.type ty
 ok:∀{X:Cx},X.calm=P->∃r,Yg X v r/\BZ X.K r f
def HD(a:Gm)(x:Str)(e:Ww):z (Ww×G Ww×Pos×Pos):=if blt a x then Rz {a with top:=1} 0 0 x e else VY
def mf{c:Gm}{x:Str}{e:Ww}{y:Ww×G Ww×Pos×Pos}(h:HD c x e=M y):e=.Call (.Name x y.2.2.1) (y.1::y.2.1) [] y.2.2.2/\blt c x=P/\(y.1::y.2.1).all iZ=P:=by
 unfold HD at h;split at h
 .rename_i z;let(b,_,_,_,a):=rH h;show#[b,z,a]
 .ext h
def uR{d:Gm}{X:Cx}{E:XK}{x:Str}{v:Ld}{r:G V->Hp->VK->Prop}{e:Ww}{l:G Ww}{p q:Pos}{t:TA}(c:Ct T d X E)(m:blt d x=P)(b:Xa x=M v)(y:(∃id,v=.builtin id)\/∃ty,v=.type ty)(k:Yg X v r)(a:(e::l).all iZ=P)(h:PA X (e::l) t):PE X (.Call (.Name x p) (e::l) [] q) (Ax r t):=by
 let(j,g,i,f):=oG c m;rcases y with⟨id,rfl⟩|⟨id,rfl⟩
 .show wB k j g b h f i (db a) (iC a)
 .show CN k j g b h f i (db a) (iC a)
def S5(U:Jd TA)(f:G D->z RV)[o:CB f][u:CA T U](k:∀{K E r t},BZ K r f->U K E t->J K E (Ax r t)):CE T J where
 chk Γ e:=(HD Γ o.x e).any λy=>u.chk Γ (y.1::y.2.1)
 ok c h:=by let(y,q,j):=bf h;let(rfl,g,a):=mf q;let(t,l,i):=u.ok c j;let(r,k1,k2):=o.ok c.cm;show#[_,uR c g o.b o.y k1 a l,k k2 i]
noncomputable instance[CB f][CA T (ao a)]:CE T (eo (dU f a)):=S5 (ao a) f NW
noncomputable instance[CB f][CA T (as a)]:CE T (es (i4 f a)):=S5 (as a) f Gc
noncomputable instance:CB br:=#["len",_,Hf,.inl #[_,W],λ_=>#[_,xP,D5]]
noncomputable instance:CB eE:=#["tuple",_,MA,.inr #[_,W],λ_=>#[_,sN,GY]]
noncomputable instance:CB pM:=#["all",_,Sk,.inl #[_,W],λh=>#[_,HX h,PD]]
noncomputable instance:CB sW:=#["list",_,Hq,.inr #[_,W],λ_=>#[_,we,Ly]]
noncomputable instance:CB L9.fP:=#["sorted",_,wL,.inl #[_,W],λ_=>#[_,L9.uL,L9.zQ]]
noncomputable instance:CB sj:=#["max",_,GK,.inl #[_,W],λh=>#[_,C5 h,KB]]
def UO(a:Gm)(x y:Str)(i:Int)(e:Ww):b3 Ww:=(Bh e).bind λc=>match c.2.1,c.2.2.1 with
 |[l],[#[M w,v,_]]=>if(vN c.1).any (λz=>z.1==x)&&blt a x&&w==y&&((vC v).bind cD).any (λz=>dq 2 z (.int i))&&iZ l then M l else VY
 |_,_=>VY
def P4{k:Gm}{x y:Str}{i:Int}{e l:Ww}(h:UO k x y i e=M l):(∃p s L D j,e=.Call (.Name x p) [l] [#[M y,.Constant (.int i) j s,L]] D)/\blt k x=P/\iZ l=P:=by
 let((f,a,G,p),q,b):=W2.mp h;rw[rZ q];dsimp only at b;split at b
 .split at b
  .rename_i z;ext b;simp only[VZ,beq_iff_eq]at z;let((((r,o),rfl),m),g):=z;let(n,F,E):=bf r;let(d,w,v):=bf m;let(c,u,t):=W2.mp w;obtain rfl:=Fw _ _ _ v;let(j,s,rfl):=Nm u;ext c<;>ext t;rw[qW F,beq_iff_eq.mp E];show#[#[_,_,_,_,_,W],o,g]
  .ext b
 .ext b
noncomputable instance[u:CA T (ao a)]:CE T (eo (dU (L10.BO i) a)) where
 chk Γ e:=(UO Γ "max" "default" i e).any λl=>u.chk Γ [l]
 ok c h:=by let(l,q,m):=bf h;let((_,_,_,_,_,rfl),g,b):=P4 q;let(o,n,_):=oG c g;let(t,j,f):=u.ok c m;show#[_,L10.Js c.cm o n j (Mj b),NW L10.Lj f]
noncomputable instance[x:CE T (eo a)]:CE T (eo (CP pP a)) where
 chk Γ e:=(Ut e).any λy=>(match y.1 with|.USub=>P|_=>I)&&x.chk Γ y.2
 ok c h:=by let((o,e),q,b):=bf h;let(_,rfl):=FV q;rw[VZ]at b;let(t,g,f):=x.ok c b.2;ext o<;>first|show#[_,Sh PU g,ST K7 f]|cases b.1
class SOp (f:D->z Int->z Int->z RV) where
 ok:∀{X:Cx},∃r,U4 X r/\Vs X.K r f
def SY(op:aft)(A B:Jd TE)[x:CE T A][y:CE T B]{f:TE->TE->TE}(p:∀{X:Cx} {a b pos s d},PE X a s->PE X (.BoolOp op [b] pos) d->PE X (.BoolOp op [a,b] pos) (f s d))(k:∀{K E s d},A K E s->B K E d->J K E (f s d)):CE T J where
 chk Γ e:=(TL e).any λz=>decide (z.1=op)&&match z.2.1 with
  |[l,r]=>x.chk Γ l&&y.chk Γ r
  |_=>I
 ok c h:=by
  let((o,l,p),q,i):=bf h;rw[yI q];simp only[VZ,decide_eq_true_eq]at i;let(rfl,g):=i;split at g
  .rw[VZ]at g;let(s,t,n):=x.ok c g.1;let(d,m,j):=y.ok c g.2;show#[_,p t (Ii m),k n j]
  .ext g
noncomputable instance[CE T (eo a)][CE T (eo b)]:CE T (eo (nt a b)):=SY .And (eo a) (eo b) zV Fr
noncomputable instance[CE T (es a)][CE T (es b)]:CE T (es (wQ a b)):=SY .And (es a) (es b) zV Kt
def T6(Q:Jd TT)(A B:Jd TE)[n:CT T Q][x:CE T A][y:CE T B](k:∀{K E t o d},Q K E t->A K E o->B K E d->J K E (TZ t o d)):CE T J where
 chk Γ e:=(UR e).any λw=>n.chk Γ w.1&&x.chk Γ w.2.1&&y.chk Γ w.2.2
 ok c h:=by let(w,q,a):=bf h;let(_,rfl):=QE q;simp only[VZ]at a;let(m,f,b):=n.ok c a.1.1;let(o,l,j):=x.ok c a.1.2;let(d,i,g):=y.ok c a.2;show#[_,G3 f l i,k b j g]
noncomputable instance[CT T (mE q)][CE T (es a)][CE T (es b)]:CE T (es (M8 q a b)):=T6 (mE q) (es a) (es b) Ow
def US(o p:abW)(e:Ww):z (Ww×Ww×Ww):=(P8 e).bind λx=>match x.2.2 with
 |[b,c]=>if x.2.1=[o,p]&& !lastMarks [o,p] [b,c]then M (x.1,b,c)else VY
 |_=>VY
def Qk{o p:abW}{e:Ww}{y:Ww×Ww×Ww}(h:US o p e=M y):∃pos,e=.Compare y.1 [o,p] [y.2.1,y.2.2] pos/\lastMarks [o,p] [y.2.1,y.2.2]=I:=by
 let((a,u,b),q,f):=W2.mp h;let(_,rfl):=Aq q;dsimp only at f;split at f
 .split at f
  .rename_i z;ext f;rw[VZ,decide_eq_true_eq,Yn]at z;show#[_,by rw[z.1],z.2]
  .ext f
 .ext f
section
variable{f g:D->D->b3 RV}{a b d:FE}[o:COp f][p:COp g][x:CE T (eo a)][y:CE T (eo b)][v:CE T (eo d)]
def RI(x:CE T (eo a))(y:CE T (eo b))(v:CE T (eo d))(o:COp f)(p:COp g)(c:Gm)(e:Ww):Bool:=(US o.op p.op e).any λw=>x.chk c w.1&&y.chk c w.2.1&&v.chk c w.2.2
def JO{k X E e}(c:Ct T k X E)(h:RI x y v o p k e=P):∃t,PE X e t/\PT X e (t7 t)/\EO X.K E t (lX f g a b d):=by let(w,q,i):=bf h;let(u,rfl,j):=Qk q;simp only[VZ]at i;let(N,n,G):=x.ok c i.1.1;let(L,m,F):=y.ok c i.1.2;let(H,l,z):=v.ok c i.2;let(r,k1,k2):=o.ok (ug c.rm);let(s,k3,k4):=p.ok (ug c.rm);show#[_,Hn k1 k3 n m l j,Gu k1 k3 n m l j,GZ k2 k4 G F z]
end
def UH(A:Jd TE)[x:CE T A](k:∀{K E t},A K E t->Q K E (tB t)):CT T Q where
 chk Γ e:=UN e&&x.chk Γ e
 ok c h:=by rw[VZ]at h;let(t,b,a):=x.ok c h.2;show#[_,OV b (Lu h.1),k a]
def Nf(A B:Jd TE){f:D->D->z RV}[o:COp f][x:CE T A][y:CE T B](k:∀{K E r s d},jJ K r f->A K E s->B K E d->Q K E (t7 (IC r s d))):CT T Q where
 chk Γ e:=(SQ o.op e).any λp=>x.chk Γ p.1&&y.chk Γ p.2
 ok c h:=by let(p,q,a):=bf h;rw[VZ]at a;let(s,n,m):=x.ok c a.1;let(d,l,j):=y.ok c a.2;let(_,rfl,b):=wc q;let(r,i,g):=o.ok (ug c.rm);show#[_,Lo i n l b,k g m j]
noncomputable instance[CE T (eo a)]:CT T (my (az a)):=UH (eo a) RH
noncomputable instance[CE T (es a)]:CT T (mE (aZ a)):=UH (es a) Fo
noncomputable instance[COp f][CE T (eo a)][CE T (eo b)]:CT T (my (az (aF f a b))):=Nf (eo a) (eo b) λh g e=>mO (Nv h g e)
noncomputable instance[COp f][CE T (es a)][CE T (es b)]:CT T (mE (aZ (jK f a b))):=Nf (es a) (es b) λh g e=>rb (HE h g e)
noncomputable instance[o:COp f][p:COp g][x:CE T (eo a)][y:CE T (eo b)][v:CE T (eo d)]:CT T (my (az (lX f g a b d))):=#[RI x y v o p,λc h=>let#[_,_,h1,e]:=JO c h;#[_,h1,mO e]]
def NU(R:Jd TT)[g:CT T R](k:∀{K E t},R K E t->Q K E (IT t)):CT T Q where
 chk Γ e:=(Ut e).any λy=>(match y.1 with|.Not=>P|_=>I)&&g.chk Γ y.2
 ok c h:=by let((o,e),q,a):=bf h;let(_,rfl):=FV q;rw[VZ]at a;let(t,f,b):=g.ok c a.2;ext o<;>first|show#[_,Qr f,k b]|cases a.1
theorem SI{X:Cx}{op:aft}{b:G Ww}{a:Pos}{t:TT}(h:PT X (.BoolOp op b a) t):PW X (.BoolOp op b a) t:=λ_=>h
def Lr(op:aft)(R S:Jd TT)[L:CT T R][v:CT T S]{f:TT->TT->TT}(H:∀{X:Cx} {a pos t},PT X a t->PW X (.BoolOp op [a] pos) t)(p:∀{X:Cx} {a b r pos x d},PT X a x->PW X (.BoolOp op (b::r) pos) d->PW X (.BoolOp op (a::b::r) pos) (f x d))(k:∀{K E x d},R K E x->S K E d->Q K E (f x d)):CT T Q where
 chk Γ e:=(TL e).any λy=>decide (y.1=op)&&match y.2.1 with
  |[l,m]=>L.chk Γ l&&v.chk Γ m
  |l::m::n::s=>L.chk Γ l&&v.chk Γ (.BoolOp op (m::n::s) y.2.2)
  |_=>I
 ok c h:=by
  let((o,l,w),q,G):=bf h;rw[yI q];simp only[VZ,decide_eq_true_eq]at G;let(rfl,g):=G;split at g
  .rw[VZ]at g;let(x,F,u):=L.ok c g.1;let(d,j,i):=v.ok c g.2;show#[_,(p F (H j)).pt,k u i]
  .rw[VZ]at g;let(x,F,u):=L.ok c g.1;let(d,j,i):=v.ok c g.2;show#[_,(p F (SI j)).pt,k u i]
  .ext g
noncomputable instance[CT T (my q)]:CT T (my (lw q)):=NU (my q) Jn
noncomputable instance[CT T (mE q)]:CT T (mE (L10.v9 q)):=NU (mE q) Mr
noncomputable instance[CT T (my q)][CT T (my r)]:CT T (my (x4 q r)):=Lr .And (my q) (my r) Bu Hj Mm
noncomputable instance[CT T (my q)][CT T (my r)]:CT T (my (xq q r)):=Lr .Or (my q) (my r) F9 NP Ql
noncomputable instance[CT T (mE q)][CT T (mE r)]:CT T (mE (mn q r)):=Lr .And (mE q) (mE r) Bu Hj Kh
noncomputable instance[CT T (mE q)][CT T (mE r)]:CT T (mE (zS q r)):=Lr .Or (mE q) (mE r) F9 NP QB
noncomputable instance[CT T (my q)]:CT T (mE (bJ q)):=yj (A:=my q) Hg
end
end CC
set_option warn.classDefReducibility false
namespace CC
open PySem L2 L3 L10
variable{T:bg Fd}{A B C J:Jd TE}{U Z:Jd TA}
def Q0(x:Str)(e:Ww):b3 (Ww×G Ww×Pos×Pos):=(Bh e).bind λy=>(TU y.1).bind λz=>if z.2.1==x&&SK z.1&&z.2.2.endLine==y.2.2.2.line&&y.2.1.all iZ&&decide (y.2.1.length<20)&&y.2.2.1.isEmpty then M (z.1,y.2.1,z.2.2,y.2.2.2)else R
def oE{x:Str}{e:Ww}{y:Ww×G Ww×Pos×Pos}(h:Q0 x e=M y):e=.Call (.Attribute y.1 x y.2.2.1) y.2.1 [] y.2.2.2/\SK y.1=P/\(y.2.2.1.endLine==y.2.2.2.line)=P/\y.2.1.all iZ=P/\y.2.1.length<20:=by
 let((f,l,v,p),q,w):=W2.mp h;let((o,n,r),u,a):=W2.mp w;rw[rZ q,show f=_ from yU u];split at a
 .rename_i z;ext a;simp only[VZ,decide_eq_true_eq,W4]at z;let(((((t,m),j),i),g),b):=z;show#[?_,m,j,i,g];rw[show n=x from beq_iff_eq.mp t,show v=[]from b]
 .ext a
class MS (f:Str->G D->z RV) where
 x:Str
 ok:∀{X:Cx},∃id r,Slot "str" x id/\typeOf (.builtin id)=pure (.type "method_descriptor")/\QL X id r/\VR X.K r f
def Tq(m:Str){id:String}{r:V->bg V->Hp->VK->Prop}(s:Slot "list" m id)(ty:typeOf (.builtin id)=pure (.type "method_descriptor"))(mt:∀{X:Cx},QL X id r)(i:Gm->Ww->Bool)(G:Jd TE)(A:Jd TE)[x:CE T A](j:∀{d X E e},Ct T d X E->i d e=P->∃t,PE X e t/\G X.K E t)(k:∀{K E to t},G K E to->A K E t->J K E (Ol K "list" r to (d6 t g6))):CE T J where
 chk d e:=(Q0 m e).any λy=>i d y.1&&match y.2.1 with
  |[e]=>x.chk d e
  |_=>V4
 ok c h:=by
  let((b,l,p,q),z,g):=bf h;let(rfl,H,F,a,I):=oE z;rw[VZ]at g;let(w,f):=g;let(to,v,u):=j c w
  match l,a,f with
  |[e],a,f=>let a:[e].all iZ=P:=a;let(t,o,n):=x.ok c f;show#[Ol _ "list" r to (d6 t g6),?_,k u n];show Nc abx s ty mt v (dI o gX (db a)) (fQ H) (mH a (by show 1<20;decide)) F (db a) W
def vJ(i:Nat):Jd TE:=λ_ _ t=>t=pQ i
noncomputable instance[CE T (eo a)]:CE T (eo (yH i a)):=Tq "append" abo abp nX (Me i) (vJ i) (eo a) (λc h=>#[_,zu c h,W]) λh k=>by ext h;show P9 k
noncomputable instance[x:CE T (es o)][CE T (es a)]:CE T (es (jB o a)):=Tq "append" abo abp nX x.chk (es o) (es a) x.ok K0
def Oj(a:Gm)(C f:Str):Bool:=(a.M.cl.lookup C).any λL=>L.contains f
def Be{b:Gm}{X:Cx}{E:XK}{C f:Str}(c:Ct T b X E)(h:Oj b C f=P):∃L,lx X.K C L/\f∈L:=by let(L,q,a):=bf h;show#[L,c.md.cl _ _ q,Z7.mp a]
noncomputable instance{C f:Str}[x:CE T (es a)]:CE T (es (aJ C f a)) where
 chk Γ e:=(TU e).any λy=>y.2.1==f&&Oj Γ C f&&SK y.1&&x.chk Γ y.1
 ok c h:=by let((o,n,p),q,b):=bf h;rw[yU q];simp only[VZ,beq_iff_eq]at b;let(((rfl,u),r),m):=b;let(L,i,g):=Be c u;let(t,l,j):=x.ok c m;show#[_,Og l (fQ r),LU i g j]
class FM (T:G Fd) (rz:Bool) (C m:Str) (F:fD) (n:Nat) where
 i:Nat
 lv:Nat
 ps:G Str
 h:T[i]?=M (fdM rz lv C m ps n F)
section
variable{C m:Str}{F:fD}{n:Nat}
def EJ(T:G Fd)(b hd:Bool)(C m:Str)(F:fD)(n:Nat)[o:FM T b C m F n](x:Gm->Ww->Bool)(u:Gm->G Ww->Bool)(a:Gm)(e:Ww):Bool:=(!hd||a.rz&&b)&&decide (o.i<a.top)&&decide (o.lv<=a.lv)&&(a.M.cl.lookup C).isSome&&(Q0 m e).any λy=>x a y.1&&u a y.2.1
def vZ{d hd:Bool}[o:FM T d C m F n]{x:Gm->Ww->Bool}{u:Gm->bg Ww->Bool}{k:Gm}{X:Cx}{E:XK}{e:Ww}(c:Ct T k X E)(h:EJ T d hd C m F n x u k e=P):∃(b:Ww) (l:bg Ww) (p q:Pos) (L:bg Str) (pl:Sem Bool),e=.Call (.Attribute b m p) l [] q/\x k b=P/\u k l=P/\lx X.K C L/\oA X.prog X.w X.K X.mg X.base (if d then L4.j7 X.prog X.w else lu) o.lv C m o.ps (kh X.K n F)/\X0 o.lv X.A/\dG (if d then L4.j7 X.prog X.w else lu) X (if hd then E else E0)/\l.all iZ=P/\eval (.Call (.Attribute b m p) l [] q) X.env=(do
   let ov<-eval b X.env
   standAt p.atName
   let(f,first)<-holding [ov] (getMethod ov m pl)
   callWith q f first (backTo q (Wn l X.env)) (backToKw q (keywordEach [] X.env))):=by
 unfold EJ at h;simp only[VZ,decide_eq_true_eq]at h;let((((a,y),v),t),r):=h;let((b,l,p,q),z,g):=bf r;let(rfl,I,H,i,G):=oE z;rw[VZ]at g;let(L,j):=XA.mp t;let(pl,ev):=Sa (m:=m) (env:=X.env) I i G H;show#[b,l,p,q,L,pl,W,g.1,g.2,c.md.cl _ _ j,c.fs _ _ y o.h,c.rm.mono v,?_,i,ev];cases hd with
 |true=>let a:=(VZ _ _).mp a;rw[a.2];show Ed c a.1
 |false=>cases d with
  |true=>show Eu
  |false=>show Er
def Tg(d hd:Bool)(A:Jd TE)(U:Jd TA)[o:FM T d C m F n][x:CE T A][u:CA T U](k:∀{K E L to t},lx K C L->A K E to->U K E t->J K E (on K C m (kh K n F) (if hd then E else E0) to t)):CE T J where
 chk:=EJ T d hd C m F n x.chk λy l=> !l.isEmpty&&u.chk y l
 ok c h:=by
  let(b,l,p,q,L,pl,rfl,w,a,v,r,j,i,f,g):=vZ c h;rw[VZ]at a;let(to,k1,k2):=x.ok c w;let(t,k3,k4):=u.ok c a.2;cases l with
  |nil=>cases a.1
  |cons e l=>show#[_,M3 r i j k1 k3 (Wa _) (db f) (iC f) g,k v k2 k4]
def Tn(d hd:Bool)(A:Jd TE)[o:FM T d C m F n][x:CE T A](k:∀{K E L to},lx K C L->A K E to->J K E (on K C m (kh K n F) (if hd then E else E0) to g6)):CE T J where
 chk:=EJ T d hd C m F n x.chk λ_ l=>l.isEmpty
 ok c h:=by let(b,l,p,q,L,pl,rfl,r,a,j,i,g,f,t,e):=vZ c h;let(to,k1,k2):=x.ok c r;rw[W4]at a;subst a;show#[_,Oz i f g k1 (Wa _) e,k j k2]
noncomputable instance[FM T I C m F n][CE T (es o)][CE T (es a)][CA T (as b)]:CE T (es (aL C m F n o (ai a b))):=Tg (C:=C) (m:=m) (F:=F) (n:=n) I I (es o) (as (ai a b)) Bq
noncomputable instance[FM T I C m F n][CE T (es o)]:CE T (es (aL C m F n o av)):=Tn (C:=C) (m:=m) (F:=F) (n:=n) I I (es o) λh k=>Bq h k pS
noncomputable instance[FM T P C m F n][CE T (es o)][CE T (es a)][CA T (as b)]:CE T (es (jH C m F n o (ai a b))):=Tg (C:=C) (m:=m) (F:=F) (n:=n) P P (es o) (as (ai a b)) HN
class FK (T:G Fd) (C:Str) (F:fD) (n:Nat) where
 i:Nat
 lv:Nat
 ps:G Str
 h:T[i]?=M (fdK lv C ps n F)
noncomputable instance[o:FK T C F n][x:CE T (es a)][u:CA T (as b)]:CE T (es (qU C F n (ai a b))) where
 chk Γ e:=(Γ.M.cl.lookup C).isSome&&(Rz Γ o.i (o.lv+1) C e).any λy=>CK.chk T PA (as (ai a b)) Γ (y.1::y.2.1)
 ok c h:=by rw[VZ]at h;let(L,l):=XA.mp h.1;let(y,q,r):=bf h.2;let(rfl,g,i,j,f):=rH q;let(z,w,_):=oa c g;let(t,v,p):=CK.ok c r;show#[_,MN (c.fs _ _ i o.h) Er c.rm v j z w (db f) (iC f),MJ (c.md.cl _ _ l) p]
end
end CC
set_option warn.classDefReducibility false
namespace CC
open PySem L2 L3 L10
variable{T:bg Fd}{A B C J:Jd TE}{U Z:Jd TA}{Q R:Jd TT}
theorem TV{a:Gm}{X:Cx}{E:XK}(c:Ct T a X E):X.A.units+1<cLine:=D0 c.rm
noncomputable instance[x:CE T (es d)][y:CE T (es k)]:CE T (es (qV d k)) where
 chk Γ e:=(yK e).any λp=>iZ p.2.1&&x.chk Γ p.1&&y.chk Γ p.2.1
 ok c h:=by let(p,q,a):=bf h;simp only[VZ]at a;let(l,i,g):=x.ok c a.1.2;let(j,f,b):=y.ok c a.2;rw[kL q];show#[_,LQ (TV c) i f (uE a.1.1),E3 g b]
def NM(x y:Gm->Ww->Bool)(a:Gm)(e:Ww):Bool:=(SQ .In e).any λp=>x a p.1&&y a p.2
def Ga[x:CE T (es k)][y:CE T (es d)]{l X E e}(c:Ct T l X E)(h:NM x.chk y.chk l e=P):∃t,PE X e t/\PT X e (tB t)/\cb X.K E t (sT I k d):=by let(p,q,a):=bf h;rw[VZ]at a;let(_,rfl,b):=wc q;let(n,g,j):=x.ok c a.1;let(m,f,i):=y.ok c a.2;show#[_,zp (DU (TV c) g f) b,yX (DU (TV c) g f) b,Ji j i]
noncomputable instance[x:CE T (es k)][y:CE T (es d)]:CT T (mE (aZ (sT I k d))):=#[NM x.chk y.chk,λc h=>let#[_,_,h1,a]:=Ga c h;#[_,h1,Fo a]]
noncomputable instance[x:CE T (es d)][y:CE T (es k)]:CE T (es (um d k)) where
 chk Γ e:=(Q0 "pop" e).any λz=>x.chk Γ z.1&&match z.2.1 with
  |[e]=>y.chk Γ e
  |_=>I
 ok c h:=by
  let((b,l,p,q),z,g):=bf h;let(rfl,m,j,a,u):=oE z;rw[VZ]at g;let(i,f):=g;let(L,t,r):=x.ok c i
  match l,a,f with
  |[e],a,f=>let a:[e].all iZ=P:=a;let(v,o,n):=y.ok c f;show#[_,Fu t o #[fQ m,mH a (by show 1<20;decide),j,?_],Iw r n];rw[db a];rfl
noncomputable instance[x:CE T (es d)]:CE T (es (xZ d)) where
 chk Γ e:=(HD Γ "list" e).any λy=>y.2.1.isEmpty&&(Q0 "values" y.1).any λz=>z.2.1.isEmpty&&x.chk Γ z.1
 ok c h:=by let((e,l,E,w),q,f):=bf h;let(rfl,g,i):=mf q;simp only[VZ,W4]at f;let(rfl,o):=f;let((b,l,v,u),z,a):=bf o;let(rfl,r,p,H,G):=oE z;simp only[VZ,W4]at a;let(rfl,n):=a;let(t,m,j):=x.ok c n;show#[_,uR c g Hq (.inr #[_,W]) (L10.yz c.cm) i (dI (Od Zq abn PySem.F.type_dict_values L10.C1 m (fQ r) p) gX (jv W)),GC j]
def P6(x:Str){v:Ld}(b:Xa x=M v)(y:(∃id,v=.builtin id)\/∃ty,v=.type ty)(A:Jd TE)[u:CE T A]{r:lD->G V->Hp->VK->Prop}(n:∀{X:Cx},X.calm=P->Yg X v (r X.K))(k:∀{K E t},A K E t->J K E (Ax (r K) (d6 t g6))):CE T J where
 chk Γ e:=(HD Γ x e).any λy=>y.2.1.isEmpty&&u.chk Γ y.1
 ok c h:=by let((e,l,p,o),q,f):=bf h;let(rfl,g,a):=mf q;simp only[VZ,W4]at f;let(rfl,m):=f;let(t,j,i):=u.ok c m;show#[_,uR c g b y (n c.cm) a (dI j gX (db a)),k i]
noncomputable instance[CE T (es d)]:CE T (es (rS d)):=P6 "sorted" wL (.inl #[_,W]) (es d) (r:=λ_=>zv) L10.zd G2
noncomputable instance[CE T (es d)]:CE T (es (tM d)):=P6 "dict" L10.Oy (.inr #[_,W]) (es d) (r:=yD) L10.zr Ej
def Ke(i:Nat)(a:Gm)(e:Ww):Bool:=(vN e).any λx=>a.N[i]? ==M x.1&&(a.sc.lookup x.1==M .local||(a.sc.lookup x.1==M .cell&&a.fc.contains x.1))
def uU{b:Gm}{X:Cx}{E:XK}{i:Nat}{e:Ww}(c:Ct T b X E)(h:Ke i b e=P):∃x p,e=.Name x p/\X.N[i]?=M x/\L2.Ro X.env.scope x/\(X.fn x=P\/X4 x X.env.scope.names=M Wo.local):=by
 let((x,p),q,a):=bf h;simp only[VZ,Xp]at a;show#[x,p,qW q,by rw[c.n];show beq_iff_eq.mp a.1,?_];ext L2.Ro;rw[c.sc];rcases a.2 with z|⟨z,w⟩
 .show#[.inl (eK z),.inr (eK z)]
 .show#[.inr (eK z),.inl (c.fc _ (Z7.mp w))]
def TC{G:Jd TG}(i:Nat)(k:∀{K E},G K E (mI i)):CG T G where
 chk:=Ke i
 ok c h:=by let(x,p,rfl,e,b,a):=uU c h;show#[_,#[L8 c.nd e b a,λ_=>W],k]
noncomputable instance:CG T (go (gN i)):=TC i vS
noncomputable instance:CG T (DC (cT i)):=TC i mL
def SR{G:Jd zx}(k:∀{K E},G K E KR):CH T G:=#[λ_ l=>l.isEmpty,λ_ h=>by rw[W4.mp h];show#[_,#[Jr,W,W],k]]
noncomputable instance:CH T (gs RD):=SR PF
noncomputable instance:CH T (Rv zb):=SR Kc
def Ss{I:Jd zx}(G:Jd TG)(H:Jd zx)[x:CG T G][y:CH T H](k:∀{K E t u},G K E t->H K E u->I K E (A7 t u)):CH T I where
 chk Γ l:=match l with
  |e::r=>x.chk Γ e&&y.chk Γ r
  |[]=>V4
 ok c h:=by
  split at h
  .rw[VZ]at h;let(o,(m,a),j):=x.ok c h.1;let(n,(i,f,b),g):=y.ok c h.2;show#[_,#[HQ m i (by rw[a];rfl),by rw[a,Wi,Wi,f],by rw[a,List.findIdx?_cons,b];rfl],k j g]
  .ext h
noncomputable instance[CG T (go g)][CH T (gs r)]:CH T (gs (Pz g r)):=Ss (go g) (gs r) IQ
noncomputable instance[CG T (DC g)][CH T (Rv r)]:CH T (Rv (pB g r)):=Ss (DC g) (Rv r) HV
def Ta{I:Jd TG}(n:Nat)(H:Jd zx)[y:CH T H](k:∀{K E t},H K E t->I K E (Ln K n t)):CG T I where
 chk Γ e:=(GA e).any λl=>decide (l.length=n)&&y.chk Γ l
 ok c h:=by let(l,q,a):=bf h;let(_,_,rfl):=uJ q;simp only[VZ,decide_eq_true_eq]at a;let(rfl,b):=a;let(t,(j,g,f),i):=y.ok c b;show#[_,#[Pa c.cm j g f,λ_=>W],k i]
noncomputable instance[CH T (gs r)]:CG T (go (gT n r)):=Ta n (gs r) Om
noncomputable instance[CH T (Rv r)]:CG T (DC (Oh n r)):=Ta n (Rv r) J4
def S6(A:Jd TE){I:Jd TI}[x:CE T A]{f:lD->TE->TI}(p:∀{X:Cx} {d e t},PE X e t->PI X d e (f X.K t))(k:∀{K E t},A K E t->I K E (f K t)):CI T I where
 chk Γ p:=iZ p.2&&x.chk Γ p.2
 ok c h:=by rw[VZ]at h;let(t,b,a):=x.ok c h.2;show#[_,#[p b,h.1],k a]
noncomputable instance[CE T (eo a)]:CI T (io (dZ a)):=S6 (eo a) FC Ph
noncomputable instance[CE T (es a)]:CI T (IH (ef a)):=S6 (es a) FC JW
noncomputable instance[CI T (io f)]:CI T (Rh f):=yj (A:=io f) λh=>L3.IO.s h
noncomputable instance[CI T (io f)]:CI T (IH (ei f)):=yj (A:=io f) Gi
noncomputable instance[u:CA T (ao a)]:CI T (io (lH gv a)) where
 chk L p:=(HD L "range" p.2).any λy=>y.2.1.isEmpty&&u.chk L [y.1]
 ok {L X E p} c h:=by let((e,l,F,w),q,b):=bf h;let(z,g,i):=mf q;simp only[VZ,W4]at b;let(rfl,n):=b;let(r,o,_):=oG c g;let(t,m,j):=u.ok c n;let(v,f):=p;let z:f=_:=z;subst z;show#[_,#[uw r o m (db i),W],LA j]
noncomputable instance[u:CA T (ao a)]:CI T (io (uC a)) where
 chk L p:=Ew p.1&&(HD L "zip" p.2).any λy=>match y.2.1 with
  |[r]=>u.chk L [y.1,r]
  |_=>I
 ok {L X E p} c h:=by
  rw[VZ]at h;let((e,l,G,F),q,f):=bf h.2;let(z,g,b):=mf q;let(w,v,_):=oG c g;let(i,j):=p;let z:j=_:=z;subst z;let o:Ew i=P:=h.1
  match l,b,f with
  |[r],b,f=>let b:[e,r].all iZ=P:=b;let(t,n,m):=u.ok c f;let(_,_,_,rfl):=Io o;show#[_,#[Qa w v n (db b) (iC b),W],O9 m]
end CC
set_option warn.classDefReducibility false
namespace CC
open PySem L2 L3 L10
variable{T:bg Fd}{A B C J:Jd TE}{U Z:Jd TA}{Q R:Jd TT}{G:Jd TG}{I:Jd TI}
noncomputable instance:CQ T (my b9):=#[λ_ l=>l.isEmpty,λ_ h=>by rw[W4.mp h];show#[_,x8,Ex]]
noncomputable instance:CQ T (mE bV):=#[λ_ l=>l.isEmpty,λ_ h=>by rw[W4.mp h];show#[_,x8,GX]]
def Vn(Q:Jd TT)[f:CT T Q]:CQ T Q where
 chk Γ l:=match l with
  |[e]=>f.chk Γ e
  |_=>V4
 ok c h:=by
  split at h
  .let(t,b,a):=f.ok c h;show#[_,He b,a]
  .ext h
noncomputable instance[CT T (my q)]:CQ T (my q):=Vn (my q)
def t0{b:Type}(P:Jd (St->Hp->b->Prop))(K:lD)(E:XK):St->Hp->b->Prop:=λa H Q=>∀t,P K E t->t a H Q
def g0(P:Jd TG)(K:lD)(E:XK):TG:=λv a H Q=>∀t,P K E t->t v a H Q
class Cl {τ:Type} (P:Jd (St->Hp->τ->Prop)):Prop where
 cl:∀{K E},P K E (t0 P K E)
class ClG (P:Jd TG):Prop where
 cl:∀{K E},P K E (g0 P K E)
noncomputable instance:Cl (eo g):=#[λB b O a H e Q R w _ h=>h B b O a H e Q R w]
noncomputable instance:Cl (es g):=#[λB a H α b e Q s l w _ h=>h B a H α b e Q s l w]
noncomputable instance:Cl (my g):=#[λB b O a H e Q R w _ h=>h B b O a H e Q R w]
noncomputable instance:Cl (mE g):=#[λB a H α b e Q s l w _ h=>h B a H α b e Q s l w]
noncomputable instance:ClG (go g):=#[λB b O a H e v pv Q R p w _ h=>h B b O a H e v pv Q R p w]
noncomputable instance:ClG (DC g):=#[λB a H α b e v x Q s l p w _ h=>h B a H α b e v x Q s l p w]
def MU(e:Ww):bg Str:=((vN e).map (·.1)).toList++((GA e).getD []).filterMap λe=>(vN e).map (·.1)
def Pe(l:bg (Str×Wo)):bg Str:=(l.filter λy=>y.2==Wo.cell&&l.all λp=> !(p.1==y.1)|| !(p.2==Wo.free)).map (·.1)
def Ue(a:Gm)(l:bg (Str×Wo)):bg (Str×Wo):=l.map λp=>if(p.2==Wo.free&&(ScopeKind.function==ScopeKind.function)&&a.sc.lookup p.1==M .cell)then(p.1,.cell)else p
def Gm.inn(b:Gm)(own:bg Str)(a:bg (Str×Nat))(sc:bg (Str×Wo)):Gm:={b with N:=own++a.map (·.1),sc:=Ue b sc,rz:=V4,fa:=V4,fc:=Pe sc}
def wX(a:Gm)(b:bg Nat):bg (Str×Nat):=b.filterMap λj=>(a.N[j]?).map λx=>(x,j)
def Ui(b:Gm)(sc:XS)(a:bg (Str×Nat)):Bool:=a.all λp=>b.N[p.2]? ==M p.1&&sc.names.lookup p.1==M .free&&(b.sc.lookup p.1==M .cell||b.sc.lookup p.1==M .free)
theorem NB{d:Gm}{X:Cx}{E:XK}{sc:XS}(c:Ct T d X E):∀{a:bg (Str×Nat)},Ui d sc a=P->abr X sc a
 |[],_=>trivial
 |p::r,h=>by unfold Ui at h;simp only[Yk,VZ,Xp]at h;let(((g,f),e),b):=h;show#[#[by rw[c.n];show beq_iff_eq.mp g,eK f,?_],NB c b];rw[c.sc];show e.imp eK eK
theorem Ag{env:Env}{y:Str}:∀{l:bg (Str×Wo)} {acc:bg (Str×V5)},(∀p∈l,p.1=y->(p.2==Wo.free)=V4)->acc.lookup y=VY->(gp env l acc).lookup y=VY
 |[],_,_,h=>h
 |(n,k)::r,acc,h,f=>by
  let a:=λacc=>Ag (env:=env) (y:=y) (l:=r) (acc:=acc) λp b=>h p (Wf _ b);ext gp;split
  .rename_i q
   let ne:n≠y:=λe=>by rw[h (n,k) Wk e]at q;ext q
   split
   .show a _ (by rw[WY,show(y==n)=V4 from beq_eq_false_iff_ne.mpr (d0 ne)];show f)
   .show a _ f
  .show a _ f
def D2{env:Env}{l:bg (Str×Wo)}{y:Str}(h:y∈Pe l):((gp env l []).lookup y).isNone=P:=by
 let(p,f,rfl):=WH.mp h;let(_,a):=X3.mp f;rw[VZ]at a;rw[Ag (λq b e=>?_) W]
 .rfl
 .let:=Xj.mp a.2 q b;rw[e,eh]at this;revert this;cases q.2==Wo.free<;>intro h<;>first|rfl|ext h
structure Lc(T:bg Fd)(Γ':Gm)(X:Cx)(E:XK)(n:Nat)(fj:bg Nat)(I:Jd TI)(G:Jd TG)(Q:Jd TT)(A:Jd TE)(sc:XS)(elt:Ww)(cp:Za) where
 own:bg Str
 fv:bg (Str×Nat)
 wi:TI
 e:cp.is_async=0
 ln:own.length=n
 fj:fv.map (·.2)=fj
 pi:PI X cp.target cp.iter wi
 i:I X.K E wi
 pg:∀s H C fp,PG (bq X s H sc C (cG own fv) fp) cp.target (g0 G X.K E0)
 g:G X.K E0 (g0 G X.K E0)
 pq:∀s H C fp,xu (bq X s H sc C (cG own fv) fp) cp.ifs (t0 Q X.K E0)
 q:Q X.K E0 (t0 Q X.K E0)
 pe:∀s H C fp,PE (bq X s H sc C (cG own fv) fp) elt (t0 A X.K E0)
 a:A X.K E0 (t0 A X.K E0)
 fvk:abr X sc fv
 fr:(sc.names.all λy=> !(y.2==Wo.free)||X.env.scope.names.lookup y.1==M .cell||X.env.scope.names.lookup y.1==M .free)=P
 kd:sc.kind=.function
 nd:(sc.names.map (·.1)).Nodup
 nm:∀y∈sc.names,y.2=.local->sc.names.lookup y.1=M .local
 fold:∀z,foldedSetIterable cp.iter X.env z=pure z
 ct:∀s H C fp W E',Ct T Γ' ((bq X s H sc C (cG own fv) fp).ZH W) E'
def HA(n:Nat)(d:bg Nat)(i:CI T I)(g:CG T G)(w:CQ T Q)(x:CE T A)(b:Gm)(elt:Ww)(c:Za)(sc:XS):Bool:=
 let own:=MU c.target
 let e:=wX b d
 let a:=b.inn own e sc.names
 decide (own.length=n)&&decide (e.map (·.2)=d)&&decide (c.is_async=0)&&Ui b sc e&&(sc.names.all λy=> !(y.2==Wo.free)||b.sc.lookup y.1==M .cell||b.sc.lookup y.1==M .free)&&decide (sc.kind=.function)&&decide ((sc.names.map (·.1)).Nodup)&&(sc.names.all λy=> !(y.2==Wo.local)||sc.names.lookup y.1==M .local)&&decide ((own++e.map (·.1)).Nodup)&&i.chk b (c.target,c.iter)&&g.chk a c.target&&w.chk a c.ifs&&x.chk a elt
def v4[Cl A][Cl Q][ClG G]{i:CI T I}{g:CG T G}{w:CQ T Q}{x:CE T A}{n:Nat}{k:bg Nat}{d:Gm}{X:Cx}{E:XK}{l:Ww}{D:Za}{sc:XS}(c:Ct T d X E)(h:HA n k i g w x d l D sc=V0):Nonempty (Lc T (d.inn (MU D.target) (wX d k) sc.names) X E n k I G Q A sc l D):=by
 unfold HA at h;simp only[VZ,decide_eq_true_eq]at h;let((((((((((((h1,h2),Y),k1),k2),k3),k4),k5),k6),S),P),O),N):=h;let(F,(M,K),L):=i.ok c S;let ct:∀s H C a W q,Ct T (d.inn (MU D.target) (wX d k) sc.names) ((bq X s H sc C (cG (MU D.target) (wX d k)) a).ZH W) q:=λs H C a W q=>
  #[rfl,k6,by show(relabel sc X.env).names=Ue d sc.names;unfold relabel Ue Env.kindOf;rw[c.kd,c.sc],k3,c.cm,c.rm,λz=>(aaZ z),λz=>(aaZ z),λy m=>D2 m,c.md,c.fs]
 let o:∀s H C a,Ct T (d.inn (MU D.target) (wX d k) sc.names) (bq X s H sc C (cG (MU D.target) (wX d k)) a) E0:=λs H C a=>ct s H C a _ E0;show#[#[MU D.target,wX d k,F,Y,h1,h2,M,L,λs H C a=>?_,ClG.cl,λs H C a=>?_,Cl.cl,λs H C a=>?_,Cl.cl,NB c k1,?_,k3,k4,λy m e=>?_,AI K,ct]]
 .let(t,(j,_),f):=g.ok (o s H C a) P;show λb s p H v u Q I r z=>j _ _ _ _ _ _ _ I r (z _ f)
 .let(t,j,f):=w.ok (o s H C a) O;show λb s p H Q I z=>j _ _ _ _ _ I (z _ f)
 .let(t,j,f):=x.ok (o s H C a) N;show λb s p H Q I z=>j _ _ _ _ _ I (z _ f)
 .rw[c.sc];show k2
 .let:=Xj.mp k5 y m;rw[e]at this;show eK this
def K3(e:Ww):z (Ww×Za×XS×Pos):=(UZ e).bind λy=>match y.2.1 with
 |[a]=>M (y.1,a,y.2.2)
 |_=>VY
def vA{e:Ww}{y:Ww×Za×XS×Pos}(h:K3 e=M y):e=.ListComp y.1 [y.2.1] y.2.2.1 y.2.2.2:=by
 let((a,l,s,p),q,b):=W2.mp h;rw[Pg q]
 match l,b with
 |[f],b=>ext b;rfl
def Sl(I:Jd TI)(G:Jd TG)(Q:Jd TT)(A:Jd TE)[Cl A][Cl Q][ClG G][i:CI T I][g:CG T G][w:CQ T Q][x:CE T A](n:Nat)(v:bg Nat)(k:∀{K E own u a g s d},own.length=n->u.map (·.2)=v->I K E a->G K E0 g->Q K E0 s->A K E0 d->J K E (oY own u a g s d)):CE T J where
 chk Γ e:=(K3 e).any λy=>HA n v i g w x Γ y.1 y.2.1 y.2.2.1
 ok c h:=by let((m,o,t,p),q,j):=bf h;rw[vA q];let⟨l⟩:=v4 c j;let(r,b,f,as):=o;obtain rfl:as=0:=l.e;show#[_,A4 l.own l.fv c.cm l.pi l.pg l.pq l.pe l.fvk l.fr l.kd l.nd l.nm l.fold,k l.ln l.fj l.i l.g l.q l.a]
noncomputable instance[CI T (Rh f)][CG T (go g)][CQ T (my q)][CE T (eo a)]:CE T (eo (cQ n l f g q a)):=Sl (Rh f) (go g) (my q) (eo a) n l rA
noncomputable instance[CI T (IH f)][CG T (DC g)][CQ T (mE q)][CE T (es a)]:CE T (es (dw n l f g q a)):=Sl (IH f) (DC g) (mE q) (es a) n l wA
end CC
set_option warn.classDefReducibility false
namespace CC
open PySem L2 L3 L10
variable{T:bg Fd}{A B C J:Jd TE}{U Z:Jd TA}{Q R:Jd TT}{G:Jd TG}{I:Jd TI}{S Y X:Jd TS}
def SX:XY->z (Ww×bg XY×bg XY)
 |.If c a b _=>M (c,a,b)
 |_=>VY
def F1:XY->z (z Ww)
 |.Return e _=>M e
 |_=>VY
def Np:XY->z Ww
 |.Expr e _=>M e
 |_=>VY
def uv:XY->z (Ww×Ww)
 |.Assign [t] e _=>M (t,e)
 |_=>VY
def Nd:XY->z (Ww×Ww×bg XY)
 |.For t i b [] _=>M (t,i,b)
 |_=>VY
def Sc:XY->z (Ww×bg XY)
 |.While c b [] _=>M (c,b)
 |_=>VY
def RQ:XY->z Ww
 |.Raise (M e) VY _=>M e
 |_=>VY
section
variable{s:XY}
theorem JR(h:SX s=M x):∃p,s=.If x.1 x.2.1 x.2.2 p:=sK (P:=λx=>∃p,s=.If x.1 x.2.1 x.2.2 p) (by ext s<;>first|show trivial|show#[_,W]) h
theorem wY(h:F1 s=M x):∃p,s=.Return x p:=sK (P:=λx=>∃p,s=.Return x p) (by ext s<;>first|show trivial|show#[_,W]) h
theorem D3(h:Np s=M x):∃p,s=.Expr x p:=sK (P:=λx=>∃p,s=.Expr x p) (by ext s<;>first|show trivial|show#[_,W]) h
theorem kg(h:uv s=M x):∃p,s=.Assign [x.1] x.2 p:=sK (P:=λx=>∃p,s=.Assign [x.1] x.2 p) (by ext s<;>first|show trivial|(rename_i l _ _;rcases l with _|⟨t,_|⟨_,_⟩⟩<;>first|show trivial|show#[_,W])) h
theorem FH(h:Nd s=M x):∃p,s=.For x.1 x.2.1 x.2.2 [] p:=sK (P:=λx=>∃p,s=.For x.1 x.2.1 x.2.2 [] p) (by ext s<;>first|show trivial|(rename_i l _;ext l<;>first|show trivial|show#[_,W])) h
theorem Jx(h:Sc s=M x):∃p,s=.While x.1 x.2 [] p:=sK (P:=λx=>∃p,s=.While x.1 x.2 [] p) (by ext s<;>first|show trivial|(rename_i l _;ext l<;>first|show trivial|show#[_,W])) h
theorem JE(h:RQ s=M x):∃p,s=.Raise (M x) VY p:=sK (P:=λx=>∃p,s=.Raise (M x) VY p) (by ext s<;>first|show trivial|(rename_i a b _;ext a<;>ext b<;>first|show trivial|show#[_,W])) h
end
def UK(S:Jd TS)[o:CU T S]:CS T S where
 chk Γ b:=match b with
  |[s]=>o.chk Γ s
  |_=>V4
 ok c h:=by
  split at h
  .let(t,e,a):=o.ok c h;show#[_,mQ e,a]
  .ext h
noncomputable instance[CU T (so f)]:CS T (so f):=UK (so f)
noncomputable instance[CU T (X7 f)]:CS T (X7 f):=UK (X7 f)
noncomputable instance:CS T (so cC):=#[λ_ b=>b.isEmpty,λ_ h=>by rw[W4.mp h];show#[_,Bw,Ku]]
noncomputable instance:CS T (X7 cJ):=#[λ_ b=>b.isEmpty,λ_ h=>by rw[W4.mp h];show#[_,Bw,E1]]
def MP(Y X:Jd TS)[o:CU T Y][n:CS T X](k:∀{K E t u},Y K E t->X K E u->S K E (F7 t u)):CS T S where
 chk Γ b:=match b with
  |s::r=>o.chk Γ s&&n.chk Γ r
  |_=>V4
 ok c h:=by
  split at h
  .rw[VZ]at h;let(t,g,f):=o.ok c h.1;let(i,e,a):=n.ok c h.2;show#[_,nF g e,k f a]
  .ext h
noncomputable instance[CU T (so f)][CS T (so g)]:CS T (so (bp f g)):=MP (so f) (so g) Q2
noncomputable instance[CU T (X7 f)][CS T (X7 g)]:CS T (X7 (aG f g)):=MP (X7 f) (X7 g) Jh
def NL(Q:Jd TT)(Y X:Jd TS)[p:CT T Q][m:CS T Y][n:CS T X](k:∀{K E c t u},Q K E c->Y K E t->X K E u->S K E (IV c t u)):CU T S where
 chk Γ s:=(SX s).any λy=>p.chk Γ y.1&&m.chk Γ y.2.1&&n.chk Γ y.2.2
 ok c h:=by let(y,q,a):=bf h;let(_,rfl):=JR q;simp only[VZ]at a;let(t,j,i):=p.ok c a.1.1;let(o,g,f):=m.ok c a.1.2;let(l,e,b):=n.ok c a.2;show#[_,RZ j g e,k i f b]
noncomputable instance[CT T (my q)][CS T (so f)][CS T (so g)]:CU T (so (jD q f g)):=NL (my q) (so f) (so g) Tm
noncomputable instance[CT T (mE q)][CS T (X7 f)][CS T (X7 g)]:CU T (X7 (bZ q f g)):=NL (mE q) (X7 f) (X7 g) Oq
def NY(A:Jd TE)[x:CE T A](k:∀{K E t},A K E t->S K E (ML t)):CU T S where
 chk Γ s:=(F1 s).any λy=>y.any (x.chk Γ)
 ok c h:=by let(y,q,i):=bf h;let(e,a,g):=bf i;let(_,rfl):=wY q;subst a;let(t,f,b):=x.ok c g;show#[_,Gb f,k b]
noncomputable instance[CE T (eo a)]:CU T (so (cR a)):=NY (eo a) QO
noncomputable instance[CE T (es a)]:CU T (X7 (L10.fK a)):=NY (es a) Kv
noncomputable instance:CU T (X7 rp) where
 chk _ s:=(F1 s).any (·.isNone)
 ok c h:=by let(y,q,a):=bf h;let(_,rfl):=wY q;rw[abm.mp a];show#[_,Jv,Ef]
def GB(A:Jd TE)[x:CE T A](k:∀{K E t},A K E t->S K E (xx t)):CU T S where
 chk Γ s:=(Np s).any λe=>(iZ e&& !Oo e)&&x.chk Γ e
 ok c h:=by let(y,q,a):=bf h;let(_,rfl):=D3 q;let a:=(VZ _ _).mp a;let(t,f,b):=x.ok c a.2;show#[_,AQ f (AY a.1),k b]
noncomputable instance[CE T (eo a)]:CU T (so (o9 a)):=GB (eo a) Je
noncomputable instance[CE T (es a)]:CU T (X7 (bc a)):=GB (es a) Fe
def M4(i:Nat)(A:Jd TE)[x:CE T A](k:∀{K E t},A K E t->S K E (zX t (mI i))):CU T S where
 chk Γ s:=(uv s).any λy=>(iZ y.2&& !Oo y.2)&&(Ke i Γ y.1&&x.chk Γ y.2)
 ok c h:=by let((f,e),q,a):=bf h;let(_,rfl):=kg q;let a:=(VZ _ _).mp a;let b:=(VZ _ _).mp a.2;let(t,j,g):=x.ok c b.2;let(y,p,z,k1,k2,k3):=uU c b.1;let z:f=_:=z;subst z;show#[_,qA c.nd k1 k2 j (AY a.1) k3,k g]
noncomputable instance[CE T (eo a)]:CU T (so (gJ a (gN i))):=M4 i (eo a) λh=>Hl h vS
noncomputable instance[CE T (es a)]:CU T (X7 (b8 a (cT i))):=M4 i (es a) λh=>vU h mL
def OD{elt b sc x p n}{a:Pos}{env:Env}(h:env.kindOf x=M .cell):Yu (.ListComp elt [b] sc a) (M (.Name x p)) n env=pure V4:=by show(pure _:Sem Bool)=_;rw[h];congr 1;show(((_&&V4)&&_)&&_)=V4;rw[Bool.and_false];rfl
def EC(I:Jd TI)(G:Jd TG)(Q:Jd TT)(A:Jd TE)[Cl A][Cl Q][ClG G][ii:CI T I][g:CG T G][w:CQ T Q][x:CE T A](n:Nat)(r:bg Nat)(i:Nat)(k:∀{K E own o b g j d},own.length=n->o.map (·.2)=r->I K E b->G K E0 g->Q K E0 j->A K E0 d->S K E (zX (oY own o b g j d) (mI i))):CU T S where
 chk Γ s:=(uv s).any λz=>(vN z.1).any λv=>(K3 z.2).any λy=>Ke i Γ z.1&&(Γ.sc.lookup v.1==M .cell||(Γ.sc.lookup v.1==M .local&&v.2.line==y.2.2.2.line&& !(y.2.2.1.names.any λy=>y.1==v.1&&(y.2==.local||y.2==.cell))))&&HA n r ii g w x Γ y.1 y.2.1 y.2.2.1
 ok c h:=by
  let((f,e),q,h2):=bf h;let(_,rfl):=kg q;let((v,vp),N,h3):=bf h2;let((elt,cp,sc,p),L,m):=bf h3;let u:f=_:=qW N;let t:e=_:=vA L;subst u t;simp only[VZ,Yn,Xp]at m;let((hg,a),hc):=m;let(_,_,z,k1,k2,k3):=uU c hg;ext z;let⟨l⟩:=v4 c hc;let(f,iter,ifs,as):=cp;obtain rfl:as=0:=l.e;show#[_,?_,k l.ln l.fj l.i l.g l.q l.a];rcases a with a|⟨⟨a,hp⟩,ha⟩
  .let a:=eK a;rw[<-c.sc]at a;show qA c.nd k1 k2 (A4 l.own l.fv c.cm l.pi l.pg l.pq l.pe l.fvk l.fr l.kd l.nd l.nm l.fold) (OD a) k3
  .let a:=eK a;rw[<-c.sc]at a;show JK l.own l.fv c.nd k1 a c.cm l.pi l.pg l.pq l.pe l.fvk l.fr (Sb c.kd a hp ha) l.kd l.nd l.nm l.fold
noncomputable instance[CI T (Rh f)][CG T (go g)][CQ T (my q)][CE T (eo a)]:CU T (so (gJ (cQ n l f g q a) (gN i))):=EC (Rh f) (go g) (my q) (eo a) n l i λo m j h e b=>Hl (rA o m j h e b) vS
noncomputable instance[CI T (Rh f)][CG T (go g)][CQ T (my q)][CE T (eo a)]:CU T (X7 (b8 (ke (af (cQ n l f g q a))) (cT i))):=EC (Rh f) (go g) (my q) (eo a) n l i λo m j h e b=>vU (uM (rC (rA o m j h e b))) mL
noncomputable instance{C f:Str}[x:CE T (es o)][y:CE T (es a)]:CU T (X7 (dM C f o a)) where
 chk Γ s:=(uv s).any λz=>(TU z.1).any λw=>w.2.1==f&&Oj Γ C f&&iZ z.2&&x.chk Γ w.1&&y.chk Γ z.2
 ok c h:=by let((i,e),q,F):=bf h;let(_,rfl):=kg q;let((b,n,p),j,g):=bf F;let z:i=_:=yU j;subst z;simp only[VZ,beq_iff_eq]at g;let((((rfl,E),v),u),r):=g;let(L,m,l):=Be c E;let(t,k1,k2):=x.ok c u;let(H,k3,k4):=y.ok c r;show#[_,Qx k1 k3 (Td v),Kz m l k2 k4]
noncomputable instance[x:CE T (es d)][y:CE T (es k)][p:CE T (es v)]:CU T (X7 (ud d k v)) where
 chk Γ s:=(uv s).any λr=>(yK r.1).any λw=>iZ r.2&&x.chk Γ w.1&&y.chk Γ w.2.1&&p.chk Γ r.2
 ok c h:=by let((b,e),q,m):=bf h;let(_,rfl):=kg q;let(w,f,a):=bf m;let p:b=_:=kL f;subst p;simp only[VZ]at a;let(((l,j),i),g):=a;let(t,k1,k2):=x.ok c j;let(o,k3,k4):=y.ok c i;let(n,k5,k6):=CK.ok c g;show#[_,Lz (TV c) k1 k3 k5 (N0 l),Ih k2 k4 k6]
def Na(I:Jd TI)(G:Jd TG)(Y:Jd TS)[v:CI T I][y:CG T G][m:CS T Y](k:∀{K E d g t},I K E d->G K E g->Y K E t->S K E (My d g t)):CU T S where
 chk Γ s:=Γ.fa&&(Nd s).any λz=>v.chk Γ (z.1,z.2.1)&&y.chk Γ z.1&&m.chk Γ z.2.2
 ok c h:=by rw[VZ]at h;let(z,q,a):=bf h.2;let(_,rfl):=FH q;simp only[VZ]at a;let(t,(f,b),e):=v.ok c a.1.1;let(j,(k1,_),k2):=y.ok c a.1.2;let(i,k3,k4):=m.ok c a.2;show#[_,Q6 (c.po h.1) c.cm f k1 k3 (AI b),k e k2 k4]
noncomputable instance[CI T (io f)][CG T (go g)][CS T (so b)]:CU T (so (mV f g b)):=Na (io f) (go g) (so b) Qb
noncomputable instance[CI T (IH f)][CG T (DC g)][CS T (X7 b)]:CU T (X7 (uX f g b)):=Na (IH f) (DC g) (X7 b) Mp
def gm(M:Md)(N:bg Str)(a:XY)(lv top:Nat)(b:Bool):Gm:=#[M,N,(au a).names,lv,b,P,Pe (au a).names,top]
def Us(N a:bg Str)(sc:XS):Bool:=decide (sc.kind=.function)&& !sc.isCoroutine&& !sc.isGenerator&&decide N.Nodup&&decide (N.take a.length=a)&&a.all (λx=>sc.names.lookup x==M .local||sc.names.lookup x==M .cell)&&sc.names.all (λy=> !(y.2==.free))
def uG{N c:bg Str}{sc:XS}(h:Us N c sc=P):Ye N c sc:=by
 unfold Us at h;simp only[VZ,decide_eq_true_eq,Yn]at h;let((((((n,m),l),j),i),g),f):=h;show#[n,m,l,j,i,λx b=>?_,λy a e=>?_]
 .let:=Xj.mp g x b;rw[Xp]at this;show this.imp eK eK
 .let:=Xj.mp f y a;rw[e]at this;ext this
section
variable{P:Ws}{w:WO}{K:lD}{y:Str->b3 Ld}{base:Heap}{f:V5}{L:Xf}{M:Md}{Z x:Str}{N v:bg Str}{k n top:Nat}{Y:XY}
def XO(T:bg Fd)(S:Jd TS)[c:CS T S](M:Md)(N v:bg Str)(Y:XY)(k top:Nat)(a:Bool):Bool:=Us N v (au Y)&&c.chk (gm M N Y k top a) (bO Y)
theorem UL(a:acq K y M)(fs:∀i L,i<top->T[i]?=cL L->L P w K y base)(S:Ye N v (au Y)){c A outer s H E}(b:X0 k (A.deeper (WT Z (au Y) s.heap.objs.size f c))):Ct T (gm M N Y k top V4) (eF lu P w K y base N Z (au Y) f c A outer s H E).nox E:=
 #[W,S.nd,W,S.kind,W,b,λ_=>abC.never,λz=>aaZ z,λ_ _=>W,a,fs]
theorem UW(a:acq K y M)(fs:∀i L,i<top->T[i]?=cL L->L P w K y base)(S:Ye N v (au Y)){c A outer s H E}(b:X0 k (A.deeper (WT Z (au Y) s.heap.objs.size f c))):Ct T (gm M N Y k top V0) (eF (L4.j7 P w) P w K y base N Z (au Y) f c A outer s H E) E:=
 #[W,S.nd,W,S.kind,W,b,λ_=>abC.leaving,λ_=>#[_,_,_,_,_,_,_,_,_,W],λ_ _=>W,a,fs]
def aaz{g:FS}{b:FN}[c:CS T (so g)](e:acq K y M)(fs:∀i L,i<top->T[i]?=cL L->L P w K y base)(F:Fun K x Z Y f L)(h:XO T (so g) M N v Y k top V4=V0)(d:v.length=n:=by rfl)(l:b=gj N.length g:=by rfl):FnOk P w K y base lu (k+1) f L v (CM K n b):=by let h:=(VZ _ _).mp h;let S:=uG h.1;show UU F S d W l λm A a s H E j=>c.ok (UL e fs S j) h.2
def ZQ{g:dX}{b:fD}[c:CS T (X7 g)](e:acq K y M)(fs:∀i L,i<top->T[i]?=cL L->L P w K y base)(F:Fun K x Z Y f L)(h:XO T (X7 g) M N v Y k top V4=V0)(d:v.length=n:=by rfl)(l:b=cz N.length g:=by rfl):FnOk P w K y base lu (k+1) f L v (kh K n b):=by let h:=(VZ _ _).mp h;let S:=uG h.1;show U2 F S d W l λm A a s H E j=>c.ok (UL e fs S j) h.2
def aeK{g:dX}{b:fD}[c:CS T (X7 g)](e:acq K y M)(fs:∀i L,i<top->T[i]?=cL L->L P w K y base)(F:Fun K x Z Y f L)(h:XO T (X7 g) M N v Y k top V0=V0)(d:v.length=n:=by rfl)(l:b=cz N.length g:=by rfl):FnOk P w K y base (L4.j7 P w) (k+1) f L v (kh K n b):=by let h:=(VZ _ _).mp h;let S:=uG h.1;show Ux F S d W l λm A a s H E j=>c.ok (UW e fs S j) h.2
end
section
variable{T:bg Fd}{P:Ws}{w:WO}{K:lD}{mg:Str->b3 Ld}{base:Heap}
theorem fs0:∀i fd,i<0->T[i]?=M fd->fd P w K mg base:=λ_ _ h=>a7 h (abq _)
theorem ZD{n:Nat}{x:Fd}(h:∀i fd,i<n->T[i]?=M fd->fd P w K mg base)(e:T[n]?=M x)(a:x P w K mg base):∀i fd,i<n+1->T[i]?=M fd->fd P w K mg base:=λi fd b q=>by
 rcases Nat.lt_succ_iff_lt_or_eq.mp b with z|rfl
 .show h i fd z q
 .rw[e]at q;ext q;show a
theorem look{α:Type}{R:Str->α->Prop}{y:Str}{e:α}{l:bg (Str×α)}(h:R y e)(r:∀x d,l.lookup x=M d->R x d):∀x d,((y,e)::l).lookup x=M d->R x d:=λx d q=>by
 rw[WY]at q;split at q
 .rename_i z;rw[beq_iff_eq]at z;ext q;rw[z];show h
 .show r x d q
abbrev Sx(K:lD)(mg:Str->z Ld):Str->D->Prop:=λx d=>∃v u,mg x=M u/\RelV v u/\∀O H,DV O K H v d
theorem csN:∀x d,([]:bg (Str×D)).lookup x=M d->Sx K mg x d:=λ_ _ h=>nomatch h
theorem csC{y:Str}{e:D}{l:bg (Str×D)}(h:Sx K mg y e)(r:∀x d,l.lookup x=M d->Sx K mg x d):∀x d,((y,e)::l).lookup x=M d->Sx K mg x d:=look h r
theorem csW{x:Str}{a:V5}{d:D}(h:mg x=M (.ref a))(k:∀O H,DV O K H (.ref a) d):Sx K mg x d:=#[.ref a,_,h,W,k]
theorem clN:∀C L,([]:bg (Str×bg Str)).lookup C=M L->lx K C L:=λ_ _ h=>nomatch h
theorem clC{y:Str}{e:bg Str}{l:bg (Str×bg Str)}(h:lx K y e)(r:∀x d,l.lookup x=M d->lx K x d):∀x d,((y,e)::l).lookup x=M d->lx K x d:=look h r
abbrev VO(K:lD)(mg:Str->z Ld)(x:Str):Prop:=∃C,WC K Wr x=M (M (.ref C))/\mg x=M (.ref C)/\YX K C Th "ValueError.__new__"=V0
theorem exN:∀x∈([]:bg Str),VO K mg x:=λ_ h=>nomatch h
end
end CC
set_option warn.classDefReducibility false
namespace CC
open PySem L2 L3 L10
variable{T:bg Fd}
def UC(n:String):Bool:=n== "int"||n== "bool"||n== "str"||n== "list"||n== "tuple"
def O0{n:String}(h:UC n=P):(n= "int"\/n= "bool"\/n= "str"\/n= "list"\/n= "tuple")/\Xa (Str.ofString n)=M (.type n):=by unfold UC at h;simp only[Xp,beq_iff_eq]at h;rcases h with(((rfl|rfl)|rfl)|rfl)|rfl<;>show#[by simp,W]
noncomputable instance[x:CE T (eo a)]:CE T (eo (jW n a)) where
 chk L e:=(HD L "isinstance" e).any λy=>match y.2.1 with
  |[b]=>(vN b).any (λz=>z.1==Str.ofString n)&&blt L (Str.ofString n)&&UC n&&x.chk L y.1
  |_=>V4
 ok {L X E e} c h:=by
  let((e,l,K,J),q,j):=bf h;let(rfl,g,i):=mf q
  match l,i,j with
  |[b],i,j=>simp only[VZ]at j;let(((f,B),A),w):=j;let(z,p,f):=bf f;let m:=qW p;let(o,I):=z;let f:=beq_iff_eq.mp f;let f:o=_:=f;subst f;let m:b=_:=m;subst m;let(k1,k2):=O0 A;let(H,F,G,C):=oG c B;let(t,u,r):=x.ok c w;simp only[Yk,VZ]at i;show#[_,uR c g v3 (.inl #[_,W]) Dn (by simp only[Yk,VZ];show i) (dI u (dI (KY (v:=.ty _) H F k2 W C G) gX (jv i.2.1)) (jv i.1)),Q4 k1 r]
noncomputable instance:BOp EF:=JG .Pow #[_,Ot,LC]
end CC
set_option warn.classDefReducibility false
namespace CC
open PySem L2 L3 L10
variable{T:bg Fd}{A B C J:Jd TE}{U Z:Jd TA}{Q R:Jd TT}
noncomputable instance:CB gx:=#["max",_,GK,.inl #[_,W],λh=>#[_,L10.CZ h,L10.MK]]
end CC
set_option warn.classDefReducibility false
namespace CC
open PySem L2 L3 L10
variable{T:bg Fd}{A B C J:Jd TE}{U Z:Jd TA}{Q R:Jd TT}
theorem xb{a:Gm}{X:Cx}{E:XK}(c:Ct T a X E):X.A.units+64<cLine:=c.rm.units
noncomputable instance:CE T (es rc) where
 chk _ e:=(U0 e).any λy=>y.1.isEmpty&&y.2.isEmpty
 ok _ h:=by let((k,v),q,a):=bf h;let(_,rfl):=QC q;simp only[VZ,W4]at a;let(rfl,rfl):=a;show#[_,LD.pe_ddnew,CF]
noncomputable instance[x:CE T (es d)][y:CE T (es k)]:CE T (es (nV d k)) where
 chk Γ e:=(yK e).any λp=>iZ p.2.1&&x.chk Γ p.1&&y.chk Γ p.2.1
 ok c h:=by let(p,q,a):=bf h;simp only[VZ]at a;let(l,i,g):=x.ok c a.1.2;let(j,f,b):=y.ok c a.2;rw[kL q];show#[_,LD.pe_ddget (xb c) i f (uE a.1.1),Cw g b]
def Nr(op:abW)(x y:Gm->Ww->Bool)(a:Gm)(e:Ww):Bool:=(SQ op e).any λp=>x a p.1&&y a p.2
def Tf(neg:Bool):abW:=if neg then .NotIn else .In
def D6{neg:Bool}[x:CE T (es k)][y:CE T (es d)]{l X E e}(c:Ct T l X E)(h:Nr (Tf neg) x.chk y.chk l e=P):∃t,PE X e t/\PT X e (tB t)/\cb X.K E t (tX neg k d):=by
 let(p,q,g):=bf h;rw[VZ]at g;let(_,rfl,a):=wc q;let(n,f,j):=x.ok c g.1;let(m,b,i):=y.ok c g.2;cases neg with
 |false=>show#[_,zp (LD.pc_ddin (xb c) f b) a,yX (LD.pc_ddin (xb c) f b) a,xW j i]
 |true=>show#[_,zp (LD.pc_ddnin (xb c) f b) a,yX (LD.pc_ddnin (xb c) f b) a,xW j i]
noncomputable instance[x:CE T (es k)][y:CE T (es d)]:CT T (mE (aZ (tX neg k d))):=#[Nr (Tf neg) x.chk y.chk,λc h=>let#[_,_,h1,a]:=D6 c h;#[_,h1,Fo a]]
noncomputable instance[CE T (es d)]:CE T (es (mh d)):=P6 "len" Hf (.inl #[_,W]) (es d) (r:=LD.rLenDD) (λ_=>LD.call_lenDD) Cq
noncomputable instance[x:CE T (es d)][y:CE T (es k)][p:CE T (es v)]:CU T (X7 (se d k v)) where
 chk Γ s:=(uv s).any λr=>(yK r.1).any λw=>iZ r.2&&x.chk Γ w.1&&y.chk Γ w.2.1&&p.chk Γ r.2
 ok c h:=by let((b,e),q,m):=bf h;let(_,rfl):=kg q;let(w,f,a):=bf m;let p:b=_:=kL f;subst p;simp only[VZ]at a;let(((l,j),i),g):=a;let(t,k1,k2):=x.ok c j;let(o,k3,k4):=y.ok c i;let(n,k5,k6):=CK.ok c g;show#[_,LD.ps_ddput (xb c) k1 k3 k5 (N0 l),C2 k2 k4 k6]
class IOp (f:D->D->z RV) where
 op:aet
 ok:∀{X:Cx},∃ti,Ve X op ti/\jJ X.K ti f
noncomputable instance[i:CT T (mE q)][m:CS T (X7 b)]:CU T (X7 (lY q b)) where
 chk Γ s:=Γ.fa&&(Sc s).any λy=>i.chk Γ y.1&&m.chk Γ y.2
 ok c h:=by rw[VZ]at h;let(y,q,a):=bf h.2;let(_,rfl):=Jx q;rw[VZ]at a;let(t,f,e):=i.ok c a.1;let(g,k1,k2):=m.ok c a.2;show#[_,DK (c.po h.1) f k1,Co e k2]
def vD:D->V
 |.int i=>.int i
 |_=>.Yf
class adS (l:G D):Prop where
 h:∀K O H,XU O K H (l.map vD) l
noncomputable instance:adS []:=#[λ_ _ _=>.nil]
noncomputable instance[r:adS l]:adS (.int i::l):=#[λK O H=>.cons (.int i) (r.h K O H)]
abbrev fdD(ds:G D)(lv:Nat)(x:Str)(b:G Str)(n:Nat)(F:fD):Fd:=λP w K a base=>yw P w K a base (L4.j7 P w) lv x b (ds.map vD) (kh K n F)
noncomputable instance[a:adS ds][Fn T (fdD ds) F n][CA T (as u)]:CE T (es (tQ F n ds u)):=tP (as u) (fdD ds) F n P λf x r g d p e b=>#[_,u7 f r (x W) e (Wa _) g d (db p) (iC p),Db (λO H=>a.h _ O H) b]
noncomputable instance[a:adS ds][Fn T (fdD ds) F n][CA T (as u)]:CE T (es (nM F n ds u)):=tP (as u) (fdD ds) F n I λf x r g d p e b=>#[_,u7 f r Eu e (Wa _) g d (db p) (iC p),y8 (λO H=>a.h _ O H) b]
abbrev afU(lv:Nat)(C:Str)(b:G Str)(n:Nat)(F:fD):Fd:=λP w K a base=>yg P w K a base (L4.j7 P w) lv C b (kh K n F)
class FKE (T:G Fd) (C:Str) (F:fD) (n:Nat) where
 i:Nat
 lv:Nat
 ps:G Str
 h:T[i]?=M (afU lv C ps n F)
noncomputable instance{C:Str}[o:FKE T C F n][x:CE T (es a)][u:CA T (as b)]:CE T (es (yT C F n (ai a b))) where
 chk Γ e:=Γ.rz&&(Γ.M.cl.lookup C).isSome&&(Rz Γ o.i (o.lv+1) C e).any λy=>CK.chk T PA (as (ai a b)) Γ (y.1::y.2.1)
 ok c h:=by simp only[VZ]at h;let(L,l):=XA.mp h.1.2;let(y,q,p):=bf h.2;let(rfl,g,i,j,f):=rH q;let(w,v,_):=oa c g;let(t,r,m):=CK.ok c p;show#[_,MN (c.fs _ _ i o.h) (Ed c h.1.1) c.rm r j w v (db f) (iC f),OY (c.md.cl _ _ l) m]
abbrev fdX(lv:Nat)(x f:Str):Fd:=λP w K b base=>∃(C B fI:V5) (e:Obj) (a:Xf) (g:G Str),L9.XC K C B fI/\K.lookup fI=M e/\Yc K (.ref fI)=V0/\FnOk P w K b base lu lv fI a g (L9.uY C f)/\Binds K a g []/\WC K Wr x=M (M (.ref C))/\b x=M (.ref C)
class FX (T:G Fd) (x f:Str) where
 i:Nat
 lv:Nat
 h:T[i]?=M (fdX lv x f)
noncomputable instance{k f:Str}[o:FX T k f][x:CE T (es a)]:CU T (X7 (nI k f a)) where
 chk i s:=i.rz&&(RQ s).any λe=>(Rz i o.i (o.lv+1) k e).any λy=>y.2.1.isEmpty&&x.chk i y.1
 ok {i X E s} c h:=by rw[VZ]at h;let(P,O):=h;let(e,q,M):=bf O;let(_,rfl):=JE q;let((e0,l,p1,p2),w,b):=bf M;let(rfl,g,hi,I,n):=rH w;simp only[VZ,W4]at b;let(rfl,b):=b;let(v,S,_):=oa c (x:=k) g;let(C,B,fI,oI,Y,ps,K,G,H,FI,bI,z,F):=c.fs _ _ hi o.h;let(t,u,L):=x.ok c b;let r:=c.rm.mono I;let(N,p,j,f,cd,A,m,s0,H0,e):=c.px P;show#[_,?_,zA z L];rw[e]at v u r⊢;show L9.Di K G H FI bI r v F (dI u gX (db n)) S (db n) (iC n)
def aed{P:Ws}{w:WO}{K:lD}{r:Str->z Ld}{base:Heap}{f:V5}{fd:Xf}{M:Md}{a x:Str}{N d:G Str}{k n top:Nat}{e:XY}{g:dX}{j:fD}{TT:V5}{p:Array Ld}[c:CS T (X7 g)](l:acq K r M)(fs:∀i fd,i<top->T[i]?=cL fd->fd P w K r base)(F:acg K x a e f fd TT p)(h:XO T (X7 g) M N d e k top V0=V0)(t:d.length=n:=by rfl)(o:j=cz N.length g:=by rfl):FnOk P w K r base (L4.j7 P w) (k+1) f fd d (kh K n j):=by let h:=(VZ _ _).mp h;let S:=uG h.1;show TF F S t W o λq A b s H E m=>c.ok (UW l fs S m) h.2
end CC
set_option warn.classDefReducibility false
namespace CC
open PySem L2 L3 L10
variable{T:bg Fd}{A B C J:Jd TE}{U Z:Jd TA}{Q R:Jd TT}
abbrev Uz(lv:Nat)(x f g:Str):Fd:=λP w K b base=>∃(C B fI:V5) (e:Obj) (a:Xf) (h:G Str),L9.XC K C B fI/\K.lookup fI=M e/\Yc K (.ref fI)=V0/\FnOk P w K b base lu lv fI a h (L9.DQ C f g)/\Binds K a h []/\WC K Wr x=M (M (.ref C))/\b x=M (.ref C)
class FX2 (T:G Fd) (x f g:Str) where
 i:Nat
 lv:Nat
 h:T[i]?=M (Uz lv x f g)
end CC
set_option warn.classDefReducibility false
namespace CC
open PySem L2 L3 L10
variable{T:bg Fd}{A B C J:Jd TE}{U Z:Jd TA}{Q R:Jd TT}
def Tr(m:Str){id:String}{r:lD->V->G V->Hp->VK->Prop}(i:Nat)(s:Slot "list" m id)(ty:typeOf (.builtin id)=pure (.type "method_descriptor"))(mt:∀{X:Cx},X.A.units+64<cLine->QL X id (r X.K))(A:Jd TE)[x:CE T A](k:∀{K E t},A K E t->J K E (Ol K "list" (r K) (pQ i) (d6 t g6))):CE T J where
 chk L e:=(Q0 m e).any λy=>Me i L y.1&&match y.2.1 with
  |[e]=>x.chk L e
  |_=>I
 ok {L X E e} c h:=by
  let((b,l,p,q),z,g):=bf h;let(rfl,w,v,a,F):=oE z;rw[VZ]at g;let(u,f):=g;let o:=zu c u
  match l,a,f with
  |[e],a,f=>let a:[e].all iZ=P:=a;let(t,n,j):=x.ok c f;show#[_,Nc abx s ty (mt (xb c)) o (dI n gX (db a)) (fQ w) (mH a (by show 1<20;decide)) v (db a) W,k j]
noncomputable instance[CE T (eo a)]:CE T (eo (L10.C8 i a)):=Tr "index" i abw PySem.F.type_list_index (r:=Gp) (λ_=>L10.Cf) (eo a) L10.Pu
noncomputable instance[x:CE T (es d)][y:CE T (es k)][L:CE T (es f)]:CE T (es (tj d k f)) where
 chk N e:=(Q0 "setdefault" e).any λw=>x.chk N w.1&&match w.2.1 with
  |[e,f]=>y.chk N e&&L.chk N f
  |_=>V4
 ok {N X E e} c h:=by
  let((b,l,p,q),w,i):=bf h;let(rfl,o,n,a,I):=oE w;rw[VZ]at i;let(j,g):=i;let(Y,G,F):=x.ok c j
  match l,a,g with
  |[e,f],a,g=>let a:[e,f].all iZ=P:=a;rw[VZ]at g;let(S,v,u):=y.ok c g.1;let(H,t,r):=L.ok c g.2;show#[_,LD.pe_ddsd (xb c) G v t #[fQ o,mH a (by show 2<20;decide),n,?_],GM F u r];let m:[f].all iZ=P:=(VZ _ _▸a:_/\_).2;rw[db a,db m];rfl
noncomputable instance[x:CE T (es a)]:CI T (IH (jr a)) where
 chk L p:=(HD L "range" p.2).any λy=>y.2.1.isEmpty&&x.chk L y.1
 ok {L X E p} c h:=by let((e,l,w,v),q,f):=bf h;let(z,g,b):=mf q;let(r,o,_):=oG c g;let(u,i):=p;let z:i=_:=z;subst z;simp only[VZ,W4]at f;let(rfl,n):=f;let(t,m,j):=x.ok c n;show#[_,#[uw r o (dI m gX (db b)) (db b),W],DL j]
noncomputable instance[CI T (IH f)][CG T (DC g)][CQ T (mE q)][CE T (es a)]:CU T (X7 (b8 (ke (dw n l f g q a)) (cT i))):=EC (IH f) (DC g) (mE q) (es a) n l i λo m j h e b=>vU (uM (wA o m j h e b)) mL
end CC
set_option warn.classDefReducibility false
namespace CC
open PySem L2 L3 L10
variable{T:bg Fd}
def VW:CE T (eo (pC .none)):=inferInstance
def T7:Ww:=.Constant .none 0 #[0,0,0,0]
noncomputable instance{C m:Str}[ii:CI T (IH f)][gg:CG T (DC tg)][w:CQ T (mE q)][o:FM T V0 C m F n][x:CE T (es b)][u:CA T (as (ai a r))]:CE T (es (oK k l f tg q (jH C m F n b (ai a r)))) where
 chk g e:=g.rz&&(K3 e).any λz=>HA k l ii gg w VW g T7 z.2.1 z.2.2.1&&EJ T V0 V4 C m F n x.chk (λg l=> !l.isEmpty&&u.chk g l) (g.inn (MU z.2.1.target) (wX g l) z.2.2.1.names) z.1
 ok {g X E e} c h:=by
  let h:=(VZ _ _).mp h;let((M,cp,sc,p),q1,v):=bf h.2;let v:=(VZ _ _).mp v;rw[vA q1];let⟨l⟩:=v4 c v.1;let(tgt,Z,ifs,R):=cp;obtain rfl:R=0:=l.e;let(N,S,y,f0,cd,A,B,s0,H0,e):=c.px h.1;let cV:X.stack=X.env::X.outer/\X.env.frame=cL X.env.locals:=by rw[e];show#[W,W]
  let J:X.ex=[]:=by rw[e];rfl
  let G:X.pn=[]:=by rw[e];rfl
  let PX:L4.Fp X E:=by rw[e];show L4.LG
  show#[_,Hh l.own l.fv cV J G PX c.cm l.pi l.pg l.pq (te:=t0 (es (jH C m F n b (ai a r))) X.K E) (λs H Cc fp=>?_) l.fvk l.fr l.kd l.nd l.nm l.fold,Dk l.ln l.fj l.i l.g l.q (Cl.cl (P:=es (jH C m F n b (ai a r))))];let O:=l.ct s H Cc fp (Uy (bq X s H sc Cc (cG l.own l.fv) fp) E) E;let(bb,Y,p1,p2,L,pl,e1,h1,j,h4,h5,h6,_,i,h8):=vZ O v.2;let e1:M=_:=e1;subst e1;let j:=(VZ _ _).mp j;let(to,k1,k2):=x.ok O h1;let(t,k3,k4):=u.ok O j.2;cases Y with
  |nil=>cases j.1
  |cons e0 Y=>show λU s1 σ H1 Q I z=>M3 h5 L4.Hs h6 k1 k3 (Wa _) (db i) (iC i) h8 _ _ _ _ _ I (z _ (HN h4 k2 k4))
def R8{J:Jd TE}(op:aft)(A B:Jd TE)[x:CE T A][y:CE T B]{f:TE->TE->TE}(p:∀{X:Cx} {a b rest pos v d},PE X a v->PE X (.BoolOp op (b::rest) pos) d->PE X (.BoolOp op (a::b::rest) pos) (f v d))(k:∀{K E v d},A K E v->B K E d->J K E (f v d)):CE T J where
 chk Γ e:=(TL e).any λz=>decide (z.1=op)&&match z.2.1 with
  |[l,r]=>x.chk Γ l&&y.chk Γ r
  |l::r::s::t=>x.chk Γ l&&y.chk Γ (.BoolOp op (r::s::t) z.2.2)
  |_=>I
 ok c h:=by
  let((o,l,p),q,u):=bf h;rw[yI q];simp only[VZ,decide_eq_true_eq]at u;let(rfl,g):=u;split at g
  .rw[VZ]at g;let(v,n,m):=x.ok c g.1;let(d,j,i):=y.ok c g.2;show#[_,p n (Ii j),k m i]
  .rw[VZ]at g;let(v,n,m):=x.ok c g.1;let(d,j,i):=y.ok c g.2;show#[_,p n j,k m i]
  .ext g
noncomputable instance[CE T (eo a)][CE T (eo (nt b d))]:CE T (eo (nt a (nt b d))):=R8 .And (eo a) (eo (nt b d)) zV Fr
end CC
set_option warn.classDefReducibility false
namespace CC
open PySem L2 L3 L10
variable{T:bg Fd}{A B:Jd TE}
end CC
set_option warn.classDefReducibility false
namespace CC
open PySem L2 L3 L10
variable{T:bg Fd}
end CC
namespace M02
inductive Con(E:G (Nat×Nat))(r0:Nat):Bool->Nat->Prop
 |base:Con E r0 P r0
 |col {r c:Nat}:Con E r0 P r->(r,c)∈E->Con E r0 I c
 |row {r c:Nat}:Con E r0 I c->(r,c)∈E->Con E r0 P r
def has(n c:Nat):Prop:=n.testBit c=P
structure Nums(E:G (Nat×Nat))(R C:Nat)(ns:G Nat):Prop where
 len:ns.length=R
 lt:∀n∈ns,n<2^C
 own:∀r c,(r,c)∈E->has (ns.getD r 0) c
 snd:∀r,r<R->∀c,has (ns.getD r 0) c->Con E r I c
abbrev NF:=G Nat×G Nat
structure aoY(E:G (Nat×Nat))(r0:Nat)(s:NF):Prop where
 a:r0∈s.1
 n:∀x∈s.1,Con E r0 P x
 f:∀x∈s.2,Con E r0 I x
 d:s.2.Nodup
 d1:s.1.Nodup
structure aqd(R C:Nat)(ss:G (Nat×Nat)):Prop where
 r1:1<=R
 r6:R<=6
 c1:1<=C
 c6:C<=6
 l1:1<=ss.length
 l12:ss.length<=12
 nd:ss.Nodup
 inn:∀s∈ss,s.1<R/\s.2<C
end M02
local macro_rules(kind:=«term{_}»)|`({$a})=>`(L3.ae $a L3.ar)|`({$a,$b})=>`(L3.ae $a (L3.ae $b L3.ar))|`({$a,$b,$c})=>`(L3.ae $a (L3.ae $b (L3.ae $c L3.ar)))|`({$a,$b,$c,$d})=>`(L3.ae $a (L3.ae $b (L3.ae $c (L3.ae $d L3.ar))))
local macro_rules|`(~~~$n)=>`(L3.pC (.int $n))
namespace STP
open PySem L2 L3
def im:FS:=(bp (jD (az (aF pI (aF aX (aa 0) (~~~2)) (pC .none))) (cR (aF aX (aa 0) (~~~2))) cC)
 (cR (dU (L10.BO 0) {cQ 2 [] (dZ (aF aX (aa 0) (~~~0))) (gT 2 (Pz (gN 0) (Pz (gN 1) RD))) (az (aF cP (aF aX (aa 1) (~~~0)) (pC (.str "layer")))) (aF aX (aa 1) (~~~1))})))
def dQ:FN:=gj 1 im
def gc:FS:=(bp (gJ (aF aX (aF aX (aF aX (aa 0) (~~~1)) (aa 1)) (aa 2)) (gN 3))
 (bp (jD (az (aF cP (aF aX (aa 3) (~~~0)) (pC (.str "below")))) (cR (aF aX (aF aX (aF aX (aa 0) (~~~1)) (~~~0)) (aa 2))) cC)
 (cR (aa 3))))
def iO:FN:=gj 4 gc
def d9:FS:=(cR (cQ 1 [1] (dZ (aF aX (aa 0) (~~~2))) (gN 0) (az (dU pM {cQ 1 [0] (dZ (aa 1)) (gN 0) b9 (aF IK (aa 0) (aF aX (aa 1) (~~~0)))})) (aa 0)))
def bx:FN:=gj 2 d9
def fA:FS:=(bp (mV (dZ (aF aX (aa 0) (~~~2))) (gN 2) (jD (az (aF cP (dU sW {aF aX (aa 2) (~~~0)}) (dU L9.fP {aa 1}))) (cR (aF c7 (cx {b7 {pC (.str "letter"),aF aX (aa 2) (~~~1)}}) (aF gL (cx {pC (.tuple [(.str "none")])}) (aF rM (dU br {aa 1}) (~~~1))))) cC))
 (cR (cQ 1 [0] (dZ (aa 1)) (gN 0) b9 (aF aX (aF aX (aF aX (aa 1) (~~~1)) (~~~0)) (aa 0)))))
def eZ:FN:=gj 3 fA
open L10
def eC:dX:=(aG (dM "Hand" "bed" (am 0) (af (aa 1)))
 (aG (dM "Hand" "acts" (am 0) (tM (af (aF aX (aa 2) (~~~0)))))
 (aG (dM "Hand" "waiting" (am 0) (af (aF aX (aa 2) (~~~1))))
 (aG (dM "Hand" "once" (am 0) (af (aF aX (aa 2) (~~~2))))
 (dM "Hand" "sent" (am 0) (af (cx ar)))))))
def dC:fD:=cz 3 eC
def fS:dX:=(fK (ky (ai (i4 eE (ai (dw 1 [0] (ef (rS (aJ "Hand" "acts" (am 0)))) (cT 0) bV (ky (ai (af (aa 0)) (ai (qV (aJ "Hand" "acts" (am 1)) (af (aa 0))) av)))) av)) (ai (aJ "Hand" "waiting" (am 0)) (ai (aJ "Hand" "once" (am 0)) av)))))
def bw:fD:=cz 1 fS
def dJ:dX:=(fK (wQ (jK pI (aJ "Hand" "waiting" (am 0)) (af (pC .none))) (jK IK (af (aa 1)) (gf (aJ "Hand" "waiting" (am 0)) (af (~~~0))))))
def bP:fD:=cz 2 dJ
def eV:dX:=(fK (jK IK (af (aa 1)) (xZ (aJ "Hand" "acts" (am 0)))))
def bC:fD:=cz 2 eV
def iB:dX:=(aG (bZ (mn (bJ (az (aF cP (aF aX (aa 2) (~~~0)) (pC (.str "letter"))))) (v9 (aZ (aL "Hand" "has_act" bC 2 (am 0) (ai (af (aa 2)) av))))) (bc (jB (aJ "Hand" "sent" (am 0)) (af (b7 {aF aX (aa 2) (~~~1),pC (.str "down")})))) cJ)
 (ud (aJ "Hand" "acts" (am 0)) (af (aa 1)) (af (aa 2))))
def a9:fD:=cz 3 iB
def kM:dX:=(aG (b8 (um (aJ "Hand" "acts" (am 0)) (af (aa 1))) (cT 2))
 (bZ (mn (bJ (az (aF cP (aF aX (aa 2) (~~~0)) (pC (.str "letter"))))) (v9 (aZ (aL "Hand" "has_act" bC 2 (am 0) (ai (af (aa 2)) av))))) (bc (jB (aJ "Hand" "sent" (am 0)) (af (b7 {aF aX (aa 2) (~~~1),pC (.str "up")})))) cJ))
def ja:fD:=cz 3 kM
def fV:dX:=(aG (b8 (gf (aJ "Hand" "waiting" (am 0)) (af (~~~0))) (cT 1))
 (aG (b8 (gf (aJ "Hand" "waiting" (am 0)) (af (~~~2))) (cT 2))
 (aG (dM "Hand" "waiting" (am 0) (af (pC .none)))
 (aG (b8 (ke (M8 (bJ (az (aF cP (aa 2) (pC (.tuple [(.str "chord")]))))) (iY eZ 2 (ai (aJ "Hand" "bed" (am 0)) (ai (af (aa 1)) av))) (af (cx {b7 {pC (.str "layer"),aF aX (aa 2) (~~~2)}})))) (cT 3))
 (uX (ei (uC {aa 1,aa 3})) (Oh 2 (pB (cT 4) (pB (cT 5) zb))) (bc (aL "Hand" "come" a9 3 (am 0) (ai (af (aa 4)) (ai (af (aa 5)) av)))))))))
def cO:fD:=cz 6 fV
def dg:dX:=(aG (bZ (zS (aZ (jK qI (aJ "Hand" "waiting" (am 0)) (af (pC .none)))) (zS (aZ (jK sI (gf (aJ "Hand" "waiting" (am 0)) (af (~~~2))) (af (pC (.tuple [(.str "chord")]))))) (aZ (jK sI (iY dQ 1 (ai (aL "Hand" "stands" bw 1 (am 0) av) av)) (af (~~~0)))))) (fK (af (pC (.bool I)))) cJ)
 (fK (jK sI (iY bx 2 (ai (aJ "Hand" "bed" (am 0)) (ai (jK c7 (gf (aJ "Hand" "waiting" (am 0)) (af (~~~0))) (af (b7 {aa 1}))) av))) (af (cx ar)))))
def dj:fD:=cz 2 dg
def cU:dX:=(aG (b8 (jK c7 (gf (aJ "Hand" "waiting" (am 0)) (af (~~~0))) (af (b7 {aa 1}))) (cT 2))
 (aG (dM "Hand" "waiting" (am 0) (ky (ai (af (aa 2)) (ai (gf (aJ "Hand" "waiting" (am 0)) (af (~~~1))) (ai (af (pC (.tuple [(.str "chord")]))) av)))))
 (bZ (aZ (jK cP (dw 1 [] (ef (iY bx 2 (ai (aJ "Hand" "bed" (am 0)) (ai (af (aa 2)) av)))) (cT 0) bV (af (dU br {aF aX (aa 0) (~~~0)}))) (af (cx {dU br {aa 2}})))) (bc (aL "Hand" "decide" cO 1 (am 0) av)) cJ)))
def cS:fD:=cz 3 cU
def gC:dX:=(aG (b8 (iY dQ 1 (ai (aL "Hand" "stands" bw 1 (am 0) av) av)) (cT 2))
 (aG (b8 (iY iO 3 (ai (aJ "Hand" "bed" (am 0)) (ai (af (aa 2)) (ai (af (aa 1)) av)))) (cT 3))
 (aG (b8 (af (aF aX (aa 3) (~~~0))) (cT 4))
 (aG (bZ (bJ (az (aF sL (aa 4) (b7 {pC (.str "layer"),pC (.str "once")})))) (dM "Hand" "once" (am 0) (af (pC .none))) cJ)
 (bZ (bJ (az (aF cP (aa 4) (pC (.str "tap"))))) (dM "Hand" "waiting" (am 0) (af (b7 {b7 {aa 1},~~~0,aa 3}))) (bZ (mn (bJ (az (aF cP (aa 4) (pC (.str "letter"))))) (mn (bJ (az (aF cP (aa 2) (~~~0)))) (aZ (jK sI (iY bx 2 (ai (aJ "Hand" "bed" (am 0)) (ai (af (b7 {aa 1})) av))) (af (cx ar)))))) (dM "Hand" "waiting" (am 0) (af (b7 {b7 {aa 1},~~~0,pC (.tuple [(.str "chord")])}))) (bZ (bJ (az (aF cP (aa 4) (pC (.str "once"))))) (aG (bc (aL "Hand" "come" a9 3 (am 0) (ai (af (aa 1)) (ai (af (pC (.tuple [(.str "none")]))) av))))
 (dM "Hand" "once" (am 0) (af (aF aX (aa 3) (~~~1))))) (bc (aL "Hand" "come" a9 3 (am 0) (ai (af (aa 1)) (ai (af (aa 3)) av)))))))))))
def eW:fD:=cz 5 gC
def gI:dX:=(aG (bZ (zS (aZ (sT I (af (aa 1)) (aJ "Hand" "acts" (am 0)))) (aZ (aL "Hand" "is_waiting" bP 2 (am 0) (ai (af (aa 1)) av)))) rp cJ)
 (aG (bZ (aZ (aL "Hand" "makes_chord" dj 2 (am 0) (ai (af (aa 1)) av))) (aG (bc (aL "Hand" "put_to_chord" cS 2 (am 0) (ai (af (aa 1)) av)))
 rp) cJ)
 (aG (bZ (aZ (jK pI (aJ "Hand" "waiting" (am 0)) (af (pC .none)))) (bc (aL "Hand" "decide" cO 1 (am 0) av)) cJ)
 (bc (aL "Hand" "begin" eW 2 (am 0) (ai (af (aa 1)) av))))))
def gD:fD:=cz 2 gI
def fW:dX:=(aG (b8 (gf (aJ "Hand" "waiting" (am 0)) (af (~~~2))) (cT 2))
 (bZ (bJ (az (aF cP (aa 2) (pC (.tuple [(.str "chord")]))))) (bc (aL "Hand" "decide" cO 1 (am 0) av)) (aG (dM "Hand" "waiting" (am 0) (af (pC .none)))
 (bc (aL "Hand" "come" a9 3 (am 0) (ai (af (aa 1)) (ai (af (b7 {pC (.str "letter"),aF aX (aa 2) (~~~1)})) av)))))))
def fM:fD:=cz 3 fW
def iA:dX:=(aG (bZ (aZ (aL "Hand" "is_waiting" bP 2 (am 0) (ai (af (aa 1)) av))) (bc (aL "Hand" "settle" fM 2 (am 0) (ai (af (aa 1)) av))) cJ)
 (bZ (aZ (sT I (af (aa 1)) (aJ "Hand" "acts" (am 0)))) (bc (aL "Hand" "go" ja 2 (am 0) (ai (af (aa 1)) av))) cJ))
def iH:fD:=cz 2 iA
def fy:dX:=(aG (bZ (aZ (jK qI (aJ "Hand" "waiting" (am 0)) (af (pC .none)))) rp cJ)
 (aG (b8 (jK c7 (gf (aJ "Hand" "waiting" (am 0)) (af (~~~1))) (af (~~~1))) (cT 1))
 (aG (dM "Hand" "waiting" (am 0) (ky (ai (gf (aJ "Hand" "waiting" (am 0)) (af (~~~0))) (ai (af (aa 1)) (ai (gf (aJ "Hand" "waiting" (am 0)) (af (~~~2))) av)))))
 (bZ (aZ (jK cP (af (aa 1)) (gf (aJ "Hand" "bed" (am 0)) (af (~~~3))))) (bc (aL "Hand" "decide" cO 1 (am 0) av)) cJ))))
def fq:fD:=cz 2 fy
def vO:dX:=(aG (b8 (qU "Hand" dC 3 (ai (af (aa 0)) (ai (af (aa 1)) av))) (cT 3))
 (aG (bZ (bJ (az (aF cP (aF aX (aa 2) (~~~0)) (pC (.str "turn"))))) (bc (aL "Hand" "wait_on" fq 1 (am 3) av)) (bZ (bJ (az (aF cP (aF aX (aa 2) (~~~0)) (pC (.str "down"))))) (bc (aL "Hand" "press" gD 2 (am 3) (ai (af (aF aX (aa 2) (~~~1))) av))) (bc (aL "Hand" "lift" iH 2 (am 3) (ai (af (aF aX (aa 2) (~~~1))) av)))))
 (fK (ky (ai (aJ "Hand" "sent" (am 3)) (ai (aL "Hand" "stands" bw 1 (am 3) av) av))))))
def kE:fD:=cz 4 vO
end STP
local macro_rules| `(tactic|ext:4)=> `(tactic|·first|((simp only[adB,adC]);rfl)|rfl)| `(tactic|ext:3)=> `(tactic|first|with_reducible assumption|change L3.fL _ _|change L3.qp _ _|change L3.ou _ _|change L3.aho _ _|change L3.AF _ _|change L3.wM _ _|change L3.yZ _ _|change L3.ajN _ _|change L3.iG _ _|change L3.vE _ _|change L3.adQ _ _|change L3.ad7 _ _|change L3.ail _ _|change L3.aib _ _|change L3.vK _ _|change L3.ah3 _ _|change L3.ah9 _ _|change L3.ag1 _ _|change L3.wj _ _|change L3.ahd _ _|change L3.agQ _ _|change L3.aik _ _|change L3.akE _ _|change L3.i7|change L3.jO|change L3.rh|change L3.am7|change L3.aoC|change L3.M7|change L3.kr _|change L3.gZ _|(with_reducible rfl))| `(tactic|ext:0)=> `(tactic|first
 |change L3.aD
 |((with_reducible apply L3.ag);rfl)
 |((with_reducible apply L3.jZ);rfl)
 |change L3.ay
 |change L3.ahq
 |((with_reducible apply L3.aB);(·ext:0);(·ext:0);(·rfl);(·rfl);(·ext:3))
 |((with_reducible apply L3.A9);(·ext:0);(·rfl);(·rfl))
 |((with_reducible apply L3.aj);(·ext:0);(·ext:0))
 |((with_reducible apply L3.aN);(·ext:0);(·rfl))
 |((with_reducible apply L3.bU);(·ext:0);(·rfl);(·first|ext:3|rfl))
 |((with_reducible apply L3.cM);(·ext:0);(·rfl);(·rfl);(·with_reducible assumption))
 |((with_reducible apply L3.hW);(·ext:0);(·rfl);(·exact Wc rfl))
 |((with_reducible apply L3.qG);(·ext:0);(·rfl);(·exact Wc rfl))
 |((with_reducible apply L3.ip);(·ext:0);(·rfl);(·rfl))
 |((with_reducible apply L3.agX);(·ext:0);(·rfl))
 |((with_reducible apply L3.alp);(·ext:0);(·ext:0);(·ext:0);(·rfl);(·first|with_reducible assumption|rfl))
 |((with_reducible apply L3.eB);(·ext:0))
 |((with_reducible apply L3.vF);(·ext:0);(·intro _;ext:0))
 |((with_reducible apply L3.gW);(·ext:0);(·intro _;ext:0))
 |((with_reducible apply L3.aij);(·ext:0))
 |((with_reducible apply L3.mJ);(·ext:0);(·intro _;ext:0))
 |((with_reducible apply L3.afZ);(·ext:0);(·intro _;ext:0))
 |((with_reducible apply L3.uA);(·ext:0);(·rfl);(·first|with_reducible assumption|rfl))
 |((with_reducible apply L3.d5);(·ext:0);(·rfl);(·rfl))
 |((with_reducible apply L3.ahm);(·ext:0);(·rfl);(·rfl))
 |((with_reducible apply L3.yL);(·rfl);(·ext:0);(·rfl);(·rfl);(·first|with_reducible assumption|(simp only[Yi,Wi,L3.gH] at*;ext));ext:4)
 |((with_reducible apply L3.ajj);(·rfl);(·ext:0);(·rfl);(·rfl);(·with_reducible assumption);(·with_reducible assumption);(·with_reducible assumption);ext:4)
 |((with_reducible apply L3.yW);(·ext:0);(·rfl);ext:4)
 |((with_reducible apply L3.BP);(·ext:0))
 |((with_reducible apply L3.n6);(·ext:0);(·rfl)))
local macro_rules| `(tactic|ext:6)=> `(tactic|first
 |((with_reducible apply L3.akt);(·ext:0);(·ext:0);(·rfl);(·rfl);(·ext:3))
 |((with_reducible apply L3.ahY);(·ext:0);(·rfl);(·rfl);(·with_reducible assumption))
 |((with_reducible apply L3.ako);(·ext:0);(·rfl);(·first|ext:3|rfl))
 |ext:0)
local macro_rules| `(tactic|ext:0)=> `(tactic|first
 |with_reducible assumption
 |((with_reducible apply L3.mJ);(·ext:0);(·intro _;ext:6))
 |((with_reducible apply L3.afZ);(·ext:0);(·intro _;ext:6))
 |((with_reducible apply L3.qO);(·ext:0);(·ext:0);(·ext:0);(·rfl);(·rfl);(·rfl);(·ext:3);(·intro _;ext:3))
 |((with_reducible apply L3.wa);(·ext:0);(·rfl);(·rfl);(·rfl)))
local macro_rules| `(tactic|ext:1)=> `(tactic|first
 |((with_reducible apply L3.eY);(·ext:0);(·rfl);ext:4;try ext:1)
 |((with_reducible apply L3.ait);(·ext:0);try ext:1)
 |((with_reducible apply L3.Ik);try ext:1)
 |((with_reducible apply L3.di);try ext:1)
 |((with_reducible apply L3.iX);(·ext:0);(·rfl))
 |((with_reducible apply L3.iw);(·ext:0))
 |((with_reducible apply L3.akr);(·ext:0);(·rfl);ext:4)
 |((with_reducible apply L3.uV);(·ext:0))
 |((with_reducible apply L3.fJ);(·ext:0);(·rfl))
 |((with_reducible apply L3.IA);(·ext:0))
 |(with_reducible apply L3.vV))
namespace STP
open PySem L2 L3
def jh(c:Nat):Str:=#[#v[97+c]]
inductive Mn where
 |WW (c:Nat)
 |Yq (n:Int)
 |tap (c:Nat) (n:Int)
 |once (n:Int)
 |none
 |below
 deriving DecidableEq
def mD:Mn->D
 |.WW c=>.tuple [.str "letter",.str (jh c)]
 |.Yq n=>.tuple [.str "layer",.int n]
 |.tap c n=>.tuple [.str "tap",.str (jh c),.int n]
 |.once n=>.tuple [.str "once",.int n]
 |.none=>.tuple [.str "none"]
 |.below=>.tuple [.str "below"]
def VM(L a:Int):Mn->Prop
 |.WW c=>c<26
 |.Yq n=>1<=n/\n<a
 |.tap c n=>c<26/\1<=n/\n<a
 |.once n=>1<=n/\n<a
 |.none=>True
 |.below=>L≠0
def Mn.isL:Mn->Bool
 |.WW _=>P
 |_=>I
structure Bd where
 n:Int
 ls:G (G Mn)
 cs:G (G Nat×Nat)
 wt:Int
def jT(l:G Mn):D:=.tuple (l.map mD)
def XO(c:G Nat×Nat):D:=.tuple [.tuple (bh c.1),.str (jh c.2)]
def bD(b:Bd):D:=.tuple [.int b.n,.tuple (b.ls.map jT),.tuple (b.cs.map XO),.int b.wt]
def VL(n a:Int)(b:G (G Mn)):Prop:=∀(i:Nat) l,b[i]?=M l->(l.length:Int)=n/\∀m∈l,VM i a m
def Dy(l0:G Mn)(k:Nat):Bool:=(l0[k]?.map Mn.isL).getD I
def VC(l0:G Mn)(c:G Nat×Nat):Prop:=2<=c.1.length/\c.1.Pairwise (·<·)/\(∀k∈c.1,Dy l0 k=P)/\c.2<26
structure VB(b:Bd):Prop where
 n1:1<=b.n
 n5:b.n<=5
 l1:1<=b.ls.length
 l3:b.ls.length<=3
 vl:VL b.n b.ls.length b.ls
 c4:b.cs.length<=4
 vc:∀c∈b.cs,VC (b.ls.headD []) c
 cu:b.cs.Pairwise λa c=>a.1≠c.1
 w1:1<=b.wt
 w4:b.wt<=4
def wn:Mn->Nat
 |.WW _=>0
 |.Yq _=>1
 |.tap _ _=>2
 |.once _=>3
 |.none=>4
 |.below=>5
def ws:Nat->Str
 |0=> "letter"
 |1=> "layer"
 |2=> "tap"
 |3=> "once"
 |4=> "none"
 |_=> "below"
def wd(m:Mn):Str:=ws (wn m)
def tN(m:Mn):wn m<6:=by ext m<;>show Wc W
def tf(m:Mn):aX (mD m) (.int 0)=M (.fz (.str (wd m))):=by ext m<;>show i7
theorem NH(m:Mn):V3.strOk (wd m)=P:=(by left:∀i,i<6->V3.strOk (ws i)=P) _ (tN m)
def BK:∀i,i<6->∀j,j<6->(ws i==ws j)=decide (i=j):=by left
def xY(m:Mn)(j:Nat)(a:j<6):cP (.str (wd m)) (.str (ws j))=M (.fz (.bool (decide (wn m=j)))):=by rw[Ul (NH m) ((by left:∀i,i<6->V3.strOk (ws i)=P) j a)];ext wd;rw[BK _ (tN m) _ a]
def Mn.isB:Mn->Bool
 |.below=>P
 |_=>I
def Mn.adm:Mn->Bool
 |.Yq _=>P
 |_=>I
def Mn.isT:Mn->Bool
 |.tap _ _=>P
 |_=>I
def Mn.isO:Mn->Bool
 |.once _=>P
 |_=>I
theorem kZ(m:Mn):cP (.str (wd m)) (.str "letter")=M (.fz (.bool m.isL)):=(xY m 0 ()).trans (by ext m<;>rfl)
theorem GN(m:Mn):cP (.str (wd m)) (.str "below")=M (.fz (.bool m.isB)):=(xY m 5 ()).trans (by ext m<;>rfl)
theorem E6(m:Mn):cP (.str (wd m)) (.str "layer")=M (.fz (.bool m.adm)):=(xY m 1 ()).trans (by ext m<;>rfl)
theorem QY(m:Mn):cP (.str (wd m)) (.str "tap")=M (.fz (.bool m.isT)):=(xY m 2 ()).trans (by ext m<;>rfl)
theorem J8(m:Mn):cP (.str (wd m)) (.str "once")=M (.fz (.bool m.isO)):=(xY m 3 ()).trans (by ext m<;>rfl)
def S9(m:Mn):sL (.str (wd m)) (.tuple [.str "layer",.str "once"])=M (.fz (.bool (!(m.adm||m.isO)))):=by
 let h:∀a:Str,V3.strOk a=P->sL (.str a) (.tuple [.str "layer",.str "once"])=M (.fz (.bool (!(("layer":Str)==a||("once":Str)==a)))):=λa b=>by show(if(lO (.str a)&&(V3.strOk "layer"&&(V3.strOk "once"&&P)))=P then M (RV.fz (.bool (!(V3.eqv (.str "layer") (.str a)||(V3.eqv (.str "once") (.str a)||false)))))else R)=_;rw[show lO (.str a)=P by ext lO;rw[show V3.canLay0 (.str a)=P from b];rfl,show V3.strOk "layer"=P by left,show V3.strOk "once"=P by left,afo];rfl
 rw[h _ (NH m)];ext wd;rw[show(("layer":Str)==ws (wn m))=_ from BK 1 () _ (tN m),show(("once":Str)==ws (wn m))=_ from BK 3 () _ (tN m)];ext m<;>rfl
def LB:Mn->Prop
 |.WW c=>c<26
 |.tap c _=>c<26
 |_=>True
def VM.lb(h:VM L nL m):LB m:=by
 cases m with
 |WW c=>show h
 |tap c n=>show h.1
 |_=>trivial
def lW(h:c<26):V3.strOk (jh c)=P:=by show((#v[97+c]:Array Nat).all λc=>decide (c<0x110000))=P;simp;ext
def IR(h:jh c=jh d):c=d:=by
 let:(97+c)=97+d:=by let a:=eg (λz:Str=>z.cps.toList) h;show List.head_eq_of_cons_eq a
 ext
def GL(h:LB m):V3.canLay0 (mD m)=P:=by
 cases m with
 |WW c=>show(V3.strOk "letter"&&(V3.strOk (jh c)&&P))=P;rw[lW h,show V3.strOk "letter"=P by left];rfl
 |Yq n=>show(V3.strOk "layer"&&(P&&P))=P;left
 |tap c n=>show(V3.strOk "tap"&&(V3.strOk (jh c)&&(P&&P)))=P;rw[lW h,show V3.strOk "tap"=P by left];rfl
 |once n=>show(V3.strOk "once"&&(P&&P))=P;left
 |none=>show(V3.strOk "none"&&P)=P;left
 |below=>show(V3.strOk "below"&&P)=P;left
def FU(h:LB m):lO (mD m)=P:=by ext lO;rw[GL h];ext m<;>rfl
def mR:Mn->G D
 |.WW c=>[.str (jh c)]
 |.Yq n=>[.int n]
 |.tap c n=>[.str (jh c),.int n]
 |.once n=>[.int n]
 |.none=>[]
 |.below=>[]
def MQ(m:Mn):mD m=.tuple (.str (wd m)::mR m):=by ext m<;>rfl
def SS(a b:Mn):decide (wd a=wd b)=decide (wn a=wn b):=by
 let h:=BK _ (tN a) _ (tN b)
 assumption
theorem AR(c d:Nat):decide (jh c=jh d)=decide (c=d):=decide_eq_decide.mpr #[IR,λh=>by rw[h]]
def ON(a b:Mn)(h:wn a=wn b):V3.eqvAll (mR a) (mR b)=decide (a=b):=by
 ext a<;>ext b<;>first|ext h|skip
 .show(decide (jh _=jh _)&&P)=_;rw[AR,aay];show decide_eq_decide.mpr #[λh=>by rw[h],λh=>by ext h;rfl]
 .show(decide (_=_)&&P)=_;rw[aay];show decide_eq_decide.mpr #[λh=>by rw[h],λh=>by ext h;rfl]
 .show(decide (jh _=jh _)&&(decide (_=_)&&P))=_;rw[AR,aay,<-Bool.decide_and];show decide_eq_decide.mpr #[λh=>by rw[h.1,h.2],λh=>by ext h;show#[W,W]]
 .show(decide (_=_)&&P)=_;rw[aay];show decide_eq_decide.mpr #[λh=>by rw[h],λh=>by ext h;rfl]
 .rfl
 .rfl
def Rk(a b:Mn):V3.eqv (mD a) (mD b)=decide (a=b):=by
 rw[MQ,MQ];show(decide (wd a=wd b)&&V3.eqvAll (mR a) (mR b))=_;rw[SS];by_cases h:wn a=wn b
 .rw[a4 h,ZA,ON a b h]
 .rw[a5 h,aac,a5 λz=>h (by rw[z])]
theorem Av:∀{l:G Mn},(∀m∈l,LB m)->V3.canLayAll0 (l.map mD)=P
 |[],_=>rfl
 |m::r,h=>by show(V3.canLay0 (mD m)&&V3.canLayAll0 (r.map mD))=P;rw[GL (h m Wk),Av λx a=>h x (Wf _ a)];rfl
theorem Aw(a:Mn):∀l:G Mn,((l.map mD).any λe=>V3.eqv e (mD a))=decide (a∈l)
 |[]=>rfl
 |m::r=>by
  rw[Wl,Y2,Aw a r,Rk,<-Bool.decide_or]
  grind
def JP{l:G Mn}(c:LB a)(b:∀m∈l,LB m):IK (mD a) (.list (l.map mD))=M (.fz (.bool (decide (a∈l)))):=by show(if(lO (mD a)&&V3.canLayAll0 (l.map mD))=P then _ else _)=_;rw[FU c,Av b,Yj,ax W,Aw]
def Br(e:α->D)(g:α->z D)(I:aU->Prop)(xs:G α)(p:I d)(i:xs.length<=1000)(b:∀x∈xs,∀d,I d->∃c,kz gt C J (e x) d=.ok (g x,c)/\I c):jN (c9 gt C J (xs.map e) d [])=.ok (xs.filterMap g):=by
 let h:∀(xs:G α) (a:G D) (d:aU),I d->a.length+xs.length<=1000->(∀x∈xs,∀d,I d->∃c,kz gt C J (e x) d=.ok (g x,c)/\I c)->c9 gt C J (xs.map e) d a=.ok (a++xs.filterMap g):=by
  intro xs
  induction xs with
  |nil=>intro a d _ _ _;show Res.ok a=_;simp_all
  |cons x r j=>
   intro a d m i b;rw[Wi]at i;let(c,o,n):=b x Wk d m;rw[Wl,qL o ()];let f:(a++(g x).toList).length+r.length<=1000:=by
    rw[V8];cases g x with
    |none=>rw[ac8,Yi];ext
    |some y=>rw[Option.toList_some,Z5];ext
   rw[j _ c n f λy l=>b y (Wf _ l),Wy];cases q:g x with
   |none=>rw[ab1 q];rfl
   |some y=>rw[ab2 q];rfl
 rw[h xs [] d p (by simpa using i) b];rfl
def BN(a:cY o=o):cY (M (PV.fz d)::o)=M (.fz d)::o:=by show Hd _::cY o=_;rw[a];rfl
def vn{α:Type}{d:FT}{k:FE}{c:aU}(e f:α->D)(p:α->Bool)(xs:G α)(i:xs.length<=1000)(l:cY c=c)(g:∀x∈xs,d (M (.fz (e x))::c)=.ok (p x,M (.fz (e x))::c))(j:∀x∈xs,p x=P->k (M (.fz (e x))::c)=.ok (.fz (f x),M (.fz (e x))::c)):jN (c9 (gN 0) d k (xs.map e) (R::c) [])=.ok ((xs.filter p).map f):=by
 rw[Br e (λx=>if p x=P then M (f x)else R) (λm=>∃o,m=o::c) xs #[R,W] i ?_]
 .congr 1
  clear i g j
  induction xs with
  |nil=>rfl
  |cons x r h=>
   cases q:p x with
   |true=>rw[ab2 (b:=f x) (by rw[ax q]),List.filter_cons_of_pos q,h];rfl
   |false=>rw[ab1 (by rw[aE (by rw[q];simp)]),List.filter_cons_of_neg (by rw[q];simp),h]
 .rintro x a m ⟨o,rfl⟩
  cases q:p x with
  |true=>show#[_,K4 W ((g x a).trans (by rw[q])) (j x a q) W (BN l),_,W]
  |false=>show#[_,Te W ((g x a).trans (by rw[q])) (BN l),_,W]
theorem yC(xs:G α):xs.filter (λ_=>P)=xs:=List.filter_eq_self.mpr λ_ _=>W
def fX{α:Type}(e f:α->D)(xs:G α)(b:xs.length<=1000)(h:cY cp=cp)(g:∀x∈xs,fe (M (.fz (e x))::cp)=.ok (.fz (f x),M (.fz (e x))::cp)):jN (c9 (gN 0) b9 fe (xs.map e) (R::cp) [])=.ok (xs.map f):=by rw[vn e f (λ_=>P) xs b h (λ_ _=>W) λx a _=>g x a,yC]
theorem jU(p:α->Bool):∀l:G α,pf (l.map λc=>V3.bool (p c))=M (l.map p)
 |[]=>rfl
 |c::r=>by show(pf (r.map λc=>V3.bool (p c))).map (p c::·)=_;rw[jU p r];rfl
def kA(p:α->Bool)(l:G α):pM [.list (l.map λc=>V3.bool (p c))]=M (.fz (.bool (l.all p))):=by show(pf _).map (λbs=>RV.fz (.bool (bs.all id)))=_;rw[jU];simp_all
theorem g7:∀ns:G Int,jR (ns.map V3.int)=M ns
 |[]=>rfl
 |n::r=>by show(jR (r.map V3.int)).map (n::·)=_;rw[g7 r];rfl
abbrev Ac:=Nat->z Mn
abbrev Wq:=z (G Nat×Int×z (Nat×Int))
structure Ys where
 ac:Ac
 wt:Wq
 oc:z Int
def gO(ac:Ac):G (Nat×Mn):=(V6 5).filterMap λk=>(ac k).map λa=>(k,a)
def pD(p:Nat×Mn):D:=.tuple [nd p.1,mD p.2]
def sO:z (Nat×Int)->D
 |some (c,n)=>mD (.tap c n)
 |none=>.tuple [.str "chord"]
def jG:Wq->D
 |some (b,a,w)=>.tuple [.tuple (bh b),.int a,sO w]
 |none=>.none
def sV:z Int->D
 |some o=>.int o
 |none=>.none
def dH(s:Ys):D:=.tuple [.tuple ((gO s.ac).map pD),jG s.wt,sV s.oc]
inductive ZM where
 |down (k:Nat)
 |up (k:Nat)
 |turn
def fC:ZM->D
 |.down k=>.tuple [.str "down",nd k]
 |.up k=>.tuple [.str "up",nd k]
 |.turn=>.tuple [.str "turn",.int 0]
def kQ:p∈gO ac↔p.1<5/\ac p.1=M p.2:=by
 ext gO;rw[Zg];constructor
 .rintro⟨k,e,b⟩
  cases q:ac k with
  |none=>simp_all
  |some a=>rw[q]at b;ext b;show#[WX.mp e,q]
 .rintro⟨e,b⟩;show#[p.1,WX.mpr e,by rw[b];rfl]
theorem vd(ac:Ac):(gO ac).length<=5:=List.length_filterMap_le _ _
def OL:Nat×Mn->z Int
 |(_,.Yq n)=>M n
 |_=>R
def w6(ac:Ac):Int:=(((gO ac).filterMap OL).foldl lC R).getD 0
def pE(ac:Ac):z Int->Int
 |some o=>o
 |none=>w6 ac
def F8(ac:Ac):jN (c9 (gT 2 (Pz (gN 0) (Pz (gN 1) RD))) (az (aF cP (aF aX (aa 1) (~~~0)) (pC (.str "layer")))) (aF aX (aa 1) (~~~1)) ((gO ac).map pD) [R,R] [])=.ok (((gO ac).filterMap OL).map .int):=by
 rw[Br pD (λp=>(OL p).map .int) (λg=>∃e b,g=[e,b]) (gO ac) #[R,R,W] (WU (vd ac) ()) ?_,List.map_filterMap];rintro⟨k,a⟩ _ g ⟨e,b,rfl⟩;let e1:=tf a;let e2:=E6 a;let f:az (aF cP (aF aX (aa 1) (~~~0)) (pC (.str "layer"))) [M (.fz (nd k)),M (.fz (mD a))]=.ok (a.adm,[M (.fz (nd k)),M (.fz (mD a))]):=by ext:0
 show#[[M (.fz (nd k)),M (.fz (mD a))],?_,_,_,W];cases a with
 |Yq n=>show K4 W f (aB (ag W) aD W W jO) W W
 |_=>show Te W f W
def yn(s:Ys):dQ [dH s]=.ok (.fz (.int (pE s.ac s.oc))):=by
 show g8 W ?_;let e2:aX (dH s) (.int 2)=M (.fz (sV s.oc)):=rh;let e0:aX (dH s) (.int 0)=M (.fz (.tuple ((gO s.ac).map pD))):=i7;ext im;cases q:s.oc with
 |some o=>
  rw[q]at e2;let e3:pI (sV (M o)) .none=M (.fz (.bool P)):=W;ext:1
  .intro _;show iX (by ext:0) W W
  .intro h;ext h
 |none=>
  rw[q]at e2;let e3:pI (sV R) .none=M (.fz (.bool I)):=W;ext:1
  .intro h;ext h
  .intro _;show di (fJ (bU (rv:=.fz (.int (w6 s.ac))) (aj (dn (by ext:0) W (F8 s.ac)) ay) W ?_) W W);show(jR _).map _=_;rw[g7];rfl
def sS(b:Bd)(L k:Nat):Mn:=((b.ls[L]?.getD [])[k]?).getD .none
def look(b:Bd)(L:Int)(k:Nat):Mn:=if(sS b L.toNat k).isB=P then sS b 0 k else sS b L.toNat k
section
variable{b:Bd}(Z:VB b)
include Z
def N4{L k:Nat}(a:L<b.ls.length)(e:(k:Int)<b.n):∃l,b.ls[L]?=M l/\l[k]?=M (sS b L k):=by
 let g:=Z.vl L _ (V9 a);let f:k<(b.ls[L]).length:=by ext
 show#[_,V9 a,?_];ext sS;simp_all
def y1{L k:Nat}(e:L<b.ls.length)(a:(k:Int)<b.n):VM L b.ls.length (sS b L k):=by let(l,g,f):=N4 Z e a;show(Z.vl L l g).2 _ (WG f)
def Es{L k:Nat}(e:L<b.ls.length)(a:(k:Int)<b.n):∃d,aX (.tuple (b.ls.map jT)) (nd L)=M (.fz d)/\aX d (nd k)=M (.fz (mD (sS b L k))):=by let(l,f,g):=N4 Z e a;show#[jT l,M6 (by rw[Wg,f];rfl),M6 (by simp_all)]
def Jq{L:Int}{k:Nat}(i:0<=L)(h:L<b.ls.length)(e:(k:Int)<b.n):iO [bD b,.int L,nd k]=.ok (.fz (mD (look b L k))):=by
 obtain⟨n,rfl⟩:∃n:Nat,L=(n:Int):=#[L.toNat,by ext];let g:=Z.l1;let(d,e2,e3):=Es Z (L:=n) () e;let(f,e4,e5):=Es Z (L:=0) () e;let e1:aX (bD b) (.int 1)=M (.fz (.tuple (b.ls.map jT))):=jO;let e6:=tf (sS b n k);let e7:=GN (sS b n k);let e8:aX (.tuple (b.ls.map jT)) (.int 0)=M (.fz f):=e4;let a:look b (n:Int) k=if(sS b n k).isB=P then sS b 0 k else sS b n k:=W
 rw[a];generalize sS b n k=m at e3 e6 e7 a;generalize sS b 0 k=m0 at e5 a;show g8 W ?_;ext gc;ext:1
 .intro q;rw[ax q];show iX (by ext:0) W W
 .intro q;rw[aE (by rw[q];simp)];show di (fJ (by ext:0) W W)
def vo{L:Int}{k:Nat}(g:0<=L)(i:L<b.ls.length)(f:(k:Int)<b.n):VM L b.ls.length (look b L k)/\look b L k≠.below:=by
 let h:=Z.l1;let a:=y1 Z (L:=0) (k:=k) () f;let v:=y1 Z (L:=L.toNat) (k:=k) () f;let e:sS b 0 k≠.below:=λz=>by rw[z]at a;show a W
 rw[aaw g]at v;ext look;split
 .show#[?_,e]
  generalize sS b 0 k=m at a e;cases m with
  |below=>show a7 W e
  |_=>show a
 .rename_i q;show#[v,λz=>?_];rw[z]at q;show q W
omit Z in
theorem HF(ks:bg Nat)(a:ks.length<=5)(c:bg Nat×Nat):az (dU pM {cQ 1 [0] (dZ (aa 1)) (gN 0) b9 (aF IK (aa 0) (aF aX (aa 1) (~~~0)))}) [cL (.fz (XO c)),cL (.fz (.tuple (bh ks)))]=.ok (ks.all λk=>decide (k∈c.1),[cL (.fz (XO c)),cL (.fz (.tuple (bh ks)))]):=by
 have e:jN (c9 (gN 0) b9 (aF IK (aa 0) (aF aX (aa 1) (~~~0))) (bh ks) [VY,cL (.fz (XO c))] [])=.ok (ks.map λk=>.bool (decide (k∈c.1))):=fX nd (λk=>.bool (decide (k∈c.1))) ks (by ext) rfl λk _=>by have e0:aX (XO c) (.int 0)=cL (.fz (.tuple (bh c.1))):=i7;exact aB (rv:=.fz (.bool (decide (k∈c.1)))) (ag rfl) (by ext:0) rfl rfl (wj _ _)
 exact aN (bU (rv:=.fz (.bool (ks.all λk=>decide (k∈c.1)))) (ds:=[.list (ks.map λk=>.bool (decide (k∈c.1)))]) (aj (dn (cs:=[XO c]) (ds:=bh ks) (by ext:0) rfl e) ay) rfl (kA _ _)) rfl
def eT(b:Bd)(a:G Nat):G (G Nat×Nat):=b.cs.filter λc=>a.all λk=>decide (k∈c.1)
def Bz(a:o.length<=5):bx [bD b,.tuple (bh o)]=.ok (.ow ((eT b o).map XO)):=by let e2:aX (bD b) (.int 2)=M (.fz (.tuple (b.cs.map XO))):=rh;let e:=Z.c4;show g8 W ?_;ext d9;show fJ (dn (cs:=[.tuple (bh o)]) (by ext:0) W (vn XO XO (λc=>o.all λk=>decide (k∈c.1)) b.cs () W (λc _=>HF o a c) λc _ _=>ag W)) W W
def pK(a:G Nat):G Nat:=(jX (a.map aa5)).map acw
omit Z in
theorem qM(ks:bg Nat):(pK ks).Perm ks:=by have h:=(eD (ks.map aa5)).map acw;rw[WB]at h;exact h.trans (by rw[show(acw∘aa5)=id from funext λx=>rfl,List.map_id])
omit Z in
theorem LW(ks:bg Nat):(jX (ks.map aa5)).map V3.int=bh (pK ks):=by unfold pK bh;rw[WB];refine Xx λx a=>?_;obtain⟨n,_,rfl⟩:=WH.mp ((eD _).mem_iff.mp a);rfl
omit Z in
theorem zy(ks:bg Nat):(pK ks).Pairwise (·<=·):=by
 have h:∀l:bg Int,l.Pairwise (·<=·)->(l.map acw).Pairwise (·<=·):=λl h=>by rw[Zr];exact h.imp λh=>by ext
 exact h _ (dY _)
omit Z in
theorem Kb(ks:bg Nat):(pK ks).length=ks.length:=(qM ks).length_eq
omit Z in
theorem xM{ks:bg Nat}(h:ks.length<64):L9.fP [.tuple (bh ks)]=cL (.ow (bh (pK ks))):=by
 have e:bh ks=(ks.map aa5).map V3.int:=by rw[WB];rfl
 show(match jR (bh ks)with
  |some a=>if a.length<64 then cL (RV.ow ((jX a).map .int))else VY
  |none=>VY)=_
 rw[e,g7];dsimp only;rw[ax (by rw[V1];exact h),LW]
def Sd(b:Bd)(a:G Nat):G Mn:=match b.cs.find? λc=>decide (c.1=pK a)with
 |some c=>.WW c.2::Wd (a.length - 1) .none
 |none=>a.map (sS b 0)
omit Z in
omit Z in
theorem RN(n:Nat)(d:D):(Wd n [d]).flatten=Wd n d:=by
 induction n with
 |zero=>rfl
 |succ n a=>rw[Xl,X5,a];rfl
def PP{n:bg Nat}(G:1<=n.length)(F:n.length<=5)(B:∀k∈n,(k:Int)<b.n):eZ [bD b,.tuple (bh n)]=.ok (.ow ((Sd b n).map mD)):=by
 let e2:aX (bD b) (.int 2)=M (.fz (.tuple (b.cs.map XO))):=rh;let e1:aX (bD b) (.int 1)=M (.fz (.tuple (b.ls.map jT))):=jO;let E:=Z.l1;let i:=xM (ks:=n) ();show g8 W ?_;ext fA;let rt:∀c:bg Nat×Nat,(aF c7 (cx {b7 {pC (.str "letter"),aF aX (aa 2) (~~~1)}}) (aF gL (cx {pC (.tuple [(.str "none")])}) (aF rM (dU br {aa 1}) (~~~1)))) [M (.fz (bD b)),M (.fz (.tuple (bh n))),M (.fz (XO c))]=.ok (.ow ((Mn.WW c.2::Wd (n.length - 1) Mn.none).map mD),[M (.fz (bD b)),M (.fz (.tuple (bh n))),M (.fz (XO c))]):=λc=>by
  let l:aX (XO c) (.int 1)=M (.fz (.str (jh c.2))):=jO;let j:gL (.list [.tuple [.str "none"]]) (.int (((bh n).length:Int) - 1))=M (.ow (Wd (n.length - 1) (.tuple [.str "none"]))):=by rw[gH,show((n.length:Int) - 1)=((n.length - 1:Nat):Int) by ext];show(Px () ()).trans (by rw[RN])
  let y:c7 (.list [mD (.WW c.2)]) (.list (Wd (n.length - 1) (.tuple [.str "none"])))=M (.ow ((Mn.WW c.2::Wd (n.length - 1) Mn.none).map mD)):=by show(if 1+(Wd (n.length - 1) (V3.tuple [.str "none"])).length<=1000000 then M (RV.ow ([mD (.WW c.2)]++Wd (n.length - 1) (V3.tuple [.str "none"])))else R)=_;rw[Xt,ax (),Wl,List.map_replicate];rfl
  show aB (by ext:0) (aB (by ext:0) (aB (by ext:0) aD W W (qp _ _)) W W j) W W y
 let f:∀(e:bg (bg Nat×Nat)) (o:b3 PV),(∀c,e.find? (λc=>decide (c.1=pK n))=M c->pw (gN 2) (jD (az (aF cP (dU sW {aF aX (aa 2) (~~~0)}) (dU L9.fP {aa 1}))) (cR (aF c7 (cx {b7 {pC (.str "letter"),aF aX (aa 2) (~~~1)}}) (aF gL (cx {pC (.tuple [(.str "none")])}) (aF rM (dU br {aa 1}) (~~~1))))) cC) (e.map XO) [M (.fz (bD b)),M (.fz (.tuple (bh n))),o]=.ok (.rt (.ow ((Mn.WW c.2::Wd (n.length - 1) Mn.none).map mD))))/\
   (e.find? (λc=>decide (c.1=pK n))=R->∃u,pw (gN 2) (jD (az (aF cP (dU sW {aF aX (aa 2) (~~~0)}) (dU L9.fP {aa 1}))) (cR (aF c7 (cx {b7 {pC (.str "letter"),aF aX (aa 2) (~~~1)}}) (aF gL (cx {pC (.tuple [(.str "none")])}) (aF rM (dU br {aa 1}) (~~~1))))) cC) (e.map XO) [M (.fz (bD b)),M (.fz (.tuple (bh n))),o]=.ok (.nx [M (.fz (bD b)),M (.fz (.tuple (bh n))),u])):=by
  intro e
  induction e with
  |nil=>show λo=>#[λc h=>(by ext h),λ_=>#[o,W]]
  |cons c r A=>
   intro o;let C:aX (XO c) (.int 0)=M (.fz (.tuple (bh c.1))):=i7
   let a:az (aF cP (dU sW {aF aX (aa 2) (~~~0)}) (dU L9.fP {aa 1})) [M (.fz (bD b)),M (.fz (.tuple (bh n))),M (.fz (XO c))]=.ok (decide (c.1=pK n),[M (.fz (bD b)),M (.fz (.tuple (bh n))),M (.fz (XO c))]):=
    aN (aB (bU (by ext:0) W W) (bU (by ext:0) W i) W W (vK _ _)) W
   rw[WZ];by_cases h:c.1=pK n
   .rw[a4 h]at a⊢;show#[λH t=>?_,λt=>(by ext t)];ext t;show((gN 2 (.fz (XO c)) [M (.fz (bD b)),M (.fz (.tuple (bh n))),o]).bind λg=>_)=_;rw[DR,ej];show((jD _ _ _ [M (.fz (bD b)),M (.fz (.tuple (bh n))),M (.fz (XO c))]).bind _)=_;rw[UE a,n6 (rt c) W];rfl
   .rw[a5 h]at a⊢
    let w:pw (gN 2) (jD (az (aF cP (dU sW {aF aX (aa 2) (~~~0)}) (dU L9.fP {aa 1}))) (cR (aF c7 (cx {b7 {pC (.str "letter"),aF aX (aa 2) (~~~1)}}) (aF gL (cx {pC (.tuple [(.str "none")])}) (aF rM (dU br {aa 1}) (~~~1))))) cC) ((c::r).map XO) [M (.fz (bD b)),M (.fz (.tuple (bh n))),o]=pw (gN 2) (jD (az (aF cP (dU sW {aF aX (aa 2) (~~~0)}) (dU L9.fP {aa 1}))) (cR (aF c7 (cx {b7 {pC (.str "letter"),aF aX (aa 2) (~~~1)}}) (aF gL (cx {pC (.tuple [(.str "none")])}) (aF rM (dU br {aa 1}) (~~~1))))) cC) (r.map XO) [M (.fz (bD b)),M (.fz (.tuple (bh n))),M (.fz (XO c))]:=by show((gN 2 (.fz (XO c)) [M (.fz (bD b)),M (.fz (.tuple (bh n))),o]).bind λg=>_)=_;rw[DR,ej];show((jD _ _ _ [M (.fz (bD b)),M (.fz (.tuple (bh n))),M (.fz (XO c))]).bind _)=_;rw[Sv a];rfl
    rw[w];show A _
 let(z,m):=f b.cs R;let v:dZ (aF aX (aa 0) (~~~2)) [M (.fz (bD b)),M (.fz (.tuple (bh n))),R]=.ok (b.cs.map XO,[M (.fz (bD b)),M (.fz (.tuple (bh n))),R]):=by ext:0
 ext Sd;cases q:b.cs.find? λc=>decide (c.1=pK n)with
 |some c=>show .eq (FW ((zq v).trans (z c q))) #[W]
 |none=>let(u,m):=m q;show .eq (DP ((zq v).trans m)) ?_;show fJ (dn (by ext:0) W ?_) W W;rw[WB];show fX nd (mD∘sS b 0) n () W λk p=>?_;let(d,l,j):=Es Z (L:=0) () (B k p);let l:aX (.tuple (b.ls.map jT)) (.int 0)=M (.fz d):=l;show aB (by ext:0) (ag W) W W j
end
end STP
local macro_rules|`(-($x))=>`(Option.some (.fz $x))
namespace STP
open PySem L2 L3
open L10
def jS(p:Nat×Mn):cw×SV:=(.inl (p.1:Int),.fz (mD p.2))
def lK(ac:Ac)(k:Nat)(o:z Mn):Ac:=λj=>if j=k then o else ac j
def ez:lK ac k o k=o:=by ext lK;simp_all
def gr(h:j≠k):lK ac k o j=ac j:=by ext lK;rw[aE h]
def HH(ac:Ac):(gO ac).Pairwise λp q=>p.1<q.1:=by
 ext gO;show agM _ (λa g h p f q b=>?_) (acx);cases e:ac a with
 |none=>simp_all
 |some x=>
  cases i:ac g with
  |none=>simp_all
  |some y=>rw[e]at f;rw[i]at b;ext f;ext b;show h
def qH(ac:Ac):((gO ac).map (·.1)).Nodup:=by rw[ahK,Zr];show(HH ac).imp λh=>Wz h
def BE{l:G (Nat×Mn)}(h:(l.map (·.1)).Nodup):l.Nodup:=by rw[ahK,Zr]at h;show h.imp λh e=>h (by rw[e])
theorem sf{l:G (Nat×Mn)}(h:(l.map (·.1)).Nodup)(hm:∀p,p∈l↔p.1<5/\ac p.1=M p.2):l.Perm (gO ac):=
 (List.perm_ext_iff_of_nodup (BE h) (BE (qH ac))).mpr λp=>(hm p).trans kQ.symm
section
variable{Y:bg (Nat×Mn)}{X:Ac}(Z:Y.Perm (gO X))
include Z
theorem kG:p∈Y↔p.1<5/\X p.1=M p.2:=Z.mem_iff.trans kQ
theorem Ez:(Y.map (·.1)).Nodup:=(Z.map (·.1)).nodup_iff.mpr (qH X)
def EG:Y.length<=5:=by rw[Z.length_eq];show vd X
def nw{k:Nat}(f:k<5):jn (Y.map jS) (.inl (k:Int))=(X k).map λa=>SV.fz (mD a):=by
 ext jn;cases q:(Y.map jS).find? λb=>decide (b.1=(.inl (k:Int):cw))with
 |none=>
  cases e:X k with
  |none=>rfl
  |some a=>let:=List.find?_eq_none.mp q (jS (k,a)) (WH.mpr #[(k,a),(kG Z).mpr #[f,e],W]);show a7 (a4 W) this
 |some b=>
  let(p,i,rfl):=WH.mp (abH q);let h:=a6 (List.find?_some (p:=λb:cw×SV=>decide (b.1=(.inl (k:Int):cw))) q);let g:p.1=k:=by let:=Sum.inl.inj h;ext
  rw[<-g,((kG Z).mp i).2];rfl
def Kk{k:Nat}(o:k<5):∃c:G (Nat×Mn),jF (Y.map jS) (.inl (k:Int)) (.fz (mD a))=c.map jS/\c.Perm (gO (lK X k (M a))):=by
 ext jF;let i:∀p:Nat×Mn,((jS p).1=(.inl (k:Int):cw))↔p.1=k:=λp=>#[λh=>by let:=Sum.inl.inj h;ext,λh=>by rw[<-h];rfl];split
 .rename_i h
  show#[Y.map λp=>if p.1=k then(k,a)else p,?_,sf ?_ λp=>?_]
  .rw[WB,WB]
   show Xx λp _=>?_;show(if(jS p).1=(.inl (k:Int):cw)then((jS p).1,SV.fz (mD a))else jS p)=jS (if p.1=k then(k,a)else p);by_cases e:p.1=k
   .rw[ax ((i p).mpr e),ax e,(i p).mpr e];rfl
   simp_all
  .rw[WB,show Y.map ((·.1)∘λp:Nat×Mn=>if p.1=k then(k,a)else p)=Y.map (·.1)from Xx λp _=>by
    show(if p.1=k then(k,a)else p).1=p.1;split
    .rename_i e;show e.symm
    .rfl]
   show Ez Z
  .let(w,l,j):=aa0.mp h
   let(n,v,rfl):=WH.mp l;let b:=(i n).mp (a6 j);rw[WH];constructor
   .rintro⟨r,u,rfl⟩
    split
    .show#[o,ez]
    .rename_i e;let:=(kG Z).mp u;show#[this.1,by rw[gr e];show this.2]
   .rintro⟨f,g⟩
    by_cases e:p.1=k
    .rw[e,ez]at g;show#[n,v,?_];rw[ax b,<-e,Wm g]
    .rw[gr e]at g;show#[p,(kG Z).mpr #[f,g],by rw[aE e]]
 .rename_i h
  let A:=λp m e=>h (aa0.mpr #[jS p,WH.mpr #[p,m,W],a4 ((i p).mpr e)]);show#[Y++[(k,a)],by rw[Wu];rfl,sf ?_ λp=>?_]
  .rw[Wu,YO];show#[Ez Z,XI.mpr #[XB,aae],λx t y q=>?_];let(p,b,rfl):=WH.mp t;rw[WI.mp q];show A p b
  .rw[W7,WI]
   constructor
   .rintro(b|rfl)
    .let:=(kG Z).mp b;show#[this.1,by rw[gr (A p b)];show this.2]
    .show#[o,ez]
   .rintro⟨b,f⟩
    by_cases e:p.1=k
    .rw[e,ez]at f;show .inr (by rw[<-e,Wm f])
    .rw[gr e]at f;show .inl ((kG Z).mpr #[b,f])
def GR{k:Nat}:∃c:G (Nat×Mn),mB (Y.map jS) (.inl (k:Int))=c.map jS/\c.Perm (gO (lK X k R)):=by
 let g:∀p:Nat×Mn,((jS p).1=(.inl (k:Int):cw))↔p.1=k:=λp=>#[λh=>by let:=Sum.inl.inj h;ext,λh=>by rw[<-h];rfl];show#[Y.filter λp=>decide (p.1≠k),?_,sf ?_ λp=>?_]
 .ext mB;rw[List.filter_map];congr 1;show List.filter_congr λp _=>?_;show decide_eq_decide.mpr (not_congr (g p))
 .show ak5 ((List.filter_sublist).map _) (Ez Z)
 .rw[X3,kG Z,decide_eq_true_eq]
  constructor
  .rintro⟨⟨b,a⟩,f⟩;show#[b,by rw[gr f];show a]
  .rintro⟨b,a⟩
   by_cases e:p.1=k
   .rw[e,ez]at a;ext a
   .rw[gr e]at a;show#[#[b,a],e]
def Ie:aA yr ((Y.map jS).map (·.1))=M (Y.map λp=>(p.1:Int)):=by
 clear Z
 induction Y with
 |nil=>rfl
 |cons p r a=>rw[Wl,Wl];ext aA;rw[a];rfl
def Gq:jX (Y.map λp=>(p.1:Int))=(gO X).map λp=>(p.1:Int):=by show kT ((eD _).trans (Z.map _)) (dY _) ?_;rw[Zr];show(HH X).imp λh=>by ext
end
abbrev Sn:=G (Nat×Bool)
def nu(ac:Ac)(a:Mn):Bool:=decide (a∈(gO ac).map (·.2))
def sD(ac:Ac):Mn->Sn
 |.WW c=>if nu ac (.WW c)=P then[]else[(c,P)]
 |_=>[]
def Qm(ac:Ac):Mn->Sn
 |.WW c=>if nu ac (.WW c)=P then[]else[(c,I)]
 |_=>[]
def gw(p:Ys×Sn)(k:Nat)(a:Mn):Ys×Sn:=({p.1 with ac:=lK p.1.ac k (M a)},p.2++sD p.1.ac a)
def go(p:Ys×Sn)(k:Nat):Ys×Sn:=match p.1.ac k with
 |some a=>({p.1 with ac:=lK p.1.ac k R},p.2++Qm (lK p.1.ac k R) a)
 |none=>p
def ki(p:Ys×Sn)(a:G (Nat×Mn)):Ys×Sn:=a.foldl (λp q=>gw p q.1 q.2) p
def iV(b:Bd)(a:G Nat):z (Nat×Int)->G Mn
 |some (_,n)=>[.Yq n]
 |none=>Sd b a
def dc(b:Bd)(p:Ys×Sn):Ys×Sn:=match p.1.wt with
 |none=>p
 |some (a,_,w)=>ki ({p.1 with wt:=R},p.2) (a.zip (iV b a w))
def ES:Wq->Nat->Bool
 |some (a,_,_),k=>decide (k∈a)
 |none,_=>I
def DT(b:Bd)(s:Ys)(k:Nat):Bool:=match s.wt with
 |some (a,_,R)=>decide (pE s.ac s.oc=0)&& !(eT b (a++[k])).isEmpty
 |_=>I
def u0(b:Bd)(p:Ys×Sn)(k:Nat):Ys×Sn:=match p.1.wt with
 |some (a,g,_)=>if(eT b (a++[k])).map (·.1.length)=[(a++[k]).length]then dc b ({p.1 with wt:=M (a++[k],g,R)},p.2)else({p.1 with wt:=M (a++[k],g,R)},p.2)
 |none=>p
def gl(s:Ys)(m:Mn):Ys:=if(m.adm||m.isO)=P then s else{s with oc:=R}
def wE(b:Bd)(L:Int)(p:Ys×Sn)(k:Nat):Mn->Ys×Sn
 |.tap c n=>({p.1 with wt:=M ([k],0,M (c,n))},p.2)
 |.WW c=>if(decide (L=0)&& !(eT b [k]).isEmpty)=P then({p.1 with wt:=M ([k],0,R)},p.2)else gw p k (.WW c)
 |.once n=>({(gw p k .none).1 with oc:=M n},(gw p k .none).2)
 |m=>gw p k m
def IM(b:Bd)(p:Ys×Sn)(k:Nat):Ys×Sn:=
 wE b (pE p.1.ac p.1.oc) (gl p.1 (look b (pE p.1.ac p.1.oc) k),p.2) k (look b (pE p.1.ac p.1.oc) k)
def mF(b:Bd)(p:Ys×Sn)(k:Nat):Ys×Sn:=
 if((p.1.ac k).isSome||ES p.1.wt k)=P then p else if DT b p.1 k=P then u0 b p k else IM b (dc b p) k
def cy(b:Bd)(p:Ys×Sn)(k:Nat):Ys×Sn:=match p.1.wt with
 |some (_,_,R)=>dc b p
 |some (_,_,M (c,_))=>gw ({p.1 with wt:=R},p.2) k (.WW c)
 |none=>p
def xG(b:Bd)(p:Ys×Sn)(k:Nat):Ys×Sn:=go (if ES p.1.wt k=P then cy b p k else p) k
def lQ(b:Bd)(p:Ys×Sn):Ys×Sn:=match p.1.wt with
 |none=>p
 |some (a,g,w)=>if g+1=b.wt then dc b ({p.1 with wt:=M (a,g+1,w)},p.2)else({p.1 with wt:=M (a,g+1,w)},p.2)
def aH(b:Bd)(s:Ys):ZM->Ys×Sn
 |.down k=>mF b (s,[]) k
 |.up k=>xG b (s,[]) k
 |.turn=>lQ b (s,[])
def Mw(b:Bd)(s:Ys):G (Str×SV):=[("bed",.fz (bD b)),("acts",.rf 1),("waiting",.fz (jG s.wt)),("once",.fz (sV s.oc)),("sent",.rf 2)]
def ir(p:Nat×Bool):D:=.tuple [.str (jh p.1),.str (if p.2=P then "down" else "up")]
def cV(b:Bd)(s:Ys)(sn:Sn)(a:G (Nat×Mn))(J:aP):aP:=.obj "Hand" (Mw b s):: .dct (a.map jS):: .lst ((sn.map ir).map .fz)::J
def HS(b:Bd)(p:Ys×Sn)(c:aP):Prop:=∃a J,a.Perm (gO p.1.ac)/\c=cV b p.1 p.2 a J
section
variable{b:Bd}{s:Ys}{sn:Sn}{Y:bg (Nat×Mn)}{J:aP}{ρ:aW}{i:Nat}{X:aP}{p:Ys×Sn}{k:Nat}{a:Mn}
def OI:(Mw b s).lookup ("bed":Str)=-(bD b):=by rfl
def Kl:(Mw b s).lookup ("acts":Str)=M (.rf 1):=by rfl
def MG:(Mw b s).lookup ("waiting":Str)=-(jG s.wt):=by rfl
def J0:(Mw b s).lookup ("once":Str)=-(sV s.oc):=by rfl
def KP:(Mw b s).lookup ("sent":Str)=M (.rf 2):=by rfl
def Ur(m:Str):Bool:=(m== "bed"||m== "acts"||m== "waiting"||m== "once"||m== "sent")==I
def RM(h:Ur m=P):(Mw b s).lookup m=R:=by unfold Ur at h;simp only[beq_iff_eq,ada]at h;let((((l,j),g),f),e):=h;ext Mw;simp_all
theorem om(h:ρ[i]?=M (M (.rf 0))):aJ "Hand" "bed" (am i) ρ (cV b s sn Y J)=.ok (.fz (bD b)) (cV b s sn Y J):=dr (aQ h) W OI
theorem gB(h:ρ[i]?=M (M (.rf 0))):aJ "Hand" "acts" (am i) ρ (cV b s sn Y J)=.ok (.rf 1) (cV b s sn Y J):=dr (aQ h) W Kl
theorem bv(h:ρ[i]?=M (M (.rf 0))):aJ "Hand" "waiting" (am i) ρ (cV b s sn Y J)=.ok (.fz (jG s.wt)) (cV b s sn Y J):=dr (aQ h) W MG
theorem BF(h:ρ[i]?=M (M (.rf 0))):aJ "Hand" "once" (am i) ρ (cV b s sn Y J)=.ok (.fz (sV s.oc)) (cV b s sn Y J):=dr (aQ h) W J0
theorem vq(h:ρ[i]?=M (M (.rf 0))):aJ "Hand" "sent" (am i) ρ (cV b s sn Y J)=.ok (.rf 2) (cV b s sn Y J):=dr (aQ h) W KP
theorem kN(w:Wq)(h:ρ[i]?=M (M (.rf 0)))(e:o ρ X=.ok (.fz (jG w)) (cV b s sn Y J)):dM "Hand" "waiting" (am i) o ρ X=.ok (.nx ρ) (cV b {s with wt:=w} sn Y J):=
 (jx e (aQ h) W (by show Wc W)).trans (by rfl)
theorem BT(o:z Int)(h:ρ[i]?=M (M (.rf 0)))(e:C ρ X=.ok (.fz (sV o)) (cV b s sn Y J)):dM "Hand" "once" (am i) C ρ X=.ok (.nx ρ) (cV b {s with oc:=o} sn Y J):=
 (jx e (aQ h) W (by show Wc W)).trans (by rfl)
def bz(e:HS b p X)(hm:Ur m=P)(h:ρ[i]?=M (M (.rf 0)))(d:fa ρ X=.ok xs X)(c:(SV.rf 0::xs).length=n)(f:F (.rf 0::xs) X=.ok x o):aL "Hand" m F n (am i) fa ρ X=.ok x o:=by let(Y,J,g,rfl):=e;show AJ (aQ h) W (RM hm) d c f
def DW(Y:G (Nat×Mn)):(Y.map jS).map (·.2)=((Y.map (·.2)).map mD).map SV.fz:=by rw[WB,WB,WB];rfl
def AK(ac:Ac):Prop:=∀k a,ac k=M a->k<5/\LB a
def HZ(f:HS b p X)(g:AK p.1.ac)(d:LB a):∃c,bC [.rf 0,.fz (mD a)] X=.ok (.fz (.bool (nu p.1.ac a))) c/\HS b p c:=by
 let(Y,J,e,rfl):=f;let e1:nu p.1.ac a=decide (a∈Y.map (·.2)):=decide_eq_decide.mpr (e.map (·.2)).symm.mem_iff;let lb:∀m∈Y.map (·.2),LB m:=λm hm=>by let(q,h,rfl):=WH.mp hm;show(g _ _ ((kG e).mp h).2).2
 show#[cV b p.1 p.2 Y (J++[.lst ((Y.map jS).map (·.2))]),?_,Y,_,e,W];rw[e1];show hJ W (gq (cZ (ah (ag W)) (Kx (gB W) W) (vh W (df (by rw[DW];show aK)) (JP d lb))))
theorem Bf(f:sn.length<1000)(h:ρ[i]?=M (M (.rf 0)))(e:o ρ (cV b s sn Y J)=.ok (.fz (ir (c,d))) (cV b s sn Y J)):jB (aJ "Hand" "sent" (am i)) o ρ (cV b s sn Y J)=.ok (.fz .none) (cV b s (sn++[(c,d)]) Y J):=
 (vL (vq h) W e W (by rw[V1,V1];ext)).trans (by ext cV;rw[Wu,Wu];rfl)
def rR(e:Y.Perm (gO s.ac))(h:k<5)(o:ρ[0]?=M (M (.rf 0)))(n:ρ[1]?=M (-(nd k)))(m:ρ[2]?=M (-(mD a))):∃c:G (Nat×Mn),c.Perm (gO (lK s.ac k (M a)))/\ud (aJ "Hand" "acts" (am 0)) (af (aa 1)) (af (aa 2)) ρ (cV b s sn Y J)=.ok (.nx ρ) (cV b {s with ac:=lK s.ac k (M a)} sn c J):=by let(c,l,j):=Kk e h;let g:aa 1 (bj ρ)=.ok (.fz (nd k),bj ρ):=ag (by ext bj;rw[Wg,n];rfl);let f:aa 2 (bj ρ)=.ok (.fz (mD a),bj ρ):=ag (by ext bj;rw[Wg,m];rfl);show#[c,j,(JM (ah f) (gB o) (ah g) W W (by rw[V1];let:=EG e;ext)).trans ?_];rw[l];rfl
def qh(m:HS b p X)(v:AK p.1.ac)(x:LB a)(n:k<5)(u:p.2.length<1000):∃d,a9 [.rf 0,.fz (nd k),.fz (mD a)] X=.ok (.fz .none) d/\HS b (gw p k a) d:=by
 let e0:=tf a;let e1:=kZ a;cases q:a.isL with
 |false=>
  let(Y,J,h,rfl):=m;rw[q]at e1;let(f,j,w):=rR (ρ:=[M (.rf 0),-(nd k),-(mD a)]) h n W W W;show#[_,nv W (ci (i6 (gU (bu (by ext:0))) iL) w),f,J,j,?_];let:sD p.1.ac a=[]:=by ext a<;>first|rfl|ext q
  ext gw;simp_all
 |true=>
  rw[q]at e1;let(l,j,y):=HZ m v x;let g:∀t,nu p.1.ac a=t->(mn (bJ (az (aF cP (aF aX (aa 2) (~~~0)) (pC (.str "letter"))))) (v9 (aZ (aL "Hand" "has_act" bC 2 (am 0) (ai (af (aa 2)) av))))) [M (.rf 0),-(nd k),-(mD a)] X=.ok (!t) l:=λt e=>by rw[e]at j;show jc (bu (by ext:0)) (ve (aV (bz m (by rfl) W (aq (ah (ag W)) aC) W j)))
  let(Y,J,h,rfl):=y;cases A:nu p.1.ac a with
  |true=>
   let(f,r,o):=rR (ρ:=[M (.rf 0),-(nd k),-(mD a)]) h n W W W;show#[_,nv W (ci (i6 (g P A) iL) o),f,J,r,?_];let:sD p.1.ac a=[]:=by
    ext a<;>first|ext q|skip
    show(if nu p.1.ac _=P then _ else _)=_;simp_all
   ext gw;simp_all
  |false=>
   ext a<;>first|ext q|skip
   rename_i c;let(f,r,o):=rR (ρ:=[M (.rf 0),-(nd k),-(mD (.WW c))]) (sn:=p.2++[(c,P)]) h n W W W;let z:aX (mD (.WW c)) (.int 1)=-(.str (jh c)):=jO;show#[_,nv W (ci (gh (g I A) (iK (Bf u W (ah (show _=Res.ok (PV.fz (.tuple [.str (jh c),.str "down"]),_) by ext:0))))) o),f,J,r,?_];let:sD p.1.ac (.WW c)=[(c,P)]:=by show(if nu p.1.ac _=P then _ else _)=_;simp_all
   ext gw;rw[this]
end
end STP
namespace STP
open PySem L2 L3 L10
def VA(a:Int):Mn->Prop
 |.WW c=>c<26
 |.Yq n=>1<=n/\n<a
 |.none=>True
 |_=>False
def VA.lb(h:VA nL m):LB m:=by
 cases m with
 |WW c=>show h
 |tap c n=>show h.elim
 |_=>trivial
structure SA(b:Bd)(s:Ys):Prop where
 ac:∀k a,s.ac k=M a->(k:Int)<b.n/\VA b.ls.length a
 oc:∀o,s.oc=M o->1<=o/\o<b.ls.length
structure WV(b:Bd)(ac:Ac)(ks:G Nat)(g:Int)(w:z (Nat×Int)):Prop where
 ne:ks≠[]
 nd:ks.Nodup
 kn:∀k∈ks,(k:Int)<b.n
 kf:∀k∈ks,ac k=R
 g0:0<=g
 tp:∀c n,w=M (c,n)->c<26/\(1<=n/\n<b.ls.length)/\ks.length=1
 ch:w=R->∀k∈ks,Dy (b.ls.headD []) k=P
structure SW(b:Bd)(s:Ys):Prop where
 sa:SA b s
 wt:∀ks g w,s.wt=M (ks,g,w)->WV b s.ac ks g w/\g<b.wt
def zR{c:G Nat}(hd:c.Nodup)(h:∀k∈c,k<n):c.length<=n:=by rw[<-Kb c];let b:=(qM c).nodup_iff.mpr hd;show LP (((zy c).and b).imp λh=>by ext) λk a=>h k ((qM c).mem_iff.mp a)
section
variable{b:Bd}(Z:VB b){s:Ys}{p:Ys×Sn}{Y:bg Nat}{g:Int}{w:b3 (Nat×Int)}{X:Ac}{k:Nat}{a:Mn}
include Z
theorem WV.len(h:WV b X Y g w):Y.length<=5:=zR h.nd λk e=>by let:=h.kn k e;let:=Z.n5;ext
omit Z in
theorem WV.akU(h:WV b X Y g w):1<=Y.length:=List.length_pos_iff.mpr h.ne
theorem SA.ak(h:SA b s):AK s.ac:=λk a e=>by let:=h.ac k a e;let:=Z.n5;show#[by ext,(h.ac k a e).2.lb]
omit Z in
theorem SA.cm(h:SA b p.1)(f:(k:Int)<b.n)(ha:VA b.ls.length a):SA b (gw p k a).1:=by
 refine⟨λj x e=>?_,h.oc⟩;by_cases z:j=k
 .subst z;have i:cL a=cL x:=(ez (ac:=p.1.ac) (k:=j) (o:=cL a)).symm.trans e;cases i;exact⟨f,ha⟩
 .exact h.ac j x ((gr z).symm.trans e)
omit Z in
theorem SA.gg(h:SA b p.1):SA b (go p k).1:=by
 unfold go;split
 .refine⟨λj x e=>?_,h.oc⟩
  by_cases z:j=k
  .subst z;exact a7 ((ez (ac:=p.1.ac) (k:=j) (o:=VY)).symm.trans e) (by simp)
  .exact h.ac j x ((gr z).symm.trans e)
 .exact h
omit Z in
theorem rK:(gw p k a).2.length<=p.2.length+1:=by
 show(p.2++sD p.1.ac a).length<=_;rw[V8];have:(sD p.1.ac a).length<=1:=by
  cases a with
  |WW c=>show(if _ then _ else _:Sn).length<=1;split<;>simp
  |_=>simp[sD]
 ext
omit Z in
theorem Cs(e:bg (Nat×Mn)):∀p:Ys×Sn,(ki p e).2.length<=p.2.length+e.length:=by
 induction e with
 |nil=>exact λp=>Wa _
 |cons q r f=>intro p;have i:=f (gw p q.1 q.2);have h:=rK (p:=p) (k:=q.1) (a:=q.2);show(ki (gw p q.1 q.2) r).2.length<=_;rw[Wi];ext
omit Z in
theorem SA.cms(e:bg (Nat×Mn)):∀{p:Ys×Sn},SA b p.1->(∀q∈e,(q.1:Int)<b.n/\VA b.ls.length q.2)->SA b (ki p e).1/\(ki p e).1.wt=p.1.wt/\(ki p e).1.oc=p.1.oc:=by
 induction e with
 |nil=>exact λh _=>⟨h,rfl,rfl⟩
 |cons q r j=>intro p h f;have i:=f q Wk;exact j (h.cm i.1 i.2) λx l=>f x (Wf _ l)
def Ov(h:Dy (b.ls.headD []) k=P):∃c,sS b 0 k=.WW c:=by
 let i:=Z.l1;obtain⟨f,r,e⟩:∃f r,b.ls=f::r:=by
  cases q:b.ls with
  |nil=>rw[q]at i;ext i
  |cons l r=>show#[l,r,W]
 unfold Dy at h;ext sS;rw[e]at h⊢;rw[ab9,adz];rw[List.headD_cons]at h;cases q:f[k]? with
 |none=>rw[q]at h;ext h
 |some m=>
  rw[q]at h;cases m with
  |WW c=>show#[c,W]
  |_=>ext h
def Lw(f:(k:Int)<b.n)(h:Dy (b.ls.headD []) k=P):VA b.ls.length (sS b 0 k):=by let i:=Z.l1;let(c,e):=Ov Z h;let:=y1 Z (L:=0) () f;rw[e]at this⊢;show this
def QW(h:WV b X Y g R):∀m∈Sd b Y,VA b.ls.length m:=by
 intro m hm;unfold Sd at hm;split at hm
 .rename_i c f
  rcases WE.mp hm with rfl|hm
  .show(Z.vc c (abH f)).2.2.2
  .rw[(List.mem_replicate.mp hm).2];trivial
 .let(j,e,rfl):=WH.mp hm;show Lw Z (h.kn j e) (h.ch W j e)
def vM(h:WV b X Y g w):∀q∈Y.zip (iV b Y w),(q.1:Int)<b.n/\VA b.ls.length q.2:=by
 intro q f;let e:=Y7 f;show#[h.kn _ e.1,?_];cases w with
 |none=>show QW Z h _ e.2
 |some i=>let(c,n):=i;rw[WI.mp e.2];show(h.tp c n W).2.1
def WD(b:Bd)(s:Ys):Prop:=∀Y g w,s.wt=M (Y,g,w)->WV b s.ac Y g w
def i9(h:SA b p.1)(f:WD b p.1):SW b (dc b p).1/\(dc b p).1.wt=R/\(dc b p).2.length<=p.2.length+5/\(dc b p).1.oc=p.1.oc:=by
 ext dc;split
 .rename_i q;show#[#[h,λY g w e=>by simp_all],q,Nat.le_add_right _ _,W]
 .rename_i Y g w q
  let v:=f Y g w q;let(l,j,i):=SA.cms (Y.zip (iV b Y w)) (p:=({p.1 with wt:=R},p.2)) #[h.ac,h.oc] (vM Z v);show#[#[l,λ_ _ _ e=>?_],j,?_,i]
  .simp_all
  .let:=Cs (Y.zip (iV b Y w)) ({p.1 with wt:=R},p.2)
   let m:=v.len Z
   grind
omit Z in
theorem A6:∀(l:bg Int) (m:b3 Int),l.foldl lC m=m\/∃x∈l,l.foldl lC m=cL x
 |[],m=>.inl rfl
 |x::r,m=>by
  rw[ZX];rcases A6 r (lC m x)with h|⟨y,hy,h⟩
  .rw[h]
   cases m with
   |none=>exact .inr ⟨x,Wk,rfl⟩
   |some z=>
    show cL (if x>z then x else z)=cL z\/_;split
    .exact .inr ⟨x,Wk,by show cL (if x>z then x else z)=_;rename_i q;rw[ax q]⟩
    .exact .inl rfl
  .exact .inr ⟨y,Wf _ hy,h⟩
omit Z in
theorem Af:∀(l:bg Int) (m:b3 Int),(∀x∈l,∃y,l.foldl lC m=cL y/\x<=y)/\∀z,m=cL z->∃y,l.foldl lC m=cL y/\z<=y
 |[],m=>⟨λx f=>(by cases f),λz h=>⟨z,h,ZC _⟩⟩
 |x::r,m=>by
  rw[ZX];obtain⟨o,n⟩:=Af r (lC m x);have j:∃z,lC m x=cL z/\x<=z/\∀u,m=cL u->u<=z:=by
   cases m with
   |none=>exact⟨x,rfl,ZC _,λu h=>by cases h⟩
   |some u=>
    refine⟨if x>u then x else u,rfl,?_,λv h=>?_⟩
    .split<;>ext
    .cases h;split<;>ext
  obtain⟨z,e1,e2,e3⟩:=j;obtain⟨y,e4,e5⟩:=n z e1;refine⟨λv e=>?_,λu i=>⟨y,e4,by have:=e3 u i;ext⟩⟩;rcases WE.mp e with rfl|e
  .exact⟨y,e4,by ext⟩
  .exact o v e
omit Z in
theorem AU{X:Ac}{n:Int}:n∈(gO X).filterMap OL↔∃k,k<5/\X k=cL (.Yq n):=by
 rw[Zg];constructor
 .rintro⟨⟨k,m⟩,f,e⟩
  have h:=kQ.mp f;cases m with
  |Yq x=>have:x=n:=Wm e;subst this;exact⟨k,h.1,h.2⟩
  |_=>cases e
 .rintro⟨k,f,e⟩;exact⟨(k,.Yq n),kQ.mpr ⟨f,e⟩,rfl⟩
def LF(h:SA b s):0<=w6 s.ac/\w6 s.ac<b.ls.length/\(∀k n,s.ac k=M (.Yq n)->n<=w6 s.ac)/\(w6 s.ac=0\/∃k,s.ac k=M (.Yq (w6 s.ac))):=by
 let l:=Z.l1;let o:=Z.n5;ext w6;generalize hm:((gO s.ac).filterMap OL).foldl lC R=m;let i:=(Af ((gO s.ac).filterMap OL) R).1;let f:=A6 ((gO s.ac).filterMap OL) R;rw[hm]at i f;let up:∀k n,s.ac k=M (.Yq n)->∃y,m=M y/\n<=y:=λk n e=>i n (AU.mpr #[k,by let:=(h.ac k _ e).1;ext,e]);cases m with
 |none=>show#[ZC _,by show(0:Int)<_;ext,λk n e=>?_,.inl W];let(y,e2,_):=up k n e;ext e2
 |some x=>
  rcases f with f|⟨y,q,f⟩
  .ext f
  .ext f;let(k,_,e):=AU.mp q;let:=(h.ac k _ e).2;let:1<=x/\x<b.ls.length:=this;show#[by show 0<=x;ext,by show x<_;ext,λk n e=>?_,.inr #[k,e]];let(y,e2,j):=up k n e;ext e2;show j
def zt(h:SA b s):0<=pE s.ac s.oc/\pE s.ac s.oc<b.ls.length:=by
 cases q:s.oc with
 |none=>let:=LF Z h;show#[this.1,this.2.1]
 |some o=>let:=h.oc o q;show#[by show 0<=o;ext,this.2]
end
section
variable{b:Bd}{s:Ys}{S:Sn}{Y:bg (Nat×Mn)}{J:aP}{T:aW}{i:Nat}{X:aP}{p:Ys×Sn}{k:Nat}{a:Mn}
def zn(h:f x=M y):aA f [x]=M [y]:=by ext aA;rw[h];rfl
def eX:(l++[c]).set l.length o=l++[o]:=by simp
def oJ(f:HS b p X):∃c,bw [.rf 0] X=.ok (.fz (dH p.1)) c/\HS b p c:=by
 let(Y,J,e,rfl):=f;let h:=EG e;let j:ef (rS (aJ "Hand" "acts" (am 0))) [M (.rf 0)] (cV b p.1 p.2 Y J)=.ok ((gO p.1.ac).map λq=>nd q.1) (cV b p.1 p.2 Y (J++[.dead])):=by
  show(Fz (ds:=(gO p.1.ac).map λq=>nd q.1) (KW (gB W) W (Ie e) (by rw[V1];ext)) ?_).trans ?_
  .rw[Gq e];show aK.trans ?_;rw[WB,WB];rfl
  .rw[eX];rfl
 let l:bH (cT 0) bV (ky (ai (af (aa 0)) (ai (qV (aJ "Hand" "acts" (am 1)) (af (aa 0))) av))) ((gO p.1.ac).map λq=>nd q.1) [R,M (.rf 0)] (cV b p.1 p.2 Y (J++[.dead])) []=.ok (((gO p.1.ac).map pD).map .fz) (cV b p.1 p.2 Y (J++[.dead])):=by show(gP (λq:Nat×Mn=>nd q.1) (λq=>.fz (pD q)) _ (λT=>∃o,T=[o,M (.rf 0)]) (gO p.1.ac) _ [] #[R,W] (by let:=vd p.1.ac;grind) ?_).trans (by rw[WB];rfl);rintro q g T ⟨o,rfl⟩;let hm:=kQ.mp g;show#[[-(nd q.1),M (.rf 0)],W,W,?_,_,W];show oh (aq (ah (ag W)) (aq (Jb (gB W) (ah (ag W)) W W (by rw[nw e hm.1,hm.2];rfl)) aC)) (Wc W)
 let tp:i4 eE (ai (dw 1 [0] (ef (rS (aJ "Hand" "acts" (am 0)))) (cT 0) bV (ky (ai (af (aa 0)) (ai (qV (aJ "Hand" "acts" (am 1)) (af (aa 0))) av)))) av) [M (.rf 0)] (cV b p.1 p.2 Y J)=.ok (.fz (.tuple ((gO p.1.ac).map pD))) (cV b p.1 p.2 Y (J++[.dead]++[.lst (((gO p.1.ac).map pD).map .fz)])):=
  lL (aq (gK j l) aC) (zn (df aK)) W
 show#[_,hJ W (gq (oh (aq tp (aq (bv W) (aq (BF W) aC))) (Wc W))),Y,_,e,W]
def FD(f:HS b p X):bP [.rf 0,.fz (nd k)] X=.ok (.fz (.bool (ES p.1.wt k))) X:=by
 let(Y,J,h,rfl):=f;show hJ W (gq ?_);cases q:p.1.wt with
 |none=>
  let e1:pI (jG p.1.wt) .none=-(.bool I):=by rw[q];rfl
  show Dc (aV (cZ (bv W) (ah aD) (bW e1)))
 |some x=>
  let(e,g,w):=x;let e1:pI (jG p.1.wt) .none=-(.bool P):=by rw[q];rfl
  let e2:aX (jG p.1.wt) (.int 0)=-(.tuple (bh e)):=by rw[q];show i7
  show tt (aV (cZ (bv W) (ah aD) (bW e1))) (cZ (ah (ag W)) (bX (bv W) (ah aD) e2) (bW (wj _ _)))
def RE(E:HS b p X)(t:AK p.1.ac)(N:p.1.ac k=M a)(F:p.2.length<1000):∃D,ja [.rf 0,.fz (nd k)] X=.ok (.fz .none) D/\HS b (go p k) D:=by
 let(Y,J,B,rfl):=E;let G:=(t k a N).1;let lb:=(t k a N).2;let(f,I,w):=GR B
 let n:um (aJ "Hand" "acts" (am 0)) (af (aa 1)) [M (.rf 0),-(nd k),R] (cV b p.1 p.2 Y J)=.ok (.fz (mD a)) (cV b {p.1 with ac:=lK p.1.ac k R} p.2 f J):=
  (LN (gB W) W (ah (ag W)) W W (by rw[nw B G,N];rfl)).trans (by rw[I];rfl)
 let H:go p k=({p.1 with ac:=lK p.1.ac k R},p.2++Qm (lK p.1.ac k R) a):=by ext go;rw[N]
 rw[H];let o:AK (lK p.1.ac k R):=λj x e=>by
  by_cases z:j=k
  .subst z;rw[ez]at e;ext e
  .rw[gr z]at e;show t j x e
 let e0:=tf a;let e1:=kZ a;let l:az (aF cP (aF aX (aa 2) (~~~0)) (pC (.str "letter"))) (bj [M (.rf 0),-(nd k),-(mD a)])=.ok (a.isL,bj [M (.rf 0),-(nd k),-(mD a)]):=by ext:0
 let v:Zb (bZ (mn (bJ (az (aF cP (aF aX (aa 2) (~~~0)) (pC (.str "letter"))))) (v9 (aZ (aL "Hand" "has_act" bC 2 (am 0) (ai (af (aa 2)) av))))) (bc (jB (aJ "Hand" "sent" (am 0)) (af (b7 {aF aX (aa 2) (~~~1),pC (.str "up")})))) cJ [M (.rf 0),-(nd k),-(mD a)] (cV b {p.1 with ac:=lK p.1.ac k R} p.2 f J)) (λ_ D=>SV.fz .none=.fz .none/\HS b ({p.1 with ac:=lK p.1.ac k R},p.2++Qm (lK p.1.ac k R) a) D) (λ_ _=>False) (λr D=>r=.fz .none/\HS b ({p.1 with ac:=lK p.1.ac k R},p.2++Qm (lK p.1.ac k R) a) D):=by
  cases q:a.isL with
  |false=>
   rw[q]at l;show dR (gU (bu l)) (lh #[W,f,J,w,?_]);let:Qm (lK p.1.ac k R) a=[]:=by ext a<;>first|rfl|ext q
   simp_all
  |true=>
   rw[q]at l;let(h,u,K):=HZ (p:=({p.1 with ac:=lK p.1.ac k R},p.2)) #[f,J,w,W] o lb;let g:∀m,nu (lK p.1.ac k R) a=m->(mn (bJ (az (aF cP (aF aX (aa 2) (~~~0)) (pC (.str "letter"))))) (v9 (aZ (aL "Hand" "has_act" bC 2 (am 0) (ai (af (aa 2)) av))))) [M (.rf 0),-(nd k),-(mD a)] (cV b {p.1 with ac:=lK p.1.ac k R} p.2 f J)=.ok (!m) h:=λm e=>by
    let u:bC [.rf 0,.fz (mD a)] (cV b {p.1 with ac:=lK p.1.ac k R} p.2 f J)=.ok (.fz (.bool m)) h:=by rw[<-e];show u
    show jc (bu l) (ve (aV (bz (p:=({p.1 with ac:=lK p.1.ac k R},p.2)) #[f,J,w,W] (by rfl) W (aq (ah (ag W)) aC) W u)))
   let(y,C,A,e2):=K;rw[e2]at g;cases Q:nu (lK p.1.ac k R) a with
   |true=>
    show dR (g P Q) (lh #[W,y,C,A,?_]);let:Qm (lK p.1.ac k R) a=[]:=by
     ext a<;>first|ext q|skip
     show(if nu (lK p.1.ac k R) _=P then _ else _)=_;rw[ax Q]
    simp_all
   |false=>
    ext a<;>first|ext q|skip
    rename_i c;let L:aX (mD (.WW c)) (.int 1)=-(.str (jh c)):=jO;show qB (g V4 Q) (iM (Bf (d:=V4) F W (ah (show _=Res.ok (PV.fz (.tuple [.str (jh c),.str "up"]),_) by ext:0))) #[W,y,C,A,?_]);let:Qm (lK p.1.ac k R) (.WW c)=[(c,V4)]:=by show(if nu (lK p.1.ac k R) _=P then _ else _)=_;simp_all
    rw[this]
 show iR W (jq n W v)
end
section
variable{b:Bd}(Z:VB b){s:Ys}{Q:Sn}{X:bg (Nat×Mn)}{J:aP}{S:aW}{i:Nat}{T:aP}{p:Ys×Sn}{k:Nat}{a:Mn}{Y:bg Nat}{g:Int}{w:b3 (Nat×Int)}
theorem EB:∀(Y:G Nat) (as:G Mn),j9 (bh Y) (as.map mD)=(Y.zip as).map pD
 |[],_=>by rfl
 |_::_,[]=>rfl
 |k::r,a::t=>by show V3.tuple [nd k,mD a]::j9 (bh r) (t.map mD)=_;rw[EB r t];rfl
def zP(h:∀c n,w=M (c,n)->c<26):cP (sO w) (.tuple [.str "chord"])=-(.bool w.isNone)/\sI (sO w) (.tuple [.str "chord"])=-(.bool w.isSome):=by
 cases w with
 |none=>
  let l:lO (.tuple [.str "chord"])=P:=by left
  let j:V3.canLay0 (.tuple [.str "chord"])=P:=by left
  let f:V3.eqv (.tuple [.str "chord"]) (.tuple [.str "chord"])=P:=by rfl
  constructor
  .show(if(lO (.tuple [.str "chord"])&&V3.canLay0 (.tuple [.str "chord"]))=P then M (RV.fz (.bool (V3.eqv (.tuple [.str "chord"]) (.tuple [.str "chord"]))))else R)=_;rw[l,j,f];rfl
  .show(if(lO (.tuple [.str "chord"])&&V3.canLay0 (.tuple [.str "chord"]))=P then M (RV.fz (.bool (!V3.eqv (.tuple [.str "chord"]) (.tuple [.str "chord"]))))else R)=_;rw[l,j,f];rfl
 |some m=>
  let(c,n):=m;let lb:LB (.tap c n):=h c n W;let e:V3.eqv (mD (.tap c n)) (.tuple [.str "chord"])=I:=by rfl
  constructor
  .show(if(lO (mD (.tap c n))&&V3.canLay0 (.tuple [.str "chord"]))=P then M (RV.fz (.bool (V3.eqv (mD (.tap c n)) (.tuple [.str "chord"]))))else R)=_;rw[FU lb,show V3.canLay0 (.tuple [.str "chord"])=P by left,e];rfl
  .show(if(lO (mD (.tap c n))&&V3.canLay0 (.tuple [.str "chord"]))=P then M (RV.fz (.bool (!V3.eqv (mD (.tap c n)) (.tuple [.str "chord"]))))else R)=_;rw[FU lb,show V3.canLay0 (.tuple [.str "chord"])=P by left,e];rfl
theorem yf(Y:G Nat)(w:b3 (Nat×Int))(as:G Mn):∀(h:G (Nat×Mn)) (p:Ys×Sn) (T:aP) (n m:b3 SV),HS b p T->AK p.1.ac->(∀q∈h,q.1<5/\LB q.2)->p.2.length+h.length<1000->
  ∃d c,km (Oh 2 (pB (cT 4) (pB (cT 5) zb))) (bc (aL "Hand" "come" a9 3 (am 0) (ai (af (aa 4)) (ai (af (aa 5)) av)))) (h.map pD) [M (.rf 0),-(.tuple (bh Y)),-(sO w),-(.list (as.map mD)),n,m] T=.ok (.nx d) c/\HS b (ki p h) c
 |[],p,T,n,m,C,_,_,_=>#[_,T,W,C]
 |q::r,p,T,n,m,C,N,L,hl=>by
  rw[Wi]at hl;let l:=L q Wk;let(f,e1,A):=qh C N l.2 l.1 ();let t:AK (gw p q.1 q.2).1.ac:=λj x e=>by
   by_cases z:j=q.1
   .let y:M q.2=M x:=by rw[z]at e;show(ez).symm.trans e
    ext y;show#[by rw[z];show l.1,l.2]
   .show N j x ((gr z).symm.trans e)
  let:=rK (p:=p) (k:=q.1) (a:=q.2);let(d,c,e2,o):=yf Y w as r (gw p q.1 q.2) f (-(nd q.1)) (-(mD q.2)) A t (λx v=>L x (Wf _ v)) ();show#[d,c,?_,o]
  let u:bc (aL "Hand" "come" a9 3 (am 0) (ai (af (aa 4)) (ai (af (aa 5)) av))) [M (.rf 0),-(.tuple (bh Y)),-(sO w),-(.list (as.map mD)),-(nd q.1),-(mD q.2)] T=.ok (.nx [M (.rf 0),-(.tuple (bh Y)),-(sO w),-(.list (as.map mD)),-(nd q.1),-(mD q.2)]) f:=
   iK (bz C (by left) W (aq (ah (ag W)) (aq (ah (ag W)) aC)) W e1)
  show((bc (aL "Hand" "come" a9 3 (am 0) (ai (af (aa 4)) (ai (af (aa 5)) av))) [M (.rf 0),-(.tuple (bh Y)),-(sO w),-(.list (as.map mD)),-(nd q.1),-(mD q.2)] T).bind _)=_;rw[u,en];show e2
include Z
def kW(y:HS b p T)(r:SA b p.1)(j:p.1.wt=M (Y,g,w))(v:WV b p.1.ac Y g w)(K:p.2.length<900):∃d,cO [.rf 0] T=.ok (.fz .none) d/\HS b (dc b p) d:=by
 let(X,J,A,rfl):=y;let e0:aX (jG p.1.wt) (.int 0)=-(.tuple (bh Y)):=by rw[j];show i7
 let e2:aX (jG p.1.wt) (.int 2)=-(sO w):=by rw[j];show rh
 let t:=v.len Z;let u:=v.akU;let F:=zP λc n h=>(v.tp c n h).1;let E:dc b p=ki ({p.1 with wt:=R},p.2) (Y.zip (iV b Y w)):=by ext dc;rw[j]
 rw[E];let o:az (aF cP (aa 2) (pC (.tuple [.str "chord"]))) (bj [M (.rf 0),-(.tuple (bh Y)),-(sO w),R,R,R])=.ok (w.isNone,bj [M (.rf 0),-(.tuple (bh Y)),-(sO w),R,R,R]):=aN (aB (ag W) aD W W F.1) W;let m:ke (M8 (bJ (az (aF cP (aa 2) (pC (.tuple [(.str "chord")]))))) (iY eZ 2 (ai (aJ "Hand" "bed" (am 0)) (ai (af (aa 1)) av))) (af (cx {b7 {pC (.str "layer"),aF aX (aa 2) (~~~2)}}))) [M (.rf 0),-(.tuple (bh Y)),-(sO w),R,R,R] (cV b {p.1 with wt:=R} p.2 X J)=.ok (.fz (.list ((iV b Y w).map mD))) (cV b {p.1 with wt:=R} p.2 X (J++[.dead])):=by
  cases w with
  |none=>let H:=PP Z u t v.kn;show(oB (KC (bu o) (wu (aq (om W) (aq (ah (ag W)) aC)) W H)) (jj aK)).trans (by rw[eX];rfl)
  |some G=>let(c,n):=G;let I:aX (sO (M (c,n))) (.int 2)=-(.int n):=rh;show(oB (LR (bu o) (dS (show _=Res.ok (PV.ow [.tuple [.str "layer",.int n]],_) by ext:0))) (jj aK)).trans (by rw[eX];rfl)
 let f:∃e d,uX (ei (uC {aa 1,aa 3})) (Oh 2 (pB (cT 4) (pB (cT 5) zb))) (bc (aL "Hand" "come" a9 3 (am 0) (ai (af (aa 4)) (ai (af (aa 5)) av)))) [M (.rf 0),-(.tuple (bh Y)),-(sO w),-(.list ((iV b Y w).map mD)),R,R] (cV b {p.1 with wt:=R} p.2 X (J++[.dead]))=.ok (.nx e) d/\HS b (ki ({p.1 with wt:=R},p.2) (Y.zip (iV b Y w))) d:=by
  let L:=Z.n5;let(e,d,C,B):=yf Y w (iV b Y w) (Y.zip (iV b Y w)) ({p.1 with wt:=R},p.2) (cV b {p.1 with wt:=R} p.2 X (J++[.dead])) R R #[X,_,A,W] (SA.ak Z #[r.ac,r.oc]) (λq z=>by
   let:=vM Z v q z;show#[by ext,this.2.lb]) (by
   rw[List.length_zip];show p.2.length+_<1000;ext)
  show#[e,d,?_,B];ext uX;rw[hV (wa (aj (ag W) (aj (ag W) ay)) W W W),en,EB];show C
 let(e,d,f,l):=f;show#[d,nv (ρ1:=e) W ?_,l];show ci (ka (bX (bv W) (ah aD) e0) W) (ci (ka (bX (bv W) (ah aD) e2) W) (ci (kN R W (ah aD)) (ci (ka m W) f)))
omit Z in
theorem Li{c:bg Nat×Nat}(h:c.2<26):V3.canLay0 (XO c)=V0:=by show(V3.canLayAll0 (bh c.1)&&(V3.strOk (jh c.2)&&V0))=V0;rw[jw,lW h];rfl
omit Z in
theorem Qo:∀{cs:bg (bg Nat×Nat)},(∀c∈cs,c.2<26)->sI (.list (cs.map XO)) (.list [])=-(.bool (!cs.isEmpty)):=by
 intro cs h;have j:∀cs:bg (bg Nat×Nat),(∀c∈cs,c.2<26)->V3.canLayAll0 (cs.map XO)=V0:=by
  intro cs
  induction cs with
  |nil=>exact λ_=>rfl
  |cons c r e=>intro h;show(V3.canLay0 (XO c)&&V3.canLayAll0 (r.map XO))=V0;rw[Li (h c Wk),e λx l=>h x (Wf _ l)];rfl
 have f:∀cs:bg (bg Nat×Nat),V3.depthAll (cs.map XO)<=2:=by
  intro cs
  induction cs with
  |nil=>exact W8 _
  |cons c r e=>show max (V3.depth (XO c)) (V3.depthAll (r.map XO))<=2;refine aiZ.mpr ⟨?_,e⟩;show max (V3.depthAll (bh c.1)+1) (max 0 0)+1<=2;rw[jt];decide
 show(if((V3.canLayAll0 (cs.map XO)&&decide (V3.depthAll (cs.map XO)+1<=64))&&V0)=V0 then cL (RV.fz (.bool (!V3.eqvAll (cs.map XO) [])))else VY)=_;rw[j cs h,a4 (show V3.depthAll (cs.map XO)+1<=64 by have:=f cs;ext)];cases cs<;>rfl
theorem L6(h:c∈eT b Y):c.2<26:=(Z.vc c (X3.mp h).1).2.2.2
omit Z in
theorem Bb(h:Y≠[])(e:Y.length<=5):c7 (.tuple (bh Y)) (.tuple [nd k])=-(.tuple (bh (Y++[k]))):=by
 show(if bh Y≠[]/\(bh Y).length+1<=1000000 then cL (RV.fz (.tuple (bh Y++[nd k])))else VY)=_;rw[ax ⟨by cases Y with
  |nil=>exact a7 rfl h
  |cons x r=>simp[bh],by rw[gH];ext⟩,Jj]
 rfl
def Ao{d:c8}{ω1:aP}(e:∃X J,ω1=cV b s Q X J)(l:S[0]?=M (M (.rf 0)))(f:Y.length<=5)(h:d S ω1=.ok (.fz (.tuple (bh Y))) ω1):jK sI (iY bx 2 (ai (aJ "Hand" "bed" (am 0)) (ai d av))) (af (cx ar)) S ω1=.ok (.fz (.bool (!(eT b Y).isEmpty))) (ω1++[.lst (((eT b Y).map XO).map .fz)]++[.lst []]):=by let(X,J,rfl):=e;show cZ (wu (ds:=[bD b,.tuple (bh Y)]) (aq (om l) (aq h aC)) W (Bz Z f)) (dS (ds:=[]) (ρ':=bj S) (qG ay W (W8 _))) ?_;show vh (df (hG aK)) (df (ds:=[]) aK) (Qo λc j=>L6 Z j)
def Q7(m:HS b p T)(C:SW b p.1)(K:(k:Int)<b.n)(D:ES p.1.wt k=V4):∃d,dj [.rf 0,.fz (nd k)] T=.ok (.fz (.bool (DT b p.1 k))) d/\HS b p d:=by
 cases q:p.1.wt with
 |none=>
  let o:DT b p.1 k=V4:=by ext DT;rw[q]
  rw[o];let(X,J,l,rfl):=m;let e1:qI (jG p.1.wt) .none=-(.bool P):=by rw[q];rfl
  show#[_,hJ W (og (gh (mS (aV (cZ (bv W) (ah aD) (bW e1)))) (gq (ah aD)))),X,J,l,W]
 |some x=>
  let(Y,g,w):=x;let v:=(C.wt Y g w q).1;let E:=v.len Z;let e1:qI (jG p.1.wt) .none=-(.bool V4):=by rw[q];rfl
  let e2:aX (jG p.1.wt) (.int 2)=-(sO w):=by rw[q];show rh
  let e0:aX (jG p.1.wt) (.int 0)=-(.tuple (bh Y)):=by rw[q];show i7
  let A:=(zP λc n h=>(v.tp c n h).1).2;cases w with
  |some M=>
   let o:DT b p.1 k=V4:=by ext DT;rw[q]
   rw[o];let(X,J,l,rfl):=m;show#[_,hJ W (og (gh (kj (aV (cZ (bv W) (ah aD) (bW e1))) (mS (aV (cZ (bX (bv W) (ah aD) e2) (ah aD) (bW A))))) (gq (ah aD)))),X,J,l,W]
  |none=>
   let o:DT b p.1 k=(decide (pE p.1.ac p.1.oc=0)&& !(eT b (Y++[k])).isEmpty):=by ext DT;rw[q]
   rw[o];let(j,G,B):=oJ m;let f:(zS (aZ (jK qI (aJ "Hand" "waiting" (am 0)) (af (pC .none)))) (zS (aZ (jK sI (gf (aJ "Hand" "waiting" (am 0)) (af (~~~2))) (af (pC (.tuple [(.str "chord")]))))) (aZ (jK sI (iY dQ 1 (ai (aL "Hand" "stands" bw 1 (am 0) av) av)) (af (~~~0)))))) [cL (.rf 0),-(nd k)] T=.ok (!decide (pE p.1.ac p.1.oc=0)) j:=by
    let H:aZ (jK sI (iY dQ 1 (ai (aL "Hand" "stands" bw 1 (am 0) av) av)) (af (~~~0))) [cL (.rf 0),-(nd k)] T=.ok (!decide (pE p.1.ac p.1.oc=0)) j:=
     aV (cZ (y9 (aq (bz m (by rfl) W aC W G) aC) W (yn p.1)) (ah aD) (bW (vE _ _)))
    let(X,J,l,rfl):=m;show kj (aV (cZ (bv W) (ah aD) (bW e1))) (kj (aV (cZ (bX (bv W) (ah aD) e2) (ah aD) (bW A))) H)
   by_cases z:pE p.1.ac p.1.oc=0
   .rw[a4 z]at f⊢
    let(X,J,l,rfl):=B;let t:k∉Y:=by rw[q]at D;show of_decide_eq_false D
    let r:(Y++[k]).Nodup:=by rw[YO];show#[v.nd,XI.mpr #[XB,aae],λx u y I e=>t (by simp_all)]
    let F:(Y++[k]).length<=5:=zR r λx u=>by
     let L:=Z.n5;rcases W7.mp u with h|h
     .let:=v.kn x h;ext
     .rw[WI.mp h];ext
    show#[_,hJ W (ci (i6 f iL) (gq (Ao Z #[X,J,W] W F (cZ (bX (bv W) (ah aD) e0) (ah (hW (aj (ag W) ay) W (Wc W))) (bW (Bb v.ne E)))))),X,_,l,W]
   .rw[a5 z]at f⊢;show#[j,hJ W (og (gh f (gq (ah aD)))),B]
end
section
variable{b:Bd}(Z:VB b){s:Ys}{sn:Sn}{ps:bg (Nat×Mn)}{J:aP}{ρ:aW}{i:Nat}{ω:aP}{p:Ys×Sn}{k:Nat}{a:Mn}{ks:bg Nat}{g:Int}{w:b3 (Nat×Int)}
include Z
def Pd(v:WV b p.1.ac ks g w)(c:k∉ks)(m:(k:Int)<b.n):(ks++[k]).Nodup/\(ks++[k]).length<=5:=by
 let f:(ks++[k]).Nodup:=by rw[YO];show#[v.nd,XI.mpr #[XB,aae],λx j y l e=>c (by simp_all)]
 show#[f,zR f λx j=>?_];let o:=Z.n5;rcases W7.mp j with h|h
 .let:=v.kn x h;ext
 .rw[WI.mp h];ext
def yS(o:SW b p.1)(m:(k:Int)<b.n)(D:p.1.ac k=R)(d:ES p.1.wt k=I)(hm:DT b p.1 k=P):∃ks g,p.1.wt=M (ks,g,R)/\k∉ks/\WV b p.1.ac (ks++[k]) g R/\g<b.wt:=by
 unfold DT at hm;split at hm
 .rename_i ks g q
  rw[VZ]at hm;let(v,t):=o.wt ks g R q;let f:k∉ks:=by rw[q]at d;show of_decide_eq_false d
  let(l,A):=Pd Z v f m;show#[ks,g,q,f,#[by simp,l,λx e=>?_,λx e=>?_,v.g0,λc n h=>(by ext h),λ_ x e=>?_],t]
  .rcases W7.mp e with h|h
   .show v.kn x h
   .rw[WI.mp h];show m
  .rcases W7.mp e with h|h
   .show v.kf x h
   .rw[WI.mp h];show D
  .let j:=hm.2
   cases C:eT b (ks++[k])with
   |nil=>rw[C]at j;ext j
   |cons c r=>
    let u:c∈eT b (ks++[k]):=by rw[C];show Wk
    let(z,y):=X3.mp u;let:=Xj.mp y x e;show(Z.vc c z).2.2.1 x (a6 this)
 .ext hm
def MM(y:HS b p ω)(l:SW b p.1)(h:p.1.wt=M (ks,g,R))(v:WV b p.1.ac (ks++[k]) g R)(j:WV b p.1.ac ks g R)(z:p.2.length<900):∃d,cS [.rf 0,.fz (nd k)] ω=.ok (.fz .none) d/\HS b (u0 b p k) d:=by
 let(ps,J,m,rfl):=y;let r:=v.len Z;let e0:aX (jG p.1.wt) (.int 0)=-(.tuple (bh ks)):=by rw[h];show i7
 let e1:aX (jG p.1.wt) (.int 1)=-(.int g):=by rw[h];show jO
 let E:u0 b p k=if(eT b (ks++[k])).map (·.1.length)=[(ks++[k]).length]then dc b ({p.1 with wt:=M (ks++[k],g,R)},p.2)else({p.1 with wt:=M (ks++[k],g,R)},p.2):=by ext u0;rw[h]
 let u:HS b ({p.1 with wt:=M (ks++[k],g,R)},p.2) (cV b {p.1 with wt:=M (ks++[k],g,R)} p.2 ps J):=#[ps,J,m,W];let F:bH (cT 0) bV (af (dU br {aF aX (aa 0) (~~~0)})) ((eT b (ks++[k])).map XO) [R] (cV b {p.1 with wt:=M (ks++[k],g,R)} p.2 ps (J++[.dead])) []=.ok ((bh ((eT b (ks++[k])).map (·.1.length))).map .fz) (cV b {p.1 with wt:=M (ks++[k],g,R)} p.2 ps (J++[.dead])):=by
  show(gP XO (λc=>.fz (nd c.1.length)) _ (λρ=>∃o,ρ=[o]) (eT b (ks++[k])) _ [] #[R,W] ?_ ?_).trans (by ext bh;rw[WB,WB];rfl)
  .let:=Z6 (λc:G Nat×Nat=>(ks++[k]).all λk=>decide (k∈c.1)) b.cs;let:=Z.c4;show 0+(eT b (ks++[k])).length<=_;ext eT;ext
  .rintro c _ ρ ⟨o,rfl⟩;let t:aX (XO c) (.int 0)=-(.tuple (bh c.1)):=i7;show#[[-(XO c)],W,W,ah (bU (aj (aB (ag W) aD W W t) ay) W ((kr _).trans (by rw[gH]))),_,W]
 let C:ef (iY bx 2 (ai (aJ "Hand" "bed" (am 0)) (ai (af (aa 2)) av))) [M (.rf 0),-(nd k),-(.tuple (bh (ks++[k])))] (cV b {p.1 with wt:=M (ks++[k],g,R)} p.2 ps J)=.ok ((eT b (ks++[k])).map XO) (cV b {p.1 with wt:=M (ks++[k],g,R)} p.2 ps (J++[.dead])):=
  (Fz (wu (aq (om W) (aq (ah (ag W)) aC)) W (Bz Z r)) aK).trans (by rw[eX];rfl)
 let rt:cx {dU br {aa 2}} (bj [M (.rf 0),-(nd k),-(.tuple (bh (ks++[k])))])=.ok (.ow (bh [(ks++[k]).length]),bj [M (.rf 0),-(nd k),-(.tuple (bh (ks++[k])))]):=by show qG (aj (bU (aj (ag W) ay) W ((kr _).trans (by rw[gH]))) ay) W (Wc W)
 let f:aZ (jK cP (dw 1 [] (ef (iY bx 2 (ai (aJ "Hand" "bed" (am 0)) (ai (af (aa 2)) av)))) (cT 0) bV (af (dU br {aF aX (aa 0) (~~~0)}))) (af (cx {dU br {aa 2}}))) [M (.rf 0),-(nd k),-(.tuple (bh (ks++[k])))] (cV b {p.1 with wt:=M (ks++[k],g,R)} p.2 ps J)=.ok (decide ((eT b (ks++[k])).map (·.1.length)=[(ks++[k]).length])) (cV b {p.1 with wt:=M (ks++[k],g,R)} p.2 ps (J++[.dead])++[.lst ((bh ((eT b (ks++[k])).map (·.1.length))).map .fz)]++[.lst ((bh [(ks++[k]).length]).map .fz)]):=
  aV (cZ (gK C F) (dS rt) (vh (df (hG aK)) (df aK) (vK _ _)))
 let e:HS b ({p.1 with wt:=M (ks++[k],g,R)},p.2) (cV b {p.1 with wt:=M (ks++[k],g,R)} p.2 ps (J++[.dead])++[.lst ((bh ((eT b (ks++[k])).map (·.1.length))).map .fz)]++[.lst ((bh [(ks++[k]).length]).map .fz)]):=#[ps,_,m,W];generalize (cV b {p.1 with wt:=M (ks++[k],g,R)} p.2 ps (J++[.dead])++[.lst ((bh ((eT b (ks++[k])).map (·.1.length))).map .fz)]++[.lst ((bh [(ks++[k]).length]).map .fz)]:aP)=L at f e;rw[E];show iR W (jq (cZ (bX (bv W) (ah aD) e0) (ah (hW (aj (ag W) ay) W (Wc W))) (bW (Bb j.ne (j.len Z)))) W (Bi (kN (M (ks++[k],g,R)) W (oh (aq (ah (ag W)) (aq (bX (bv W) (ah aD) e1) (aq (ah aD) aC))) (Wc W))) (xH f (λq=>?_) λq=>?_)))
 .rw[ax (a6 q)];let(n,B,A):=kW Z e #[l.sa.ac,l.sa.oc] W v z;show iM (bz e (by rfl) W aC W B) #[W,A]
 .rw[aE (of_decide_eq_false q)];show lh #[W,e]
def LY(f:SW b p.1)(h:p.1.wt=M (ks,g,R))(v:WV b p.1.ac (ks++[k]) g R)(j:g<b.wt):SW b (u0 b p k).1:=by
 let l:u0 b p k=if(eT b (ks++[k])).map (·.1.length)=[(ks++[k]).length]then dc b ({p.1 with wt:=M (ks++[k],g,R)},p.2)else({p.1 with wt:=M (ks++[k],g,R)},p.2):=by ext u0;rw[h]
 rw[l];split
 .show(i9 Z (p:=({p.1 with wt:=M (ks++[k],g,R)},p.2)) #[f.sa.ac,f.sa.oc] λ_ _ _ e=>by ext e;show v).1
 .show#[#[f.sa.ac,f.sa.oc],λ_ _ _ e=>by ext e;show#[v,j]]
omit Z in
theorem Ah(s:Ys)(m:Mn):(gl s m).ac=s.ac/\(gl s m).wt=s.wt:=by unfold gl;split<;>exact⟨rfl,rfl⟩
omit Z in
theorem BG{m:Mn}(h:SA b s):SA b (gl s m):=by
 unfold gl;split
 .exact h
 .exact⟨h.ac,λo e=>by cases e⟩
def O8(E:HS b p ω)(P:SA b p.1)(hw:p.1.wt=VY)(S:(k:Int)<b.n)(V:p.2.length<900):∃D,eW [.rf 0,.fz (nd k)] ω=.ok (.fz .none) D/\HS b (IM b p k) D:=by
 let(O,N):=zt Z P;let H:=Jq Z O N S;let(v,Q):=vo Z O N S;let(ω1,h1,ZR):=oJ E;let h5:=Z.n5;let eb:IM b p k=wE b (pE p.1.ac p.1.oc) (gl p.1 (look b (pE p.1.ac p.1.oc) k),p.2) k (look b (pE p.1.ac p.1.oc) k):=W;rw[eb];let R:iY dQ 1 (ai (aL "Hand" "stands" bw 1 (am 0) av) av) [cL (.rf 0),-(nd k),VY,VY,VY] ω=.ok (.fz (.int (pE p.1.ac p.1.oc))) ω1:=y9 (aq (bz E (by rfl) W aC W h1) aC) W (yn p.1);generalize pE p.1.ac p.1.oc=L at H v Q R O N;generalize look b L k=m at H v Q;let(ps,J,hp,rfl):=ZR;let lb:=v.lb;let c0:=tf m;let c1:=S9 m;let c2:=QY m;let c3:=kZ m;let c4:=J8 m;let eL:cP (.int L) (.int 0)=-(.bool (decide (L=0))):=iG _ _;let A:(aG (bZ (bJ (az (aF sL (aa 4) (b7 {pC (.str "layer"),pC (.str "once")})))) (dM "Hand" "once" (am 0) (af (pC .none))) cJ) cJ) [cL (.rf 0),-(nd k),-(.int L),-(mD m),-(.str (wd m))] (cV b p.1 p.2 ps J)=.ok (.nx [cL (.rf 0),-(nd k),-(.int L),-(mD m),-(.str (wd m))]) (cV b (gl p.1 m) p.2 ps J):=by
  let t:bJ (az (aF sL (aa 4) (b7 {pC (.str "layer"),pC (.str "once")}))) [cL (.rf 0),-(nd k),-(.int L),-(mD m),-(.str (wd m))] (cV b p.1 p.2 ps J)=.ok (!(m.adm||m.isO)) (cV b p.1 p.2 ps J):=bu (by ext:0);ext gl;cases q:(m.adm||m.isO)with
  |true=>rw[q]at t;rw[ax W];show ci (i6 t iL) iL
  |false=>rw[q]at t;rw[aE Wv];show ci (gh t (BT VY W (ah aD))) iL
 let T:=Ah p.1 m;let G:SA b (gl p.1 m):=BG P;let j:ps.Perm (gO (gl p.1 m).ac):=by simp_all
 let e:HS b (gl p.1 m,p.2) (cV b (gl p.1 m) p.2 ps J):=#[ps,J,j,W];generalize gl p.1 m=s2 at A T G j e;let M:Zb ((bZ (bJ (az (aF cP (aa 4) (pC (.str "tap"))))) (dM "Hand" "waiting" (am 0) (af (b7 {b7 {aa 1},~~~0,aa 3}))) (bZ (mn (bJ (az (aF cP (aa 4) (pC (.str "letter"))))) (mn (bJ (az (aF cP (aa 2) (~~~0)))) (aZ (jK sI (iY bx 2 (ai (aJ "Hand" "bed" (am 0)) (ai (af (b7 {aa 1})) av))) (af (cx ar)))))) (dM "Hand" "waiting" (am 0) (af (b7 {b7 {aa 1},~~~0,pC (.tuple [(.str "chord")])}))) (bZ (bJ (az (aF cP (aa 4) (pC (.str "once"))))) (aG (bc (aL "Hand" "come" a9 3 (am 0) (ai (af (aa 1)) (ai (af (pC (.tuple [(.str "none")]))) av))))
 (dM "Hand" "once" (am 0) (af (aF aX (aa 3) (~~~1))))) (bc (aL "Hand" "come" a9 3 (am 0) (ai (af (aa 1)) (ai (af (aa 3)) av))))))) [cL (.rf 0),-(nd k),-(.int L),-(mD m),-(.str (wd m))] (cV b s2 p.2 ps J)) (λ_ D=>SV.fz .none=.fz .none/\HS b (wE b L (s2,p.2) k m) D) (λ_ _=>False) (λr D=>r=.fz .none/\HS b (wE b L (s2,p.2) k m) D):=by
  let z:∀{ω:aP},bJ (az (aF cP (aa 4) (pC (.str "tap")))) [cL (.rf 0),-(nd k),-(.int L),-(mD m),-(.str (wd m))] ω=.ok m.isT ω:=bu (by ext:0);let C:∀{ω:aP},bJ (az (aF cP (aa 4) (pC (.str "letter")))) [cL (.rf 0),-(nd k),-(.int L),-(mD m),-(.str (wd m))] ω=.ok m.isL ω:=bu (by ext:0);let B:∀{ω:aP},bJ (az (aF cP (aa 4) (pC (.str "once")))) [cL (.rf 0),-(nd k),-(.int L),-(mD m),-(.str (wd m))] ω=.ok m.isO ω:=bu (by ext:0);let F:∀{ω:aP},bJ (az (aF cP (aa 2) (~~~0))) [cL (.rf 0),-(nd k),-(.int L),-(mD m),-(.str (wd m))] ω=.ok (decide (L=0)) ω:=bu (by ext:0);let kt:∀{ω:aP},af (b7 {aa 1}) [cL (.rf 0),-(nd k),-(.int L),-(mD m),-(.str (wd m))] ω=.ok (.fz (.tuple (bh [k]))) ω:=ah (hW (aj (ag W) ay) W (Wc W));let cm:∀{ω:aP},HS b (s2,p.2) ω->VA b.ls.length m->∃D,bc (aL "Hand" "come" a9 3 (am 0) (ai (af (aa 1)) (ai (af (aa 3)) av))) [cL (.rf 0),-(nd k),-(.int L),-(mD m),-(.str (wd m))] ω=.ok (.nx [cL (.rf 0),-(nd k),-(.int L),-(mD m),-(.str (wd m))]) D/\HS b (gw (s2,p.2) k m) D:=λ{ω} E va=>by let(D,u,l):=qh (k:=k) E (G.ak Z) va.lb () (show p.2.length<1000 by ext);show#[D,iK (bz E (by rfl) W (aq (ah (ag W)) (aq (ah (ag W)) aC)) W u),l]
  cases m with
  |below=>simp_all
  |tap c n=>show qB z (nc (kN (cL ([k],0,cL (c,n))) W (ah (ρ':=bj [cL (.rf 0),-(nd k),-(.int L),-(mD (.tap c n)),-(.str (wd (.tap c n)))]) ?_)) #[W,ps,J,j,W]);rfl
  |WW c=>
   obtain⟨d1,d2⟩:VA b.ls.length (.WW c)/\True:=#[v,trivial];by_cases K:L=0
   .rw[a4 K]at F
    let Y:=Ao Z (ω1:=cV b s2 p.2 ps J) #[ps,J,W] W (Wc W) kt;let I:HS b (s2,p.2) (cV b s2 p.2 ps J++[.lst (((eT b [k]).map XO).map .fz)]++[.lst []]):=#[ps,_,j,W];let y:wE b L (s2,p.2) k (.WW c)=if(!(eT b [k]).isEmpty)=V0 then({s2 with wt:=cL ([k],0,VY)},p.2)else gw (s2,p.2) k (.WW c):=by show(if(decide (L=0)&& !(eT b [k]).isEmpty)=V0 then _ else _)=_;rw[a4 K,ZA]
    rw[y];show dR z (xH (jc C (jc F (aV Y))) (λq=>?_) λq=>?_)
    .rw[ax q];show nc (kN (cL ([k],0,VY)) W (ah (ρ':=bj [cL (.rf 0),-(nd k),-(.int L),-(mD (.WW c)),-(.str (wd (.WW c)))]) ?_)) #[W,ps,_,j,W];rfl
    .rw[aE (by rw[q];simp)];let(D,u,l):=cm I v;show dR B (nc u #[W,l])
   .rw[a5 K]at F
    let y:wE b L (s2,p.2) k (.WW c)=gw (s2,p.2) k (.WW c):=by show(if(decide (L=0)&& !(eT b [k]).isEmpty)=V0 then _ else _)=_;simp_all
    rw[y];let(D,u,l):=cm e v;show dR z (dR (jc C (gU F)) (dR B (nc u #[W,l])))
  |Yq n=>let(D,u,l):=cm e v;show dR z (dR (gU C) (dR B (nc u #[W,l])))
  |none=>let(D,u,l):=cm e trivial;show dR z (dR (gU C) (dR B (nc u #[W,l])))
  |once n=>let(D,u,l):=qh (k:=k) (a:=.none) e (G.ak Z) trivial () (show p.2.length<1000 by ext);let i1:aX (mD (.once n)) (.int 1)=-(.int n):=jO;let(X,J2,hq,rfl):=l;show dR z (dR (gU C) (qB B (Bi (iK (bz e (by rfl) W (aq (ah (ag W)) (aq (ah aD) aC)) W u)) (nc (BT (cL n) W (ah (ρ':=bj [cL (.rf 0),-(nd k),-(.int L),-(mD (.once n)),-(.str (wd (.once n)))]) ?_)) #[W,X,J2,hq,W]))));rfl
 show iR (ρ:=[cL (.rf 0),-(nd k),VY,VY,VY]) W (jq R W (jq (y9 (ds:=[bD b,.int L,nd k]) (aq (om W) (aq (ah (ag W)) (aq (ah (ag W)) aC))) W H) W (jq (ah (d:=.str (wd m)) (ρ':=bj [cL (.rf 0),-(nd k),-(.int L),-(mD m),VY]) (aB (rv:=.fz (.str (wd m))) (ag W) aD W W c0)) W ?_)));show .eq ?_ M;let U:∀{f g:dX} {ρ:aW} {ω D:aP},aG f cJ ρ ω=.ok (.nx ρ) D->aG f g ρ ω=g ρ D:=λ{f g ρ ω D} h=>by
  unfold aG at h⊢;cases q:f ρ ω with
  |bad=>rw[q]at h;ext h
  |er x o=>rw[q]at h;ext h
  |ok fl o=>
   rw[q]at h;cases fl with
   |nx r=>ext h;rfl
   |_=>ext h
 show U A
end
section
variable{b:Bd}(Z:VB b){s:Ys}{sn:Sn}{T:bg (Nat×Mn)}{J:aP}{ρ:aW}{i:Nat}{Y:aP}{p:Ys×Sn}{k:Nat}{a:Mn}{X:bg Nat}{g:Int}{w:b3 (Nat×Int)}
include Z
omit Z in
theorem z9(h:SA b s)(f:s.wt=VY):SW b s:=⟨h,λ_ _ _ e=>by rw[f]at e;cases e⟩
def Qv(y:SA b p.1)(K:p.1.wt=VY)(E:(k:Int)<b.n)(d:p.1.ac k=VY):SW b (IM b p k).1:=by
 let(G,F):=zt Z y;let(f,z):=vo Z G F E;let N:IM b p k=wE b (pE p.1.ac p.1.oc) (gl p.1 (look b (pE p.1.ac p.1.oc) k),p.2) k (look b (pE p.1.ac p.1.oc) k):=W;rw[N];generalize pE p.1.ac p.1.oc=L at f z G F;generalize look b L k=m at f z;let v:=Ah p.1 m;let j:SA b (gl p.1 m):=BG y;let l:=v.2.trans K;let u:(gl p.1 m).ac k=VY:=by rw[v.1];show d
 generalize gl p.1 m=s2 at j l u;let R:=Z.w1;let A:[k].Nodup:=XI.mpr #[XB,aae];let B:∀x∈[k],(x:Int)<b.n:=λx t=>by simp_all
 let C:∀x∈[k],s2.ac x=VY:=λx t=>by simp_all
 let cm:∀m,VA b.ls.length m->SW b (gw (s2,p.2) k m).1:=λm H=>z9 (j.cm E H) l;cases m with
 |below=>simp_all
 |tap c n=>show#[#[j.ac,j.oc],λ_ _ _ e=>?_];ext e;show#[#[by simp,A,B,C,ZC _,λQ I e=>by ext e;show#[f.1,f.2,W],λe=>by ext e],by ext]
 |WW c=>
  show SW b (if(decide (L=0)&& !(eT b [k]).isEmpty)=V0 then({s2 with wt:=cL ([k],0,VY)},p.2)else gw (s2,p.2) k (.WW c)).1;split
  .rename_i q
   show#[#[j.ac,j.oc],λ_ _ _ e=>?_];ext e;show#[#[by simp,A,B,C,ZC _,λQ I e=>(by ext e),λ_ x t=>?_],by ext];let S:=(VZ _ _▸q:_/\_).2;cases qo:eT b [k]with
   |nil=>simp_all
   |cons c r=>
    let M:c∈eT b [k]:=by simp_all
    let(P,O):=X3.mp M;show(Z.vc c P).2.2.1 x (a6 (Xj.mp O x t))
  .show cm _ f
 |Yq n=>show cm _ f
 |none=>show cm _ trivial
 |once n=>let h:=cm .none trivial;show#[#[h.sa.ac,λo e=>by ext e;show f],λX g w e=>by let e:s2.wt=cL (X,g,w):=e;simp_all]
theorem SW.wd(h:SW b s):WD b s:=λX g w e=>(h.wt X g w e).1
omit Z in
theorem zM(e:bg (Nat×Mn)):∀{p:Ys×Sn},p.1.ac k=VY->k∉e.map (·.1)->(ki p e).1.ac k=VY:=by
 induction e with
 |nil=>exact λh _=>h
 |cons q r f=>intro p h hn;rw[Wl,WE,not_or]at hn;exact f (p:=gw p q.1 q.2) ((gr hn.1).trans h) hn.2
omit Z in
theorem yE(ha:p.1.ac k=VY)(hn:ES p.1.wt k=V4):(dc b p).1.ac k=VY:=by
 unfold dc;split
 .exact ha
 .rename_i X g w q;refine zM _ (p:=({p.1 with wt:=VY},p.2)) ha λz=>?_;rw[q]at hn;obtain⟨x,e,rfl⟩:=WH.mp z;exact of_decide_eq_false hn (Y7 e).1
def GV(e:SW b p.1)(f:(k:Int)<b.n):SW b (mF b p k).1:=by
 ext mF;split
 .show e
 .rename_i q
  rw[Xp,not_or]at q;let l:p.1.ac k=R:=by simp_all
  let j:ES p.1.wt k=I:=by simp_all
  split
  .rename_i h;let(X,g,e1,e2,e3,e4):=yS Z e f l j h;show LY Z e e1 e3 e4
  .let d:=i9 Z e.sa (SW.wd Z e);show Qv Z d.1.sa d.2.1 f (yE l j)
def Eg(j:HS b p Y)(h:SW b p.1)(A:(k:Int)<b.n)(N:p.2.length<800):∃c,gD [.rf 0,.fz (nd k)] Y=.ok (.fz .none) c/\HS b (mF b p k) c:=by
 let O:=Z.n5;let z:k<5:=by ext
 let M:zS (aZ (sT V4 (af (aa 1)) (aJ "Hand" "acts" (am 0)))) (aZ (aL "Hand" "is_waiting" bP 2 (am 0) (ai (af (aa 1)) av))) [cL (.rf 0),-(nd k)] Y=.ok ((p.1.ac k).isSome||ES p.1.wt k) Y:=by
  let I:=bz (ρ:=[cL (.rf 0),-(nd k)]) (i:=0) (m:= "is_waiting") (fa:=ai (af (aa 1)) av) j (by rfl) W (aq (ah (ag W)) aC) W (FD j);let(T,J,y,rfl):=j
  let t:sT V4 (af (aa 1)) (aJ "Hand" "acts" (am 0)) [cL (.rf 0),-(nd k)] (cV b p.1 p.2 T J)=.ok (.fz (.bool (p.1.ac k).isSome)) (cV b p.1 p.2 T J):=
   (zh (ah (ag W)) (gB W) W W).trans (by rw[show jn (T.map jS) (.inl (k:Int))=_ from nw y z];simp_all)
  cases q:(p.1.ac k).isSome with
  |true=>rw[q]at t;rw[YM];show mS (aV t)
  |false=>rw[q]at t;rw[Zz];show kj (aV t) (aV I)
 show iR W (xn M (λq=>?_) λq=>nj ?_)
 .ext mF;rw[ax q];show vX #[W,j]
 rw[ada]at q;let Q:p.1.ac k=R:=by simp_all
 let L:mF b p k=if DT b p.1 k=V0 then u0 b p k else IM b (dc b p) k:=by ext mF;simp_all
 rw[L];let(u,H,l):=Q7 Z j h A q.2;show xn (aV (bz j (by rfl) W (aq (ah (ag W)) aC) W H)) (λo=>?_) λo=>nj ?_
 .rw[ax o];let(X,g,e1,e2,e3,e4):=yS Z h A Q q.2 o;let(e,B,f):=MM Z l h e1 e3 (h.wt _ _ _ e1).1 ();show QI (kJ (bz l (by rfl) W (aq (ah (ag W)) aC) W B) (vX #[W,f]))
 .rw[aE (by rw[o];simp)]
  let d:=i9 Z h.sa (SW.wd Z h);let E:∀e,HS b (dc b p) e->Zb (bc (aL "Hand" "begin" eW 2 (am 0) (ai (af (aa 1)) av)) [cL (.rf 0),-(nd k)] e) (λ_ c=>SV.fz .none=.fz .none/\HS b (IM b (dc b p) k) c) (λ_ _=>False) (λr c=>r=.fz .none/\HS b (IM b (dc b p) k) c):=λe f=>by let(F,K,v):=O8 Z f d.1.sa d.2.1 A ();show iM (bz f (by rfl) W (aq (ah (ag W)) aC) W K) #[W,v]
  cases n:p.1.wt with
  |none=>
   let P:dc b p=p:=by ext dc;rw[n]
   let e1:pI (jG p.1.wt) .none=-(.bool V4):=by rw[n];rfl
   let C:=E u (by simp_all);let(T,J,y,rfl):=l;show r8 (aV (cZ (bv W) (ah aD) (bW e1))) (nj C)
  |some x=>
   let(X,g,w):=x;let e1:pI (jG p.1.wt) .none=-(.bool V0):=by rw[n];rfl
   let(e,B,f):=kW Z l h.sa n (h.wt _ _ _ n).1 ();let G:=bz (ρ:=[cL (.rf 0),-(nd k)]) (i:=0) (m:= "decide") l (by rfl) W aC W B;let(T,J,y,rfl):=l;show vk (aV (cZ (bv W) (ah aD) (bW e1))) (kJ G (E e f))
def nZ(e:SW b p.1)(f:ES p.1.wt k=P):SW b (cy b p k).1/\(cy b p k).2.length<=p.2.length+5:=by
 ext cy;split
 .let d:=i9 Z e.sa (SW.wd Z e);simp_all
 .rename_i X g c n q
  let v:=(e.wt _ _ _ q).1;rw[q]at f;let h:=v.kn k (a6 f);let j:=(v.tp c n W).1;show#[z9 (SA.cm #[e.sa.ac,e.sa.oc] h j) W,?_];let:=rK (p:=({p.1 with wt:=R},p.2)) (k:=k) (a:=.WW c)
  grind
 simp_all
def gR(l:HS b p Y)(f:SW b p.1)(j:ES p.1.wt k=P)(G:p.2.length<800):∃d,fM [.rf 0,.fz (nd k)] Y=.ok (.fz .none) d/\HS b (cy b p k) d:=by
 let I:=Z.n5;cases q:p.1.wt with
 |none=>rw[q]at j;ext j
 |some x=>
  let(X,g,w):=x;let v:=(f.wt _ _ _ q).1;let r:k∈X:=by rw[q]at j;show a6 j
  let e2:aX (jG p.1.wt) (.int 2)=-(sO w):=by rw[q];show rh
  let E:=(zP λc n h=>(v.tp c n h).1).1;let u:∀{Y:aP},bJ (az (aF cP (aa 2) (pC (.tuple [.str "chord"])))) [M (.rf 0),-(nd k),-(sO w)] Y=.ok w.isNone Y:=bu (aN (aB (ag W) aD W W E) W);cases w with
  |none=>
   let es:cy b p k=dc b p:=by ext cy;rw[q]
   rw[es];let(o,t,e):=kW Z l f.sa q v ();let A:=bz (ρ:=[M (.rf 0),-(nd k),-(sO R)]) (i:=0) (m:= "decide") l (by left) W aC W t;let(T,J,y,rfl):=l;show iR W (jq (bX (bv W) (ah aD) e2) W (qB u (iM A #[W,e])))
  |some F=>
   let(c,n):=F;let es:cy b p k=gw ({p.1 with wt:=R},p.2) k (.WW c):=by ext cy;rw[q]
   rw[es];let C:=(v.tp c n W).1;let H:=v.kn k r;let(T,J,y,rfl):=l;let z:HS b ({p.1 with wt:=R},p.2) (cV b {p.1 with wt:=R} p.2 T J):=#[T,J,y,W];let(o,t,e):=qh (k:=k) (a:=.WW c) z (SA.ak Z #[f.sa.ac,f.sa.oc]) C () (show p.2.length<1000 by ext);let B:aX (sO (M (c,n))) (.int 1)=-(.str (jh c)):=jO;show iR W (jq (bX (bv W) (ah aD) e2) W (dR u (Bi (kN R W (ah aD)) (iM (bz z (by left) W (aq (ah (ag W)) (aq (ah (hW (aj aD (aj (aB (ag W) aD W W B) ay)) W (Wc W))) aC)) W t) #[W,e]))))
omit Z in
theorem NN(f:SW b p.1):SW b (go p k).1:=by
 refine⟨f.sa.gg,?_⟩;unfold go;split
 .intro X g w e;obtain⟨v,j⟩:=f.wt X g w e;exact⟨⟨v.ne,v.nd,v.kn,λx h=>by
   by_cases z:x=k
   .rw[z];exact ez
   .exact(gr z).trans (v.kf x h),v.g0,v.tp,v.ch⟩,j⟩
 .exact f.wt
def Jl(e:SW b p.1):SW b (xG b p k).1:=by
 ext xG;split
 .rename_i q;show NN (nZ Z e q).1
 .show NN e
def LS(e:HS b p Y)(h:SW b p.1)(F:(k:Int)<b.n)(y:p.2.length<700):∃c,iH [.rf 0,.fz (nd k)] Y=.ok (.fz .none) c/\HS b (xG b p k) c:=by
 let G:=Z.n5;let j:k<5:=by ext
 let f:∀{p:Ys×Sn} {Y:aP},HS b p Y->SW b p.1->p.2.length<800->Zb (bZ (aZ (sT I (af (aa 1)) (aJ "Hand" "acts" (am 0)))) (bc (aL "Hand" "go" ja 2 (am 0) (ai (af (aa 1)) av))) cJ [M (.rf 0),-(nd k)] Y) (λ_ c=>SV.fz .none=.fz .none/\HS b (go p k) c) (λ_ _=>False) (λr c=>r=.fz .none/\HS b (go p k) c):=λ{p Y} e h y=>by
  cases n:p.1.ac k with
  |none=>
   let C:go p k=p:=by ext go;rw[n]
   rw[C];let(T,J,l,rfl):=e;show dR (aV ((zh (ah (ag W)) (gB W) W W).trans (by rw[show jn (T.map jS) (.inl (k:Int))=_ from nw l j,n];rfl))) (lh #[W,T,J,l,W])
  |some a=>let(t,A,o):=RE e (h.sa.ak Z) n ();let v:=bz (ρ:=[M (.rf 0),-(nd k)]) (i:=0) (m:= "go") (fa:=ai (af (aa 1)) av) e (by rfl) W (aq (ah (ag W)) aC) W A;let(T,J,l,rfl):=e;show qB (aV ((zh (ah (ag W)) (gB W) W W).trans (by rw[show jn (T.map jS) (.inl (k:Int))=_ from nw l j,n];rfl))) (iM v #[W,o])
 show iR W (xn (aV (bz e (by rfl) W (aq (ah (ag W)) aC) W (FD e))) (λq=>?_) λq=>?_)
 .ext xG;rw[ax q];let(u,B,E):=gR Z e h q ();let z:=nZ Z h q;show kJ (bz e (by rfl) W (aq (ah (ag W)) aC) W B) (f E z.1 ())
 .ext xG;rw[aE (by rw[q];simp)];show nj (f e h ())
def Kj(f:SW b p.1):SW b (lQ b p).1:=by
 ext lQ;split
 .show f
 .rename_i X g w q
  let(v,l):=f.wt X g w q;let j:WV b p.1.ac X (g+1) w:=#[v.ne,v.nd,v.kn,v.kf,by let:=v.g0;ext,v.tp,v.ch];split
  .show(i9 Z (p:=({p.1 with wt:=M (X,g+1,w)},p.2)) #[f.sa.ac,f.sa.oc] λ_ _ _ e=>by simp_all).1
  .rename_i h;show#[#[f.sa.ac,f.sa.oc],λ_ _ _ e=>by ext e;show#[j,by ext]]
def Ma(o:HS b p Y)(e:SW b p.1)(t:p.2.length<800):∃c,fq [.rf 0] Y=.ok (.fz .none) c/\HS b (lQ b p) c:=by
 let(T,J,l,rfl):=o;cases q:p.1.wt with
 |none=>
  let h:lQ b p=p:=by ext lQ;rw[q]
  rw[h];let e1:qI (jG p.1.wt) .none=-(.bool P):=by rw[q];rfl
  show iR W (vk (aV (cZ (bv W) (ah aD) (bW e1))) (vX #[W,T,J,l,W]))
 |some x=>
  let(X,g,w):=x;let v:=(e.wt _ _ _ q).1;let n:WV b p.1.ac X (g+1) w:=#[v.ne,v.nd,v.kn,v.kf,by let:=v.g0;ext,v.tp,v.ch];let h:lQ b p=if g+1=b.wt then dc b ({p.1 with wt:=M (X,g+1,w)},p.2)else({p.1 with wt:=M (X,g+1,w)},p.2):=by ext lQ;rw[q]
  rw[h];let e1:qI (jG p.1.wt) .none=-(.bool I):=by rw[q];rfl
  let e0:aX (jG p.1.wt) (.int 0)=-(.tuple (bh X)):=by rw[q];show i7
  let e2:aX (jG p.1.wt) (.int 2)=-(sO w):=by rw[q];show rh
  let e3:aX (jG p.1.wt) (.int 1)=-(.int g):=by rw[q];show jO
  let e4:aX (bD b) (.int 3)=-(.int b.wt):=M6 W;let j:HS b ({p.1 with wt:=M (X,g+1,w)},p.2) (cV b {p.1 with wt:=M (X,g+1,w)} p.2 T J):=#[T,J,l,W];show iR W (r8 (aV (cZ (bv W) (ah aD) (bW e1))) (nj (jq (cZ (bX (bv W) (ah aD) e3) (ah aD) (bW (fL _ _))) W (Bi (kN (M (X,g+1,w)) W (oh (aq (bX (bv W) (ah aD) e0) (aq (ah (ag W)) (aq (bX (bv W) (ah aD) e2) aC))) (Wc W))) (xH (aV (cZ (ah (ag W)) (bX (om W) (ah aD) e4) (bW (iG _ _)))) (λz=>?_) λz=>?_)))))
  .rw[ax (a6 z)];let(m,r,f):=kW Z j #[e.sa.ac,e.sa.oc] W n (show p.2.length<900 by ext);show iM (bz j (by rfl) W aC W r) #[W,f]
  .rw[aE (of_decide_eq_false z)];show lh #[W,j]
def ZM.aee:ZM->Bool
 |.turn=>P
 |_=>I
def ZM.isDown:ZM->Bool
 |.down _=>P
 |_=>I
def EV(b:Bd):ZM->Prop
 |.down k=>(k:Int)<b.n
 |.up k=>(k:Int)<b.n
 |.turn=>True
def vT(f:SW b s)(h:EV b e):SW b (aH b s e).1:=by
 cases e with
 |down k=>show GV Z f h
 |up k=>show Jl Z f
 |turn=>show Kj Z f
omit Z in
theorem tG:∀l:bg (Nat×Mn),aA rN (l.map pD)=cL (l.map jS)
 |[]=>rfl
 |q::r=>by rw[Wl];unfold aA;rw[tG r];rfl
omit Z in
theorem wF:∀(l acc:bg (Nat×Mn)),((acc++l).map (·.1)).Nodup->ma (acc.map jS) (l.map jS)=(acc++l).map jS
 |[],acc,_=>by rw[WL];rfl
 |q::r,acc,h=>by
  have hn:∀x∈acc,x.1≠q.1:=λx f e=>by rw[Wu,YO]at h;exact h.2.2 _ (WH.mpr ⟨x,f,rfl⟩) q.1 Wk e
  have e1:jF (acc.map jS) (jS q).1 (jS q).2=(acc++[q]).map jS:=by
   unfold jF;rw[aE ?_,Wu]
   .rfl
   .intro z;obtain⟨o,n,m⟩:=aa0.mp z;obtain⟨x,j,rfl⟩:=WH.mp n;have:=Sum.inl.inj (a6 m);exact hn x j (by ext)
  show ma (jF (acc.map jS) (jS q).1 (jS q).2) (r.map jS)=_;rw[e1,wF r (acc++[q]) (by rw[Wy];exact h),Wy];rfl
omit Z in
theorem Kd:dC [.rf 0,.fz (bD b),.fz (dH s)] [.obj "Hand" []]=.ok (.fz .none) (cV b s [] (gO s.ac) []):=by
 have e0:aX (dH s) (.int 0)=-(.tuple ((gO s.ac).map pD)):=i7;have e1:aX (dH s) (.int 1)=-(jG s.wt):=jO;have e2:aX (dH s) (.int 2)=-(sV s.oc):=rh;have v:fH "bed" (.fz (bD b)) []=([("bed",.fz (bD b))]:bg (Str×SV)):=rfl;have q:fH "acts" (.rf 1) ([("bed",.fz (bD b))]:bg (Str×SV))=([("bed",.fz (bD b)),("acts",.rf 1)]:bg (Str×SV)):=by unfold fH;rw[aE (by left)];rfl
 have o:fH "waiting" (.fz (jG s.wt)) ([("bed",.fz (bD b)),("acts",.rf 1)]:bg (Str×SV))=([("bed",.fz (bD b)),("acts",.rf 1),("waiting",.fz (jG s.wt))]:bg (Str×SV)):=by unfold fH;rw[aE (by left)];unfold fH;rw[aE (by left)];rfl
 have n:fH "once" (.fz (sV s.oc)) ([("bed",.fz (bD b)),("acts",.rf 1),("waiting",.fz (jG s.wt))]:bg (Str×SV))=([("bed",.fz (bD b)),("acts",.rf 1),("waiting",.fz (jG s.wt)),("once",.fz (sV s.oc))]:bg (Str×SV)):=by unfold fH;rw[aE (by left)];unfold fH;rw[aE (by left)];unfold fH;rw[aE (by left)];rfl
 have m:fH "sent" (.rf 2) ([("bed",.fz (bD b)),("acts",.rf 1),("waiting",.fz (jG s.wt)),("once",.fz (sV s.oc))]:bg (Str×SV))=Mw b s:=by unfold fH;rw[aE (by left)];unfold fH;rw[aE (by left)];unfold fH;rw[aE (by left)];unfold fH;rw[aE (by left)];rfl
 have r:ma [] ((gO s.ac).map jS)=(gO s.ac).map jS:=wF (gO s.ac) [] (qH s.ac);have j:∀{x:SV} {ρ:aW} {fs:bg (Str×SV)} {Y:aP} {l:c8} {f:Str} {c:Cell} {e:aP},ρ[0]?=cL (cL (.rf 0))->l ρ Y=.ok x (.obj "Hand" fs::e)->fs.length<100->dM "Hand" f (am 0) l ρ Y=.ok (.nx ρ) (.obj "Hand" (fH f x fs)::e):=λh u t=>(jx u (aQ h) rfl t).trans rfl
 have ha:tM (af (aF aX (aa 2) (~~~0))) [cL (.rf 0),-(bD b),-(dH s)] [.obj "Hand" ([("bed",.fz (bD b))]:bg (Str×SV))]=.ok (.rf 1) [.obj "Hand" ([("bed",.fz (bD b))]:bg (Str×SV)),.dct ((gO s.ac).map jS)]:=
  (JS (ah (d:=.tuple ((gO s.ac).map pD)) (aB (rv:=.fz (.tuple ((gO s.ac).map pD))) (ag rfl) aD rfl rfl e0)) (tG _)).trans (by rw[r];rfl)
 refine nv (ρ:=[cL (.rf 0),-(bD b),-(dH s)]) (ρ1:=[cL (.rf 0),-(bD b),-(dH s)]) rfl (ci (j rfl (c:=.dead) (ah (d:=bD b) (ag rfl)) (Wc rfl)) (ci (j rfl (c:=.dead) ha (Wc rfl)) (ci (j rfl (c:=.dead) (ah (d:=jG s.wt) (aB (rv:=.fz (jG s.wt)) (ag rfl) aD rfl rfl e1)) (Wc rfl)) (ci (j rfl (c:=.dead) (ah (d:=sV s.oc) (aB (rv:=.fz (sV s.oc)) (ag rfl) aD rfl rfl e2)) (Wc rfl)) ?_))));rw[q,o,n];refine(j (fs:=([("bed",.fz (bD b)),("acts",.rf 1),("waiting",.fz (jG s.wt)),("once",.fz (sV s.oc))]:bg (Str×SV))) rfl (c:=.dead) (dS (ds:=[]) (qG ay rfl (W8 _))) (Wc rfl)).trans ?_;show RS.ok _ (Cell.obj "Hand" (fH "sent" (.rf 2) ([("bed",.fz (bD b)),("acts",.rf 1),("waiting",.fz (jG s.wt)),("once",.fz (sV s.oc))]:bg (Str×SV)))::_)=_;rw[m];rfl
omit Z in
theorem Jg(e:ZM):∃x:Str,aX (fC e) (.int 0)=-(.str x)/\cP (.str x) (.str "turn")=-(.bool (e.aee))/\cP (.str x) (.str "down")=-(.bool (e.isDown)):=by
 have h:V3.strOk "down"=V0:=by left
 have j:V3.strOk "up"=V0:=by left
 have f:V3.strOk "turn"=V0:=by left
 cases e with
 |down k=>exact⟨"down",i7,A1 h f (by left),NT h⟩
 |up k=>exact⟨"up",i7,A1 j f (by left),A1 j h (by left)⟩
 |turn=>exact⟨"turn",i7,NT f,A1 f h (by left)⟩
def ME(q:SW b s)(y:EV b e):∃c,kE [.fz (bD b),.fz (dH s),.fz (fC e)] []=.ok (.tp [.rf 2,.fz (dH (aH b s e).1)]) c/\sh c (.rf 2)=M (.list ((aH b s e).2.map ir)):=by
 let f:HS b (s,[]) (cV b s [] (gO s.ac) []):=#[gO s.ac,[],.refl _,W];let(x,u,A,z):=Jg e;let o:∀{Y:aP},bJ (az (aF cP (aF aX (aa 2) (~~~0)) (pC (.str "turn")))) [-(bD b),-(dH s),-(fC e),M (.rf 0)] Y=.ok (e.aee) Y:=bu (aN (aB (aB (ag W) aD W W u) aD W W A) W);let v:∀{Y:aP},bJ (az (aF cP (aF aX (aa 2) (~~~0)) (pC (.str "down")))) [-(bD b),-(dH s),-(fC e),M (.rf 0)] Y=.ok (e.isDown) Y:=bu (aN (aB (aB (ag W) aD W W u) aD W W z) W);let l:∀{Y:aP},HS b (aH b s e) Y->Zb (fK (ky (ai (aJ "Hand" "sent" (am 3)) (ai (aL "Hand" "stands" bw 1 (am 3) av) av))) [-(bD b),-(dH s),-(fC e),M (.rf 0)] Y) (λ_ c=>SV.fz .none=.tp [.rf 2,.fz (dH (aH b s e).1)]/\sh c (.rf 2)=M (.list ((aH b s e).2.map ir))) (λ_ _=>False) (λr c=>r=.tp [.rf 2,.fz (dH (aH b s e).1)]/\sh c (.rf 2)=M (.list ((aH b s e).2.map ir))):=λ{Y} L=>by let(h,j,n):=oJ L;let m:=bz (ρ:=[-(bD b),-(dH s),-(fC e),M (.rf 0)]) (i:=3) (m:= "stands") L (by rfl) W aC W j;let(T,J,F,rfl):=L;let(C,G,E,rfl):=n;show Pk (NX (aq (vq W) (aq m aC)) (Wc W) W W) #[W,df W]
 let B:qU "Hand" dC 3 (ai (af (aa 0)) (ai (af (aa 1)) av)) [-(bD b),-(dH s),-(fC e),R] []=.ok (.rf 0) (cV b s [] (gO s.ac) []):=P1 (aq (ah (ag W)) (aq (ah (ag W)) aC)) W Kd;show iR W (jq B W ?_);cases e with
 |turn=>let(h,j,n):=Ma Z f q (show 0<800 by decide);show vk o (kJ (bz f (by rfl) W aC W j) (l n))
 |down k=>let(h,j,n):=Eg Z f q y (show 0<800 by decide);let t:aX (fC (.down k)) (.int 1)=-(nd k):=jO;show r8 o (vk v (kJ (bz f (by rfl) W (aq (ah (aB (ag W) aD W W t)) aC) W j) (l n)))
 |up k=>let(h,j,n):=LS Z f q y (show 0<700 by decide);let t:aX (fC (.up k)) (.int 1)=-(nd k):=jO;show r8 o (r8 v (kJ (bz f (by rfl) W (aq (ah (aB (ag W) aD W W t)) aC) W j) (l n)))
def RJ{e:ZM}(h:SW b s)(l:EV b e):t8 kE 3 [.fz (bD b),.fz (dH s),.fz (fC e)] Y=.ok (.tp [.rf Y.length,.fz (dH (aH b s e).1)]) (Y++[.lst (((aH b s e).2.map ir).map .fz)]):=by
 let(f,n,m):=ME Z h l;ext t8;rw[ax (show([.fz (bD b),.fz (dH s),.fz (fC e)]:G SV).length=3 from rfl),show aA yl [.fz (bD b),.fz (dH s),.fz (fC e)]=M [bD b,dH s,fC e]from rfl];dsimp only;rw[show[bD b,dH s,fC e].map SV.fz=[.fz (bD b),.fz (dH s),.fz (fC e)]from rfl,n];show(match DA f Y.length [.rf 2,.fz (dH (aH b s e).1)]with
  |some (o,cs,q)=>if q.Nodup then RS.ok (SV.tp o) (Y++cs.map TX)else .bad
  |none=>.bad)=_
 let j:DA f Y.length [.rf 2,.fz (dH (aH b s e).1)]=M ([.rf Y.length,.fz (dH (aH b s e).1)],[(aH b s e).2.map ir],[2]):=by ext DA;rw[m];rfl
 rw[j];dsimp only;rw[ax ()];rfl
end
def Oa:Ys:=#[λ_=>R,R,R]
theorem Ba(b:Bd):SW b Oa:=#[#[λk a e=>(by ext e),λo e=>(by ext e)],λf g w e=>(by ext e)]
theorem mX{α:Type}{f:α->D}:∀{l:G α},(∀a∈l,V3.canLay0 (f a)=P)->V3.canLayAll0 (l.map f)=P
 |[],_=>rfl
 |a::r,h=>by show(V3.canLay0 (f a)&&V3.canLayAll0 (r.map f))=P;rw[h a Wk,mX λx b=>h x (Wf _ b)];rfl
theorem iJ{α:Type}{f:α->D}{n:Nat}:∀{l:G α},(∀a∈l,V3.depth (f a)<=n)->V3.depthAll (l.map f)<=n
 |[],_=>W8 _
 |a::r,h=>aiZ.mpr #[h a Wk,iJ λx b=>h x (Wf _ b)]
def Nq{d:D}(b:V3.canLay0 d=P)(a:V3.depth d<=64):lO d=P:=by ext lO;simp_all
def vg{d:D}(h:lO d=P):V3.canLay0 d=P:=by unfold lO at h;simp_all
def p9{d:D}(h:lO d=P):sI d d=-(.bool I):=by ext sI;rw[h,vg h,Yj,ax W,ZG d (vg h)];rfl
def Jo{d:D}(h:lO d=P):cP d d=-(.bool P):=by ext cP;rw[h,vg h,Yj,ax W,ZG d (vg h)]
def Zf(sn:Sn):Prop:=∀q∈sn,q.1<26
def JI{q:Nat×Bool}(h:q.1<26):V3.canLay0 (ir q)=P:=by show(V3.strOk (jh q.1)&&(V3.strOk (if q.2=P then "down" else "up")&&P))=P;rw[lW h];cases q.2<;>left
theorem Bx(q:Nat×Bool):V3.depth (ir q)<=1:=Wc W
section
variable{b:Bd}(Z:VB b){s:Ys}{p:Ys×Sn}{k:Nat}{a:Mn}
theorem Zf.app{x y:Sn}(f:Zf x)(e:Zf y):Zf (x++y):=λq g=>(W7.mp g).elim (f q) (e q)
def kH(h:Zf p.2)(d:LB a):Zf (gw p k a).2:=by
 show h.app λq e=>?_;cases a with
 |WW c=>
  let e:q∈(if nu p.1.ac (.WW c)=P then[]else[(c,P)]:Sn):=e;split at e
  .ext e
  .rw[WI.mp e];show d
 |_=>ext e
def Ft(e:G (Nat×Mn)):∀{p:Ys×Sn},Zf p.2->(∀q∈e,LB q.2)->Zf (ki p e).2:=by
 induction e with
 |nil=>show λh _=>h
 |cons q r g=>show λh f=>g (kH h (f q Wk)) λx i=>f x (Wf _ i)
def NZ(h:Zf p.2)(d:SA b p.1):Zf (go p k).2:=by
 ext go;split
 .rename_i a q
  let lb:=(d.ac k a q).2.lb;show h.app λx e=>?_;cases a with
  |WW c=>
   let e:x∈(if nu (lK p.1.ac k R) (.WW c)=P then[]else[(c,I)]:Sn):=e;split at e
   .ext e
   .rw[WI.mp e];show lb
  |_=>ext e
 .show h
include Z
def m9(h:Zf p.2)(i:WD b p.1):Zf (dc b p).2:=by
 ext dc;split
 .show h
 .rename_i e g w q;show Ft _ (p:=({p.1 with wt:=R},p.2)) h λx f=>(vM Z (i e g w q) x f).2.lb
def Qi(h:Zf p.2)(f:SA b p.1)(i:(k:Int)<b.n):Zf (IM b p k).2:=by
 let(o,l):=zt Z f;let(e,g):=vo Z (k:=k) o l i;let j:IM b p k=wE b (pE p.1.ac p.1.oc) (gl p.1 (look b (pE p.1.ac p.1.oc) k),p.2) k (look b (pE p.1.ac p.1.oc) k):=W;rw[j];generalize look b (pE p.1.ac p.1.oc) k=m at e g;generalize pE p.1.ac p.1.oc=L at e;let lb:=e.lb;cases m with
 |tap c n=>show h
 |WW c=>
  show Zf (if(decide (L=0)&& !(eT b [k]).isEmpty)=P then({gl p.1 (.WW c)with wt:=M ([k],0,R)},p.2)else gw (gl p.1 (.WW c),p.2) k (.WW c)).2;split
  .show h
  .show kH (p:=(gl p.1 (.WW c),p.2)) h lb
 |Yq n=>show kH (p:=(gl p.1 (.Yq n),p.2)) h lb
 |once n=>show kH (p:=(gl p.1 (.once n),p.2)) (k:=k) (a:=.none) h trivial
 |none=>show kH (p:=(gl p.1 .none,p.2)) h lb
 |below=>simp_all
def Ay{e:ZM}(h:SW b s)(j:EV b e):Zf (aH b s e).2:=by
 let f:Zf []:=λq m=>by ext m
 cases e with
 |turn=>
  show Zf (lQ b (s,[])).2;ext lQ;split
  .show f
  .rename_i i g w q
   let v:=(h.wt i g w q).1;split
   .show m9 Z (p:=({s with wt:=M (i,g+1,w)},[])) f λ_ _ _ e=>by ext e;show#[v.ne,v.nd,v.kn,v.kf,by let:=v.g0;ext,v.tp,v.ch]
   .show f
 |up k=>
  show Zf (xG b (s,[]) k).2;ext xG;split
  .rename_i q
   let z:=nZ Z (p:=(s,[])) h q;show NZ ?_ z.1.sa;ext cy;split
   .show m9 Z (p:=(s,[])) f (SW.wd Z h)
   .rename_i c n e;let o:c<26:=((h.wt _ _ _ e).1.tp c n W).1;show kH (p:=({s with wt:=R},[])) f o
   .show f
  .show NZ (p:=(s,[])) f h.sa
 |down k=>
  show Zf (mF b (s,[]) k).2;ext mF;split
  .show f
  .rename_i q
   rw[Xp,not_or]at q;let t:s.ac k=R:=by simp_all
   let r:ES s.wt k=I:=by simp_all
   split
   .rename_i l
    let(i,g,e1,e2,e3,e4):=yS Z (p:=(s,[])) h j t r l;let e1:s.wt=M (i,g,R):=e1;ext u0;dsimp only;rw[e1];dsimp only;split
    .show m9 Z (p:=({s with wt:=M (i++[k],g,R)},[])) f λ_ _ _ e=>by ext e;show e3
    .show f
   .let d:=i9 Z (p:=(s,[])) h.sa (SW.wd Z h);show Qi Z (m9 Z (p:=(s,[])) f (SW.wd Z h)) d.1.sa j
end
end STP
namespace K42
open PySem L2 L3 STP
def iy:FS:=(bp (jD (az (aF J1 (aa 1) (dU br {aa 0}))) (cR (aF aX (aa 0) (aa 1))) cC)
 (cR (~~~0)))
def bN:FN:=gj 2 iy
def eR:FS:=(bp (jD (xq (az (aF J1 (aa 0) (~~~0))) (az (aF N8 (aa 0) (aF EF (~~~10) (~~~18))))) (bp (mV (lH gv {aa 1}) (gN 3) (gJ (aF zH (aa 0) (~~~1000)) (gN 0)))
 (cR (aF pG (aa 0) (aa 2)))) cC)
 (bp (gJ (aF gL (aF c7 (aF c7 (aF pG (aa 0) (~~~1000033)) (aF gL (~~~77) (aa 1))) (~~~5)) (aF c7 (aF gL (aa 1) (aa 1)) (~~~40009))) (gN 4))
 (cR (aF pG (aF zH (aF pG (aF c7 (aF gL (aF pG (aa 4) (~~~998857)) (~~~30011)) (aa 1)) (~~~999983)) (~~~3)) (aa 2)))))
def aR:FN:=gj 5 eR
def fR:FS:=(cR (aF gf (pC (.str "abz")) (d8 aR 3 {aa 0,aa 1,~~~3})))
def cK:FN:=gj 2 fR
def cX:FS:=(bp (gJ (d8 aR 3 {aa 0,~~~11,~~~12}) (gN 3))
 (bp (jD (az (aF cP (aa 2) (~~~1))) (gJ (aF aX (cx {~~~1,~~~1,~~~1,~~~8}) (d8 aR 3 {aa 0,~~~12,~~~4})) (gN 3)) cC)
 (bp (gJ (aF c7 (~~~1) (d8 aR 3 {aa 0,~~~13,dU sj {~~~1,aF rM (aa 2) (~~~1)}})) (gN 4))
 (bp (jD (xq (az (aF cP (aa 3) (~~~4))) (az (aF cP (aa 3) (~~~5)))) (cR (b7 {pC (.str "layer"),aa 4})) cC)
 (bp (jD (xq (az (aF cP (aa 3) (~~~6))) (az (aF cP (aa 3) (~~~7)))) (cR (b7 {pC (.str "tap"),d8 cK 2 {aa 0,~~~14},aa 4})) cC)
 (bp (jD (az (aF cP (aa 3) (~~~8))) (cR (b7 {pC (.str "none")})) cC)
 (bp (jD (az (aF cP (aa 3) (~~~9))) (cR (b7 {pC (.str "once"),aa 4})) cC)
 (bp (jD (x4 (az (aF DB (aa 3) (~~~9))) (az (aF DB (aa 1) (~~~0)))) (cR (b7 {pC (.str "below")})) cC)
 (cR (b7 {pC (.str "letter"),d8 cK 2 {aa 0,~~~15}}))))))))))
def dP:FN:=gj 5 cX
def dD:FS:=(bp (gJ (cx ar) (gN 3))
 (bp (mV (lH gv {aF Jt (~~~1) (aa 1)}) (gN 4) (bp (gJ (dU eE {cQ 1 [4] (lH gv {aa 1}) (gN 0) (az (aF cP (aF yd (aF D4 (aa 1) (aa 0)) (~~~1)) (~~~1))) (aa 0)}) (gN 5))
 (bp (gJ (nt (aF DB (dU br {aa 5}) (~~~1)) (dU pM {cQ 1 [2] (dZ (aa 5)) (gN 0) b9 (aF cP (aF aX (aF aX (aa 1) (aa 0)) (~~~0)) (pC (.str "letter")))})) (gN 6))
 (jD (x4 (az (aa 6)) (x4 (az (aF J1 (dU br {aa 3}) (~~~4))) (az (aF cP (d8 aR 3 {aa 0,aF c7 (~~~20) (aa 4),~~~3}) (~~~0))))) (o9 (yH 3 (b7 {aa 5,aF gf (pC (.str "abcz")) (d8 aR 3 {aa 0,aF c7 (~~~40) (aa 4),~~~4})}))) cC))))
 (cR (dU eE {aa 3}))))
def fU:FN:=gj 7 dD
def fG:FS:=(bp (gJ (d8 bN 2 {aa 0,aa 1}) (gN 3))
 (bp (gJ (aF aX (cx (ae (~~~1) {~~~2,~~~2,~~~2,~~~3})) (d8 aR 3 {aa 3,~~~5,~~~5})) (gN 4))
 (bp (gJ (cx ar) (gN 5))
 (bp (mV (lH gv {aa 4}) (gN 6) (bp (gJ (cQ 1 [0,1,2,6] (lH gv {aa 2}) (gN 0) b9 (d8 bN 2 {aa 1,aF c7 (aF c7 (aF c7 (aa 2) (~~~1)) (aF gL (aa 3) (aa 4))) (aa 0)})) (gN 7))
 (o9 (yH 5 (dU eE {cQ 1 [6,4] (dZ (aa 7)) (gN 0) b9 (d8 dP 3 {aa 0,aa 1,aa 2})})))))
 (bp (gJ (d8 fU 3 {d8 bN 2 {aa 0,aF c7 (aa 1) (~~~10)},aa 2,aF aX (aa 5) (~~~0)}) (gN 8))
 (cR (b7 {aa 2,dU eE {aa 5},aa 8,aF c7 (~~~1) (d8 aR 3 {aa 3,~~~6,aF aX (cx {~~~4,~~~4,~~~2}) (aF rM (aa 2) (~~~1))})})))))))
def ji:FN:=gj 9 fG
def iz:FS:=(cR (aF aX (cx {~~~1,~~~2,~~~2,~~~3}) (d8 aR 3 {d8 bN 2 {aa 0,~~~0},~~~1,~~~4})))
def iP:FN:=gj 1 iz
def gb:FS:=(bp (gJ (cQ 1 [] (lH gv {aF aX (aa 0) (~~~0)}) (gN 0) b9 (b7 {pC (.str "down"),aa 0})) (gN 1))
 (bp (gJ (cQ 1 [] (lH gv {aF aX (aa 0) (~~~0)}) (gN 0) b9 (b7 {pC (.str "up"),aa 0})) (gN 2))
 (cR (aF c7 (aF c7 (aa 1) (aa 2)) (cx {b7 {pC (.str "turn"),~~~0}})))))
def eO:FN:=gj 3 gb
def iE:FS:=(bp (jD (lw (az (jW "tuple" (aa 0)))) (cR (pC (.bool I))) cC)
 (bp (mV (dZ (aa 0)) (gN 1) (bp (jD (xq (lw (az (jW "tuple" (aa 1)))) (xq (az (aF sI (dU br {aa 1}) (~~~2))) (lw (az (dU pM {cQ 1 [] (dZ (aa 1)) (gN 0) b9 (jW "str" (aa 0))}))))) (cR (pC (.bool I))) cC)
 (jD (az (aF sL (aF aX (aa 1) (~~~1)) (cx {pC (.str "down"),pC (.str "up")}))) (cR (pC (.bool I))) cC)))
 (cR (pC (.bool P)))))
def eN:FN:=gj 2 iE
def fO:FS:=(bp (jD (xq (lw (az (jW "tuple" (aa 0)))) (az (aF sI (dU br {aa 0}) (~~~2)))) (cR (pC (.bool I))) cC)
 (bp (jD (xq (lw (az (jW "tuple" (aF aX (aa 0) (~~~0))))) (xq (lw (az (jW "tuple" (aF aX (aa 0) (~~~1))))) (az (aF sI (dU br {aF aX (aa 0) (~~~0)}) (dU br {aF aX (aa 0) (~~~1)}))))) (cR (pC (.bool I))) cC)
 (bp (mV (dZ (aF aX (aa 0) (~~~0))) (gN 2) (bp (jD (xq (lw (az (jW "tuple" (aa 2)))) (az (aF sI (dU br {aa 2}) (aa 1)))) (cR (pC (.bool I))) cC)
 (mV (dZ (aa 2)) (gN 3) (jD (xq (lw (az (jW "int" (aa 3)))) (xq (az (jW "bool" (aa 3))) (lw (az (lX N3 J1 (~~~0) (aa 3) (dU br {aF aX (aa 0) (~~~0)})))))) (cR (pC (.bool I))) cC))))
 (cR (dU pM {cQ 1 [1] (dZ (aF aX (aa 0) (~~~1))) (gN 0) b9 (nt (jW "tuple" (aa 0)) (nt (aF cP (dU br {aa 0}) (aa 1)) (dU pM {cQ 1 [] (dZ (aa 0)) (gN 0) b9 (d8 eN 1 {aa 0})})))})))))
def fY:FN:=gj 4 fO
end K42
namespace K42
open PySem L2 L3 L10 STP
def bK:dX:=(aG (bZ (aZ (tX P (af (aa 1)) (aJ "Places" "numbers" (am 0)))) (aG (bZ (aZ (jK N8 (i4 br (ai (aJ "Places" "found" (am 0)) av)) (aJ "Places" "most" (am 0)))) (nI "TooMany" "most" (aJ "Places" "most" (am 0))) cJ)
 (aG (se (aJ "Places" "numbers" (am 0)) (af (aa 1)) (i4 br (ai (aJ "Places" "found" (am 0)) av)))
 (bc (jB (aJ "Places" "found" (am 0)) (af (b7 {aa 1,aa 2,aa 3})))))) cJ)
 (fK (nV (aJ "Places" "numbers" (am 0)) (af (aa 1)))))
def bA:fD:=cz 4 bK
def bB:dX:=(aG (dM "Places" "most" (am 0) (af (aa 2)))
 (aG (dM "Places" "found" (am 0) (af (cx ar)))
 (aG (dM "Places" "numbers" (am 0) rc)
 (bc (jH "Places" "enter" bA 4 (am 0) (ai (af (aa 1)) (ai (af (pC .none)) (ai (af (pC .none)) av))))))))
def cB:fD:=cz 3 bB
def ko:dX:=(aG (b8 (ke (af (d8 eO 1 {aa 0}))) (cT 2))
 (aG (b8 (yT "Places" cB 3 (ai (af (pC (.tuple [(.tuple []),.none,.none]))) (ai (af (aa 1)) av))) (cT 3))
 (aG (b8 (af (cx ar)) (cT 4))
 (aG (b8 (af (cx ar)) (cT 5))
 (aG (lY (aZ (jK J1 (i4 br (ai (am 4) av)) (i4 br (ai (aJ "Places" "found" (am 3)) av)))) (aG (b8 (i4 br (ai (am 4) av)) (cT 6))
 (aG (b8 (gf (gf (aJ "Places" "found" (am 3)) (af (aa 6))) (af (~~~0))) (cT 7))
 (aG (b8 (ke (dw 1 [0,7] (ei (dZ (aa 2))) (cT 0) bV (tF STP.kE 3 (ai (af (aa 1)) (ai (af (aa 2)) (ai (af (aa 0)) av)))))) (cT 8))
 (aG (bc (jB (am 4) (i4 eE (ai (oK 2 [3,6] (ei (uC {aa 2,aa 8})) (Oh 2 (pB (cT 0) (pB (cT 1) zb))) bV (jH "Places" "enter" bA 4 (am 2) (ai (af (aF aX (aa 1) (~~~1))) (ai (af (aa 3)) (ai (af (aa 0)) av))))) av))))
 (bc (jB (am 5) (af (dU eE {cQ 1 [] (dZ (aa 8)) (gN 0) b9 (dU eE {aF aX (aa 0) (~~~0)})})))))))))
 (fK (ky (ai (aJ "Places" "found" (am 3)) (ai (am 4) (ai (am 5) av))))))))))
def iq:fD:=cz 9 ko
def mY:dX:=(fK (gf (tQ iq 2 [] (ai (af (aa 0)) (ai (af (aa 1)) av))) (af (~~~0))))
def cA:fD:=cz 2 mY
def ic:dX:=(aG (b8 rc (cT 1))
 (fK (dw 1 [1] (ef (am 0)) (cT 0) bV (tj (am 1) (af (aa 0)) (mh (am 1))))))
def de:fD:=cz 2 ic
def dL:dX:=(aG (b8 (gf (aJ "Sorting" "rounds" (am 0)) (af (CP pP (~~~1)))) (cT 2))
 (fK (ky (ai (gf (am 2) (af (aa 1))) (ai (i4 eE (ai (dw 1 [2] (ef (gf (aJ "Sorting" "steps" (am 0)) (af (aa 1)))) (cT 0) bV (gf (am 1) (af (aa 0)))) av)) av)))))
def aY:fD:=cz 3 dL
def dh:dX:=(aG (b8 (ke (tQ iq 2 [] (ai (af (aa 1)) (ai (af (aa 2)) av)))) (cT 3))
 (aG (dM "Sorting" "steps" (am 0) (af (aF aX (aa 3) (~~~1))))
 (aG (dM "Sorting" "sends" (am 0) (af (aF aX (aa 3) (~~~2))))
 (aG (dM "Sorting" "rounds" (am 0) (af (cx ar)))
 (aG (b8 (j6 de 1 (ai (aJ "Sorting" "sends" (am 0)) av)) (cT 4))
 (lY (zS (aZ (jK cP (aJ "Sorting" "rounds" (am 0)) (af (cx ar)))) (aZ (jK DB (i4 gx (ai (am 4) av)) (i4 gx (ai (gf (aJ "Sorting" "rounds" (am 0)) (af (CP pP (~~~1)))) av))))) (aG (bc (jB (aJ "Sorting" "rounds" (am 0)) (am 4)))
 (b8 (j6 de 1 (ai (dw 1 [0] (jr (i4 br (ai (aJ "Sorting" "steps" (am 0)) av))) (cT 0) bV (aL "Sorting" "mark_of" aY 2 (am 1) (ai (af (aa 0)) av))) av)) (cT 4)))))))))
def cg:fD:=cz 5 dh
def lc:dX:=(aG (b8 (yT "Sorting" cg 3 (ai (af (aa 0)) (ai (af (aa 1)) av))) (cT 2))
 (aG (b8 (ke (gf (aJ "Sorting" "rounds" (am 2)) (af (CP pP (~~~1))))) (cT 3))
 (aG (b8 (ke (af (cQ 1 [3] (lH gv {aF c7 (dU L10.gx {aa 3}) (~~~1)}) (gN 0) b9 (L10.C8 1 (aa 0))))) (cT 4))
 (aG (b8 (i4 eE (ai (dw 1 [2,3] (ei (dZ (aa 4))) (cT 0) bV (i4 eE (ai (dw 1 [2] (ef (gf (aJ "Sorting" "steps" (am 1)) (af (aa 0)))) (cT 0) bV (af (aF aX (aa 1) (aa 0)))) av))) av)) (cT 5))
 (fK (ky (ai (af (aa 5)) (ai (i4 eE (ai (dw 1 [2] (ei (dZ (aa 4))) (cT 0) bV (gf (aJ "Sorting" "sends" (am 1)) (af (aa 0)))) av)) av))))))))
def d4:fD:=cz 6 lc
def b6:fD
 |[.fz b],e=>(match cA [.fz b,.fz (.int 90)] e with
  |.ok x a=>(match sh a x with
   |some (.list ds)=>.ok (.fz (nd ds.length)) a
   |_=>.bad)
  |.er x a=>if x.cls=("TooMany":Str)then .ok (.fz .none) a else .bad
  |_=>.bad)
 |_,_=>.bad
def A3:dX:=(aG (b8 (af (d8 ji 3 {aa 0,~~~1,d8 iP 1 {aa 0}})) (cT 1))
 (aG (b8 (j6 b6 1 (ai (af (aa 1)) av)) (cT 2))
 (aG (bZ (bJ (az (aF qI (aa 2) (pC .none)))) (fK (af (pC (.bool P)))) cJ)
 (aG (b8 (nM d4 2 [] (ai (af (aa 1)) (ai (af (~~~90)) av))) (cT 3))
 (aG (bZ (bJ (xq (lw (az (d8 fY 2 {aa 3,dU br {d8 eO 1 {aa 1}}}))) (lw (az (lX N3 N3 (~~~1) (dU br {aF aX (aa 3) (~~~0)}) (aa 2)))))) (fK (af (pC (.bool I)))) cJ)
 (aG (b8 (af (~~~1)) (cT 4))
 (aG (uX (ei (lH gv {dU br {aF aX (aa 3) (~~~0)}})) (cT 5) (aG (bZ (bJ (az (aF N8 (aa 5) (aa 4)))) (fK (af (pC (.bool I)))) cJ)
 (uX (ei (dZ (aF aX (aF aX (aa 3) (~~~0)) (aa 5)))) (cT 6) (aG (bZ (bJ (az (aF DB (aa 6) (aa 4)))) (fK (af (pC (.bool I)))) cJ)
 (b8 (af (dU sj {aa 4,aF c7 (aa 6) (~~~1)})) (cT 4))))))
 (fK (wQ (af (aF cP (aa 4) (dU br {aF aX (aa 3) (~~~0)}))) (jK cP (nM d4 2 [(.int 400)] (ai (af (aa 1)) av)) (af (aa 3))))))))))))
def F_law:fD:=cz 7 A3
abbrev zf(d:D):z PV:=-(d)
abbrev zo(l:G D):z PV:=M (.ow l)
def pR(ns:G Int)(k:Nat):∃c:Int,bN [.list (ns.map .int),nd k]=.ok (.fz (.int c)):=by
 let a:br [.list (ns.map .int)]=-(nd ns.length):=(gZ _).trans (by rw[V1]);let lt:=ou (k:Int) (ns.length:Int);by_cases h:k<ns.length
 .rw[a4 ()]at lt;let e:aX (.list (ns.map .int)) (nd k)=-(.int ns[k]):=wz (by rw[Wg,V9 h];rfl);show#[ns[k],g8 (ρ:=[zf (.list (ns.map .int)),zf (nd k)]) W (iw (b:=P) (aN (aB (rv:=.fz (.bool P)) (ag W) (bU (rv:=.fz (nd ns.length)) (aj (ag W) ay) W a) W W lt) W) (λ_=>iX (pv:=.fz (.int ns[k])) (rv:=.fz (.int ns[k])) (aB (rv:=.fz (.int ns[k])) (ag W) (ag W) W W e) W W) λq=>nomatch q)]
 .rw[a5 ()]at lt;show#[0,g8 (ρ:=[zf (.list (ns.map .int)),zf (nd k)]) W (iw (b:=I) (aN (aB (rv:=.fz (.bool I)) (ag W) (bU (rv:=.fz (nd ns.length)) (aj (ag W) ay) W a) W W lt) W) (λq=>nomatch q) λ_=>di (fJ (pv:=.fz (.int 0)) (rv:=.fz (.int 0)) aD W W))]
abbrev ET(c:Int)(k m:Nat)(a b:z PV):aU:=[zf (.int c),zf (nd k),zf (nd m),a,b]
def gA(c:Int)(k m:Nat)(o:k<=1000)(hm:0<m):∃r:Nat,aR [.int c,nd k,nd m]=.ok (.fz (nd r))/\r<m:=by
 let a:∀x:Int,∃r:Nat,pG (.int x) (nd m)=-(nd r)/\r<m:=λx=>by let A:0<=x % (m:Int):=ae0 _ ();let J:x % (m:Int)<m:=adO _ ();show#[(x % (m:Int)).toNat,?_,by ext];rw[wk (),nd,aaw A]
 let g:∃L,gj 5 eR [.int c,nd k,nd m]=.ok L/\∃r:Nat,L=.fz (nd r)/\r<m:=by
  show sg (T:=λL=>∃r:Nat,L=.fz (nd r)/\r<m) (ρ:=ET c k m R R) W ?_;ext eR;let f:=M7;show iw (b:=decide (c<0)||decide ((10:Int)^18<=c)) (ρ1:=ET c k m R R) (gW (aN (aB (rv:=.fz (.bool (decide (c<0)))) (ag W) aD W W (ou _ _)) W) λ_=>aN (aB (rv:=.fz (.bool (decide ((10:Int)^18<=c)))) (ag W) (aB (rv:=.fz (.int ((10:Int)^18))) aD aD W W f) W W (wM _ _)) W) (λ_=>Ik ?_) (λ_=>di ?_)
  .let B:=kP (n:=k) ()
   show rq (λ_ N=>∃(x:Int) (t:b3 PV),N=ET x k m t R) (ds:=bh (V6 k)) (ρ1:=ET c k m R R) (by ext:0) #[c,R,W] ?_ ?_
   .rintro i d N S ⟨x,t,rfl⟩;let e:zH (.int x) (.int 1000)=-(.int (x/1000)):=HY #[by decide,by decide];show#[_,W,DJ (ρ2:=ET (x/1000) k m (zf d) R) (aB (rv:=.fz (.int (x/1000))) (ag W) aD W W e) W #[_,_,W]]
   .rintro N ⟨x,t,rfl⟩;let(r,l,j):=a x;show iX (pv:=.fz (nd r)) (rv:=.fz (nd r)) (ρ1:=ET x k m t R) (aB (rv:=.fz (nd r)) (ag W) (ag W) W W l) W #[r,W,j]
  .let K:0<=c % 1000033/\c % 1000033<1000033:=#[ae0 _ (),adO _ ()]
   let I:(k:Int)*k<=1000000:=by
    let:k*k<=1000*1000:=aal o o;let e:(k:Int)*k=((k*k:Nat):Int):=by rw[Int.natCast_mul]
    ext
   let v:0<=(k:Int)*k:=Int.mul_nonneg () ();let H:pG (.int c) (.int 1000033)=-(.int (c % 1000033)):=wk ();let G:gL (.int 77) (nd k)=-(.int (77*k)):=mW #[by ext,by ext];let F:gL (nd k) (nd k)=-(.int (k*k)):=mW #[by ext,by ext];let u:gL (.int (c % 1000033+77*k+5)) (.int (k*k+40009))=-(.int ((c % 1000033+77*k+5)*(k*k+40009))):=mW #[by ext,by ext];generalize Q:(c % 1000033+77*(k:Int)+5)*(k*k+40009)=x at u;let E:pG (.int x) (.int 998857)=-(.int (x % 998857)):=wk ();let q:gL (.int (x % 998857)) (.int 30011)=-(.int (x % 998857*30011)):=HW #[by ext,by ext];generalize x % 998857*30011=y at q;let p:pG (.int (y+k)) (.int 999983)=-(.int ((y+k) % 999983)):=wk ();generalize (y+(k:Int)) % 999983=z at p;let C:zH (.int z) (.int 3)=-(.int (z/3)):=HY #[by ext,by ext];let(r,l,j):=a (z/3);show eY (ρ3:=ET c k m R (zf (.int x))) (by ext:0) W W ?_;show fJ (pv:=.fz (nd r)) (rv:=.fz (nd r)) (ρ1:=ET c k m R (zf (.int x))) (aB (rv:=.fz (nd r)) (by ext:0) (ag W) W W l) W #[r,W,j]
 let(L,h,r,rfl,w):=g;show#[r,h,w]
def OT{z:Str}{cs:G Nat}(d:z.cps.toList=cs.map (97+·))(a:z.length<=1000000){r:Int}{c:Nat}(b:0<=r)(h:cs[r.toNat]?=M c):L3.gf (.str z) (.int r)=-(.str (jh c)):=by show(if z.length<=1000000 then(lz z.cps.toList r).map (λc=>RV.fz (.str #[#v[c]]))else R)=_;rw[ax a,d,uT (v:=97+c) b (by simp_all)];rfl
def Ee{z:Str}(cs:G Nat)(d:z.cps.toList=cs.map (97+·))(b:z.length<=1000000)(e:∀c∈cs,c<26){r:Int}(f:0<=r)(g:r<cs.length):∃c,c<26/\L3.gf (.str z) (.int r)=-(.str (jh c)):=by
 let a:r.toNat<cs.length:=by ext
 show#[cs[r.toNat],e _ (Yb a),OT d b f (V9 a)]
def wR{n i k:Nat}(h:(V6 n)[i]?=M k):k=i/\i<n:=by let(b,a):=V2.mp h;rw[List.getElem_range]at a;rw[Wj]at b;show#[a.symm,b]
def L7{n a:Int}{e:G (G Mn)}{b:G Mn}(h:VL n a e)(g:(b.length:Int)=n)(f:∀m∈b,VM e.length a m):VL n a (e++[b]):=by
 intro i l j;rcases L10.bL j with o|⟨rfl,rfl⟩
 .show h i l o
 .show#[g,f]
def ui(c:Int)(k:Nat)(e:k<=1000):∃l,l<26/\cK [.int c,nd k]=.ok (.fz (.str (jh l))):=by let(r,er,g):=gA c k 3 e ();let a:aR [.int c,nd k,.int 3]=.ok (.fz (nd r)):=er;let(l,b,f):=Ee (z:= "abz") [0,1,25] (by left) (by left) () (show(0:Int)<=(r:Int) by ext) (show(r:Int)<3 by ext);show#[l,b,g8 (ρ:=[zf (.int c),zf (nd k)]) W (fJ (pv:=.fz (.str (jh l))) (rv:=.fz (.str (jh l))) (ρ1:=[zf (.int c),zf (nd k)]) (aB (rv:=.fz (.str (jh l))) aD (cM (rv:=.fz (nd r)) (ds:=[.int c,nd k,.int 3]) (aj (ag W) (aj (ag W) (aj aD ay))) W W a) W W f) W W)]
def Q9{a:Nat}(b:1<=a):∃M:Nat,sj [.int 1,.int ((a:Int) - 1)]=-(nd M)/\1<=M/\(1<a->M=a - 1):=by
 by_cases h:1<a
 .show#[a - 1,?_,by ext,λ_=>W];show cL (RV.fz (.int (if(1:Int)<(a:Int) - 1 then(a:Int) - 1 else 1)))=cL (RV.fz (.int ((a - 1:Nat):Int)));congr 3;split<;>ext
 .obtain rfl:a=1:=by ext
  show#[1,W,by ext,λh=>by ext]
abbrev E5(c:Int)(L e:Nat)(a b:z PV):aU:=[zf (.int c),zf (nd L),zf (nd e),a,b]
def Jz(c:Int)(L a:Nat)(n:1<=a)(I:a<=1000):∃m:Mn,VM L a m/\dP [.int c,nd L,nd a]=.ok (.fz (mD m)):=by
 let(i,e0,y):=gA c 11 12 () ();let(f,e1,v):=gA c 12 4 () ();let(M,G,M1,M2):=Q9 n;let(lv,e2,A):=gA c 13 M () ();let(l,C,e4):=ui c 14 ();let(j,B,e5):=ui c 15 ();let e0:aR [.int c,.int 11,.int 12]=.ok (.fz (nd i)):=e0;let e1:aR [.int c,.int 12,.int 4]=.ok (.fz (nd f)):=e1;let e2:aR [.int c,.int 13,nd M]=.ok (.fz (nd lv)):=e2;let e4:cK [.int c,.int 14]=.ok (.fz (.str (jh l))):=e4;let e5:cK [.int c,.int 15]=.ok (.fz (.str (jh j))):=e5;let o:∃J,gj 5 cX [.int c,nd L,nd a]=.ok J/\∃m:Mn,VM L a m/\J=.fz (mD m):=by
  show sg (T:=λJ=>∃m:Mn,VM L a m/\J=.fz (mD m)) (ρ:=E5 c L a R R) W ?_;ext cX;show eY (ρ3:=E5 c L a (zf (nd i)) R) (cM (rv:=.fz (nd i)) (ds:=[.int c,.int 11,.int 12]) (aj (ag W) (aj aD (aj aD ay))) W W e0) W W ?_;show Gd (Go.imp (N:=λr=>∃w:Int,(a=1->w=1\/w=8)/\r=E5 c L a (zf (.int w)) R) (IA (b:=decide ((a:Int)=1)) (ρ1:=E5 c L a (zf (nd i)) R) (aN (aB (rv:=.fz (.bool (decide ((a:Int)=1)))) (ag W) aD W W (iG _ _)) W) (λq=>?_) (λq=>?_)) (λr #[w,p,e]=>?_) (λ_ h=>h) (λ_ h=>h))
  .obtain⟨x,u,F⟩:∃x:Int,(x=1\/x=8)/\aX (.list [.int 1,.int 1,.int 1,.int 8]) (nd f)=-(.int x):=by
    let:f=0\/f=1\/f=2\/f=3:=by ext
    rcases this with rfl|rfl|rfl|rfl
    .show#[1,.inl W,wz W]
    .show#[1,.inl W,wz W]
    .show#[1,.inl W,wz W]
    .show#[8,.inr W,wz W]
   show DJ (pv:=.fz (.int x)) (ρ2:=E5 c L a (zf (.int x)) R) (aB (rv:=.fz (.int x)) (by ext:0) (cM (rv:=.fz (nd f)) (ds:=[.int c,.int 12,.int 4]) (aj (ag W) (aj aD (aj aD ay))) W W e1) W W F) W #[x,λ_=>u,W]
  .let q:=of_decide_eq_false q;show vV #[i,λz=>by ext,W]
  subst e;show eY (ρ3:=E5 c L a (zf (.int w)) (zf (.int (1+(lv:Int))))) (aB (rv:=.fz (.int (1+(lv:Int)))) aD (cM (rv:=.fz (nd lv)) (ds:=[.int c,.int 13,nd M]) (aj (ag W) (aj aD (aj (bU (rv:=.fz (nd M)) (ds:=[.int 1,.int ((a:Int) - 1)]) (aj aD (aj (aB (rv:=.fz (.int ((a:Int) - 1))) (ag W) aD W W (qp _ _)) ay)) W G) ay))) W W e2) W W (fL _ _)) W W ?_;let g:1<a->(1:Int)<=1+(lv:Int)/\1+(lv:Int)<a:=λz=>by let:=M2 z;ext
  show iw (b:=decide (w=4)||decide (w=5)) (ρ1:=E5 c L a (zf (.int w)) (zf (.int (1+(lv:Int))))) (by ext:0) (λq=>?_) (λ_=>di ?_)
  .show iX (pv:=.fz (mD (.Yq (1+(lv:Int))))) (rv:=.fz (mD (.Yq (1+(lv:Int))))) (ρ1:=E5 c L a (zf (.int w)) (zf (.int (1+(lv:Int))))) (show _=Res.ok (PV.fz (.tuple [.str "layer",.int (1+(lv:Int))]),_) by ext:0) W #[_,?_,W];rw[Xp,decide_eq_true_eq,decide_eq_true_eq]at q;show g (aaK n λz=>by let:=p z.symm;ext)
  show iw (b:=decide (w=6)||decide (w=7)) (ρ1:=E5 c L a (zf (.int w)) (zf (.int (1+(lv:Int))))) (by ext:0) (λq=>?_) (λ_=>di ?_)
  .show iX (pv:=.fz (mD (.tap l (1+(lv:Int))))) (rv:=.fz (mD (.tap l (1+(lv:Int))))) (ρ1:=E5 c L a (zf (.int w)) (zf (.int (1+(lv:Int))))) (show _=Res.ok (PV.fz (.tuple [.str "tap",.str (jh l),.int (1+(lv:Int))]),_) by ext:0) W #[_,?_,W];rw[Xp,decide_eq_true_eq,decide_eq_true_eq]at q;show#[C,g (aaK n λz=>by let:=p z.symm;ext)]
  show iw (b:=decide (w=8)) (ρ1:=E5 c L a (zf (.int w)) (zf (.int (1+(lv:Int))))) (by ext:0) (λq=>?_) (λ_=>di ?_)
  .show iX (pv:=.fz (mD .none)) (rv:=.fz (mD .none)) (ρ1:=E5 c L a (zf (.int w)) (zf (.int (1+(lv:Int))))) (show _=Res.ok (PV.fz (.tuple [.str "none"]),_) by ext:0) W #[.none,trivial,W]
  show iw (b:=decide (w=9)) (ρ1:=E5 c L a (zf (.int w)) (zf (.int (1+(lv:Int))))) (by ext:0) (λq=>?_) (λ_=>di ?_)
  .show iX (pv:=.fz (mD (.once (1+(lv:Int))))) (rv:=.fz (mD (.once (1+(lv:Int))))) (ρ1:=E5 c L a (zf (.int w)) (zf (.int (1+(lv:Int))))) (show _=Res.ok (PV.fz (.tuple [.str "once",.int (1+(lv:Int))]),_) by ext:0) W #[_,?_,W];rw[decide_eq_true_eq]at q;show g (aaK n λz=>by let:=p z.symm;ext)
  let E:DB (nd L) (.int 0)=-(.bool (decide ((0:Int)<L))):=W;show iw (b:=(decide (9<w)&&decide ((0:Int)<L))) (ρ1:=E5 c L a (zf (.int w)) (zf (.int (1+(lv:Int))))) (by ext:0) (λq=>?_) (λ_=>di ?_)
  .rw[VZ]at q;let H:=a6 q.2;show iX (pv:=.fz (mD .below)) (rv:=.fz (mD .below)) (ρ1:=E5 c L a (zf (.int w)) (zf (.int (1+(lv:Int))))) (show _=Res.ok (PV.fz (.tuple [.str "below"]),_) by ext:0) W #[.below,by show(L:Int)≠0;ext,W]
  show fJ (pv:=.fz (mD (.WW j))) (rv:=.fz (mD (.WW j))) (ρ1:=E5 c L a (zf (.int w)) (zf (.int (1+(lv:Int))))) (show _=Res.ok (PV.fz (.tuple [.str "letter",.str (jh j)]),_) by ext:0) W #[.WW j,B,W]
 let(J,h,m,t,rfl):=o;show#[m,t,h]
structure CsV(l0:G Mn)(cs:G (G Nat×Nat)):Prop where
 vc:∀c∈cs,VC l0 c
 un:cs.Pairwise λa c=>a.1≠c.1
theorem CsV.nil(l0:G Mn):CsV l0 []:=#[λc a=>(by ext a),ZY]
def CsV.add(h:CsV l0 cs)(j:2<=s.length)(f:s.Pairwise (·<·))(i:∀k∈s,Dy l0 k=P)(g:l<26)(e:s∉cs.map (·.1)):CsV l0 (cs++[(s,l)]):=by
 show#[λc b=>(W7.mp b).elim (h.vc c) λz=>?_,List.pairwise_append.mpr #[h.un,List.pairwise_singleton _ _,λa m c b=>?_]]
 .rw[WI.mp z];show#[j,f,i,g]
 .rw[WI.mp b];show λz=>e (WH.mpr #[a,m,z])
def Pi(a:k<l0.length):∃d,aX (jT l0) (nd k)=-(d)/\∃w,aX d (.int 0)=-(.str w)/\cP (.str w) (.str "letter")=-(.bool (Dy l0 k)):=by
 let e5:Dy l0 k=l0[k].isL:=by ext Dy;rw[V9 a];rfl
 rw[e5];show#[mD l0[k],M6 (by rw[Wg,V9 a];rfl),_,tf _,kZ _]
def SD(i:Int)(k:Nat):D4 (.int i) (nd k)=-(.int (i/2^k)):=by show(if Uv i (k:Int)=P then M (RV.fz (.int (i/2^((k:Nat):Int).toNat)))else R)=_;rw[ax (by ext Uv;show a4 ()),Xo]
def OX(x:Int)(k:Nat):Bool:=decide (Xe.bitAnd (x/2^k) 1=1)
def pN(n m:Nat):G Nat:=(V6 n).filter (OX m)
def Kn:∀n,n<4->∀a,a<2^n->∀b,b<2^n->pN n a=pN n b->a=b:=by left
theorem jU(p:α->Bool):∀l:G α,pf (l.map λc=>V3.bool (p c))=M (l.map p)
 |[]=>rfl
 |c::r=>by show(pf (r.map λc=>V3.bool (p c))).map (p c::·)=_;rw[jU p r];rfl
def kA(p:α->Bool)(l:G α):pM [.list (l.map λc=>V3.bool (p c))]=-(.bool (l.all p)):=by show(pf _).map (λbs=>RV.fz (.bool (bs.all id)))=_;rw[jU];simp_all
abbrev E7(c:Int)(n:Nat)(l0:G Mn)(cs:G (G Nat×Nat))(a b d:z PV):aU:=[zf (.int c),zf (nd n),zf (jT l0),zo (cs.map XO),a,b,d]
def B2(c:Int)(n:Nat)(D:n<4)(l0:bg Mn)(V:l0.length=n):∃cs,CsV l0 cs/\cs.length<=4/\fU [.int c,nd n,jT l0]=.ok (.fz (.tuple (cs.map XO))):=by
 let p8:2^n<=8:=WU (Nat.pow_le_pow_right () (show n<=3 by ext)) ();let rgm:gv [nd (2^n)]=cL (bh (V6 (2^n))):=kP ();let Z:gv [nd n]=cL (bh (V6 n)):=kP ();let U:=JV n ();let E:∃rv,gj 7 dD [.int c,nd n,jT l0]=.ok rv/\∃cs,CsV l0 cs/\cs.length<=4/\rv=.fz (.tuple (cs.map XO)):=by
  show sg W ?_;ext dD;show eY (ρ3:=E7 c n l0 [] VY VY VY) (by ext:0) W W ?_;show rq (λi ρ=>∃(cs:bg (bg Nat×Nat)) (A p o:b3 PV),CsV l0 cs/\cs.length<=4/\(∀s∈cs.map (·.1),∃m,m<i/\m<2^n/\s=pN n m)/\ρ=E7 c n l0 cs A p o) (by ext:0) #[[],VY,VY,VY,CsV.nil _,W8 _,(λs F=>by ext F),W] ?_ ?_
  .rintro i d ρ hi ⟨cs,A,p,o,g,y,v,rfl⟩
   let(k,hk,rfl):=vI hi;let(rfl,e):=wR hk;show#[E7 c n l0 cs (zf (nd k)) p o,W,?_];let f:jN (c9 (gN 0) (az (aF cP (aF yd (aF D4 (aa 1) (aa 0)) (~~~1)) (~~~1))) (aa 0) (bh (V6 n)) [VY,-(nd k)] [])=.ok ((pN n k).map nd):=vn nd nd (OX k) (V6 n) (by rw[Wj];ext) W (λj r=>by let Y:=SD (k:Int) j;let X:yd (.int ((k:Int)/2^j)) (.int 1)=-(.int (Xe.bitAnd ((k:Int)/2^j) 1)):=W;show aN (aB (aB (aB (ag W) (ag W) W W Y) aD W W X) aD W W (iG _ _)) W) λj _ _=>ag W;let sp:(pN n k).Pairwise (·<·):=agN _ acx;let O:∀j∈pN n k,j<n:=λj r=>WX.mp (X3.mp r).1;let T:(pN n k).length<=n:=by let:=Z6 (OX k) (V6 n);rw[Wj]at this;show this
   let N:pN n k∉cs.map (·.1):=λz=>by let(m,m1,C,B):=v _ z;let:=Kn n D k e m C B;ext
   let b:∀s∈cs.map (·.1),∃m,m<k+1/\m<2^n/\s=pN n m:=λs F=>by let(m,m1,C,B):=v s F;show#[m,by ext,C,B]
   let P:∃m,m<k+1/\m<2^n/\pN n k=pN n m:=#[k,by ext,e,W];generalize pN n k=s at f sp O T N P;show eY (bU (aj (dn (by ext:0) W f) ay) W W) W W ?_;let G:br [.tuple (bh s)]=-(nd s.length):=(kr _).trans (by rw[gH]);let L:jN (c9 (gN 0) b9 (aF cP (aF aX (aF aX (aa 1) (aa 0)) (~~~0)) (pC (.str "letter"))) (bh s) [VY,-(jT l0)] [])=.ok (s.map λj=>.bool (Dy l0 j)):=fX nd (λj=>.bool (Dy l0 j)) s () W (λj r=>by let(d,e1,w,e2,e3):=Pi (l0:=l0) (k:=j) (by let:=O j r;ext);show aB (aB (aB (ag W) (ag W) W W e1) aD W W e2) aD W W e3);show eY (mJ (aN (aB (bU (aj (ag W) ay) W G) aD W W (AF _ _)) W) λ_=>bU (aj (dn (by ext:0) W L) ay) W (kA _ _)) W W ?_;let(t,K,ht):=gA c (20+k) 3 () ();let K:=K;let(u,J,hu):=gA c (40+k) 4 () ();let J:=J;let(l,M,el):=Ee (z:= "abcz") [0,1,2,25] (by left) (by left) () (show(0:Int)<=(u:Int) by ext) (show(u:Int)<4 by ext);let H:br [.list (cs.map XO)]=-(nd cs.length):=(gZ _).trans (by rw[V1]);generalize hg:(decide ((1:Int)<(s.length:Int))&&s.all (Dy l0))=gd;show IA
    (vF (aN (ag W) W) λ_=>vF (aN (aB (bU (aj (jZ W) ay) W H) aD W W (ou _ _)) W) λ_=>aN (aB (cM (aj (ag W) (aj (aB aD (ag W) W W (fL _ _)) (aj aD ay))) W W K) aD W W (iG _ _)) W) (λq=>?_) λ_=>vV #[cs,_,_,_,g,y,b,W]
   rw[VZ,VZ]at q;let(I,Q,_):=q;let Q:=a6 Q;rw[<-hg,VZ,Xj]at I;let g3:=a6 I.1;show uV (yL W (hW (aj (ag W) (aj (aB aD (cM (aj (ag W) (aj (aB aD (ag W) W W (fL _ _)) (aj aD ay))) W W J) W W el) ay)) W (Wc W)) W W (by rw[V1];ext) (by show _=[zf (.int c),zf (nd n),zf (jT l0),zo ((cs++[(s,l)]).map XO),_,_,_];rw[Wu];rfl)) #[cs++[(s,l)],_,_,_,g.add () sp I.2 M N,by rw[V8];show cs.length+1<=4;ext,λx a=>by
    rw[Wu,W7]at a;rcases a with a|a
    .show b x a
    .rw[WI.mp a];show P,W]
  .rintro ρ ⟨cs,A,p,o,g,y,v,rfl⟩;show fJ (bU (aj (jZ W) ay) W W) W #[cs,g,y,W]
 let(rv,h,cs,S,R,rfl):=E;show#[cs,S,R,h]
def RF(h:1<=n)(g:n<=5)(j:rs.length<=3)(b:rs[0]?=M l0)(i:VL n rs.length rs)(a:CsV l0 cs)(l:cs.length<=4)(f:1<=w)(e:w<=4):VB #[n,rs,cs,w]:=by
 cases rs with
 |nil=>ext b
 |cons x r=>cases Wm b;show#[h,g,by simp_all,j,i,l,a.vc,a.un,f,e]
abbrev E9(ns:G Int)(a n:Nat)(c:Int)(g:Nat)(h f e b:z PV):aU:=[zf (.list (ns.map .int)),zf (nd a),zf (nd n),zf (.int c),zf (nd g),h,f,e,b]
def U6{n:Nat}(a:n=1\/n=2\/n=3):∃w:Nat,0<w/\w<=4/\aX (.list [.int 4,.int 4,.int 2]) (.int ((n:Int) - 1))=-(nd w):=by
 rcases a with rfl|rfl|rfl
 .show#[4,by decide,by decide,KS () W]
 .show#[4,by decide,by decide,KS () W]
 .show#[2,by decide,by decide,KS () W]
def Vt{r:Nat}(a:r<5):∃w:Nat,1<=w/\w<=3/\aX (.list [.int 1,.int 2,.int 2,.int 2,.int 3]) (nd r)=-(nd w):=by
 let:r=0\/r=1\/r=2\/r=3\/r=4:=by ext
 rcases this with rfl|rfl|rfl|rfl|rfl
 .show#[1,by decide,by decide,wz W]
 .show#[2,by decide,by decide,wz W]
 .show#[2,by decide,by decide,wz W]
 .show#[2,by decide,by decide,wz W]
 .show#[3,by decide,by decide,wz W]
def Kp(ns:G Int):∃n:Nat,(n=1\/n=2\/n=3)/\iP [.list (ns.map .int)]=.ok (.fz (nd n)):=by
 let(c,a):=pR ns 0;let a:bN [.list (ns.map .int),.int 0]=.ok (.fz (.int c)):=a;let(r,er,e):=gA c 1 4 () ();let er:aR [.int c,.int 1,.int 4]=.ok (.fz (nd r)):=er;obtain⟨n,f,b⟩:∃n:Nat,(n=1\/n=2\/n=3)/\aX (.list [.int 1,.int 2,.int 2,.int 3]) (nd r)=-(nd n):=by
  let:r=0\/r=1\/r=2\/r=3:=by ext
  rcases this with rfl|rfl|rfl|rfl
  .show#[1,by decide,wz W]
  .show#[2,by decide,wz W]
  .show#[2,by decide,wz W]
  .show#[3,by decide,wz W]
 show#[n,f,g8 (ρ:=[zf (.list (ns.map .int))]) W (fJ (pv:=.fz (nd n)) (rv:=.fz (nd n)) (ρ1:=[zf (.list (ns.map .int))]) (aB (rv:=.fz (nd n)) (by ext:0) (cM (rv:=.fz (nd r)) (ds:=[.int c,.int 1,.int 4]) (aj (cM (rv:=.fz (.int c)) (ds:=[.list (ns.map .int),.int 0]) (aj (ag W) (aj aD ay)) W W a) (aj aD (aj aD ay))) W W er) W W b) W W)]
def QA(ns:bg Int)(a n:Nat)(s:n=1\/n=2\/n=3):∃b:Bd,VB b/\b.n=n/\ji [.list (ns.map .int),nd a,nd n]=.ok (.fz (bD b)):=by
 let(l,e0):=pR ns a;let(P,e5,h5):=gA l 5 5 () ();let e5:aR [.int l,.int 5,.int 5]=.ok (.fz (nd P)):=e5;let(g,l1,l3,el):=Vt h5;let(w,S,w4,ew):=U6 s;let(A,e6,h6):=gA l 6 w () S;let e6:aR [.int l,.int 6,nd w]=.ok (.fz (nd A)):=e6;let(I,z):=pR ns (a+10);let z:bN [.list (ns.map .int),.int ((a:Int)+10)]=.ok (.fz (.int I)):=z;let n1:(1:Int)<=(n:Int):=by rcases s with rfl|rfl|rfl<;>decide
 let n3:(n:Int)<=3:=by rcases s with rfl|rfl|rfl<;>decide
 let X:gv [nd n]=cL (bh (V6 n)):=kP ();let Y:gv [nd g]=cL (bh (V6 g)):=kP ();let M:∃rv,gj 9 fG [.list (ns.map .int),nd a,nd n]=.ok rv/\∃b:Bd,(VB b/\b.n=n)/\rv=.fz (bD b):=by
  show sg (T:=λrv=>∃b:Bd,(VB b/\b.n=n)/\rv=.fz (bD b)) (ρ:=[zf (.list (ns.map .int)),zf (nd a),zf (nd n),VY,VY,VY,VY,VY,VY]) W ?_;ext fG;show eY (ρ3:=[zf (.list (ns.map .int)),zf (nd a),zf (nd n),zf (.int l),VY,VY,VY,VY,VY]) (by ext:0) W W ?_;show eY (ρ3:=E9 ns a n l g VY VY VY VY) (aB (rv:=.fz (nd g)) (by ext:0) (cM (rv:=.fz (nd P)) (ds:=[.int l,.int 5,.int 5]) (aj (ag W) (aj aD (aj aD ay))) W W e5) W W el) W W ?_;show eY (ρ3:=E9 ns a n l g (zo []) VY VY VY) (by ext:0) W W ?_;show rq (λi ρ=>∃(e:bg (bg Mn)) (E C:b3 PV),e.length=i/\VL n g e/\ρ=E9 ns a n l g (zo (e.map jT)) E C VY) (ds:=bh (V6 g)) (ρ1:=E9 ns a n l g (zo []) VY VY VY) (by ext:0) #[[],VY,VY,W,(λj r h=>by ext h),W] ?_ ?_
  .rintro i d ρ hi ⟨e,E,C,F,H,rfl⟩
   let(L,hL,rfl):=vI hi;let(rfl,hin):=wR hL;show#[E9 ns a n l g (zo (e.map jT)) (zf (nd L)) C VY,W,?_];let mu:gL (nd n) (nd L)=-(.int ((n:Int)*L)):=mW #[by ext,by ext];let(xs,c1,c2,c3):=xI (gt:=gN 0) (ft:=b9) (fe:=d8 bN 2 {aa 1,aF c7 (aF c7 (aF c7 (aa 2) (~~~1)) (aF gL (aa 3) (aa 4))) (aa 0)}) (ds:=bh (V6 n)) (ρ:=[VY,zf (.list (ns.map .int)),zf (nd a),zf (nd n),zf (nd L)]) (λρ=>∃o,ρ=[o,zf (.list (ns.map .int)),zf (nd a),zf (nd n),zf (nd L)]) (λ_ x=>∃y:Int,x=.int y/\True) #[VY,W] (by rw[gH,Wj];ext) (by rintro j d v ρ ⟨o,rfl⟩;let(k,hk,rfl):=vI v;let(c,G):=pR ns (a+1+n*L+k);let G:bN [.list (ns.map .int),.int ((a:Int)+1+(n:Int)*L+k)]=.ok (.fz (.int c)):=G;show#[.int c,_,K4 (ρ1:=[zf (nd k),zf (.list (ns.map .int)),zf (nd a),zf (nd n),zf (nd L)]) W W (cM (rv:=.fz (.int c)) (ds:=[.list (ns.map .int),.int ((a:Int)+1+(n:Int)*L+k)]) (aj (ag W) (aj (aB (rv:=.fz (.int ((a:Int)+1+(n:Int)*L+k))) (aB (rv:=.fz (.int ((a:Int)+1+(n:Int)*L))) (aB (rv:=.fz (.int ((a:Int)+1))) (ag W) aD W W (fL _ _)) (aB (rv:=.fz (.int ((n:Int)*L))) (ag W) (ag W) W W mu) W W (fL _ _)) (ag W) W W (fL _ _)) ay)) W W G) W W,#[_,W],c,W,trivial]);let(cs,rfl,_):=uI (f:=V3.int) (Q:=λ_ (_:Int)=>True) xs 0 c3;rw[gH,Wj,V1]at c2;show eY (pv:=.ow (cs.map .int)) (ρ3:=E9 ns a n l g (zo (e.map jT)) (zf (nd L)) (zo (cs.map .int)) VY) (dn (cs:=[.list (ns.map .int),nd a,nd n,nd L]) (ds:=bh (V6 n)) (by ext:0) W c1) W W ?_;let(R,c4,c5,c6):=xI (gt:=gN 0) (ft:=b9) (fe:=d8 dP 3 {aa 0,aa 1,aa 2}) (ds:=cs.map .int) (ρ:=[VY,zf (nd L),zf (nd g)]) (λρ=>∃o,ρ=[o,zf (nd L),zf (nd g)]) (λ_ x=>∃y:Mn,x=mD y/\VM L g y) #[VY,W] (by rw[V1];ext) (by
    rintro j d v ρ ⟨o,rfl⟩;obtain⟨c,rfl⟩:∃c:Int,d=.int c:=by
     rw[Wg]at v;cases q:cs[j]? with
     |none=>rw[q]at v;ext v
     |some x=>rw[q]at v;show#[x,(Wm v).symm]
    let(m,J,em):=Jz c L g l1 ();show#[mD m,_,K4 (ρ1:=[zf (.int c),zf (nd L),zf (nd g)]) W W (cM (rv:=.fz (mD m)) (ds:=[.int c,nd L,nd g]) (aj (ag W) (aj (ag W) (aj (ag W) ay))) W W em) W W,#[_,W],m,W,J])
   let(p,rfl,Z):=uI (f:=mD) (Q:=λ_ y=>VM L g y) R 0 c6;rw[V1,V1]at c5;let K:eE [.list (p.map mD)]=-(jT p):=W;let N:(e.map jT).length<1000000:=by rw[V1];ext
   show uV (pv:=.fz .none) (ρ1:=E9 ns a n l g (zo (e.map jT++[jT p])) (zf (nd L)) (zf (.list (cs.map .int))) VY) (yL (pa:=.fz (jT p)) (d:=jT p) W (bU (rv:=.fz (jT p)) (ds:=[.list (p.map mD)]) (aj (dn (cs:=[nd L,nd g]) (ds:=cs.map .int) (d5 (jZ W) W W) W c4) ay) W K) W W N W) #[e++[p],_,_,by rw[V8,F];rfl,L7 H () (λm hm=>?_),by rw[Wu];rfl];let(t,ht):=YY.mp hm;rw[F];show Z t m ht
  .rintro ρ ⟨e,E,C,F,H,rfl⟩;rw[gH,Wj]at F;obtain⟨u,O⟩:∃u,e[0]?=cL u:=#[_,V9 (show 0<e.length by ext)];let hl0:=(H 0 u O).1;let(cs,J,U,G):=B2 I n () u ();let i0:aX (.list (e.map jT)) (.int 0)=-(jT u):=KS () (by show(e.map jT)[0]?=_;rw[Wg,O];rfl);show eY (ρ3:=E9 ns a n l g (zo (e.map jT)) E C (zf (.tuple (cs.map XO)))) (cM (rv:=.fz (.tuple (cs.map XO))) (ds:=[.int I,nd n,jT u]) (aj (cM (rv:=.fz (.int I)) (ds:=[.list (ns.map .int),.int ((a:Int)+10)]) (aj (ag W) (aj (aB (rv:=.fz (.int ((a:Int)+10))) (ag W) aD W W (fL _ _)) ay)) W W z) (aj (ag W) (aj (aB (rv:=.fz (jT u)) (dx:=.list (e.map jT)) (jZ W) aD W W i0) ay))) W W G) W W ?_;let K:eE [.list (e.map jT)]=-(.tuple (e.map jT)):=W;show fJ (pv:=.fz (bD #[n,e,cs,1+(A:Int)])) (rv:=.fz (bD #[n,e,cs,1+(A:Int)])) (ρ1:=E9 ns a n l g (zo (e.map jT)) E C (zf (.tuple (cs.map XO)))) (hW (ds:=[nd n,.tuple (e.map jT),.tuple (cs.map XO),.int (1+(A:Int))]) (aj (ag W) (aj (bU (rv:=.fz (.tuple (e.map jT))) (ds:=[.list (e.map jT)]) (aj (jZ W) ay) W K) (aj (ag W) (aj (aB (rv:=.fz (.int (1+(A:Int)))) aD (cM (rv:=.fz (nd A)) (ds:=[.int l,.int 6,nd w]) (aj (ag W) (aj aD (aj (aB (rv:=.fz (nd w)) (dx:=.list [.int 4,.int 4,.int 2]) (by ext:0) (aB (rv:=.fz (.int ((n:Int) - 1))) (ag W) aD W W (qp _ _)) W W ew) ay))) W W e6) W W (fL _ _)) ay)))) W (Wc W)) W #[_,#[RF n1 (Int.le_trans n3 ()) () O (by rw[F];show H) J U () (),W],W]
 let(rv,h,b,(B,hb),rfl):=M;show#[b,B,hb,h]
section
variable{S N:aW}{Q T Z Y:aP}{x y z:SV}{i:Nat}{d:D}{X:bg (D×D)}
def uu(h:Q[i]?=M (.dd X)):oy Q (.rf i)=M (i,X):=by ext oy;dsimp only;rw[h]
def Ja(a:o S Q=.ok x T)(hd:fd S T=.ok (.rf i) Z)(e:jV x=M k)(b:Z[i]?=M (.dd X)):tX neg o fd S Q=.ok (.fz (.bool ((gy X k).isSome !=neg))) Z:=by ext tX;rw[a,en,hd,en,e];show((RS.W5 Z (oy Z (.rf i))).bind _)=_;rw[uu b];rfl
def Fg(hd:fd S Q=.ok (.rf i) T)(a:o S T=.ok x Z)(f:jV x=M k)(e:Z[i]?=M (.dd X))(b:gy X k=M d):nV fd o S Q=.ok (.fz d) Z:=by ext nV;rw[hd,en,a,en,f];show((RS.W5 Z (oy Z (.rf i))).bind _)=_;rw[uu e];show((RS.W5 Z (gy X k)).bind _)=_;rw[b];rfl
def Ek(a:o S Q=.ok (.fz d) T)(hd:fd S T=.ok (.rf i) Z)(e:C S Z=.ok x Y)(g:jV x=M k)(f:Y[i]?=M (.dd X))(b:X.length<1000000):se fd C o S Q=.ok (.nx S) (Y.set i (.dd (ng X k d))):=by ext se;rw[a,en,hd,en,e,en,g];show((RS.W5 Y (oy Y (.rf i))).bind _)=_;rw[uu f];show(if X.length<1000000 then _ else _)=_;rw[ax b]
def pV(c:o S Q=.ok xs T)(b:xs.length=n)(a:F xs T=.ok x Z):j6 F n o S Q=.ok x Z:=by ext j6;rw[c,en,ax b,a,wK]
end
def lG{l r:aP}:(l++r)[l.length+t]?=r[t]? :=by rw[WN (),ZP]
def rE{l r:aP}:(l++r).set (l.length+t) c=l++r.set t c:=by rw[List.set_append_right _ _ (),ZP]
structure Pl where
 p:D
 b:D
 e:D
def A0(q:Pl):D:=.tuple [q.p,q.b,q.e]
def dB:G Pl->D->z Nat
 |[],_=>R
 |q::r,p=>if V3.eqv q.p p=P then M 0 else(dB r p).map (·+1)
def dA:Nat->G Pl->G (D×D)
 |_,[]=>[]
 |k,q::r=>(q.p,nd k)::dA (k+1) r
theorem kB:∀(k:Nat) (fs:G Pl) (p:D),gy (dA k fs) p=(dB fs p).map λi=>nd (k+i)
 |_,[],_=>rfl
 |k,q::r,p=>by
  let a:=kB (k+1) r p;unfold gy at a⊢;unfold dA dB;rw[WZ];cases V3.eqv q.p p with
  |true=>rfl
  |false=>dsimp only;rw[a,aE Wv,Option.map_map];congr 1;funext i;show nd (k+1+i)=nd (k+(i+1));rw[XG,aaQ 1 i]
theorem xE:∀(k:Nat) (fs:G Pl) (q:Pl),dA k (fs++[q])=dA k fs++[(q.p,nd (k+fs.length))]
 |k,[],q=>rfl
 |k,a::r,q=>by show(a.p,nd k)::dA (k+1) (r++[q])=(a.p,nd k)::(dA (k+1) r++[(q.p,nd (k+(r.length+1)))]);rw[xE (k+1) r q,XG,aaQ 1 r.length]
theorem p7:∀(k:Nat) (fs:G Pl),(dA k fs).length=fs.length
 |_,[]=>rfl
 |k,q::r=>eg (·+1) (p7 (k+1) r)
def AC(h:dB fs p=R):ng (dA 0 fs) p (nd fs.length)=dA 0 (fs++[#[p,b,e]]):=by
 let g:=kB 0 fs p;rw[h]at g;unfold gy at g;let f:((dA 0 fs).find? λa=>V3.eqv a.1 p)=R:=by
  cases q:(dA 0 fs).find? λa=>V3.eqv a.1 p with
  |none=>rfl
  |some x=>rw[q]at g;ext g
 ext ng;rw[f,xE,Xg];rfl
def rT(h:dB fs q.p=R)(f:V3.eqv q.p q.p=P):dB (fs++[q]) q.p=M fs.length:=by
 induction fs with
 |nil=>show(if V3.eqv q.p q.p=P then M 0 else _)=_;rw[ax f];rfl
 |cons a r b=>
  unfold dB at h;show(if V3.eqv a.p q.p=P then M 0 else(dB (r++[q]) q.p).map (·+1))=_;by_cases e:V3.eqv a.p q.p=P
  .rw[ax e]at h;ext h
  .rw[aE e]at h⊢;rw[b (by cases k:dB r q.p with|none=>rfl|some _=>rw[k]at h;ext h)];rfl
def vx(h:LD.keyD p=P):V3.eqv p p=P:=by
 show ZG p (LD.kd_lay p ?_);cases p with
 |tuple xs=>unfold LD.keyD at h;rw[VZ]at h;ext LD.kd;show h.1
 |_=>simp[LD.keyD]at h
def pF(m:Int)(j k:Nat):G (Str×SV):=[("most",.fz (.int m)),("found",.rf j),("numbers",.rf k)]
structure PSt(i j k:Nat)(m:Int)(fs:G Pl)(ω:aP):Prop where
 o:ω[i]?=M (.obj "Places" (pF m j k))
 f:ω[j]?=M (.lst ((fs.map A0).map .fz))
 n:ω[k]?=M (.dd (dA 0 fs))
 jk:j≠k
 ij:i≠j
 ik:i≠k
 lt:fs.length<100000
def sR(j k:Nat)(fs:G Pl)(a:aP):aP:=(a.set k (.dd (dA 0 fs))).set j (.lst ((fs.map A0).map .fz))
section
variable{i j k:Nat}{m:Int}{fs:bg Pl}{Y:aP}{p b e:D}
def PSt.ent(h:PSt i j k m fs Y)(l:fs.length+1<100000):PSt i j k m (fs++[q]) (sR j k (fs++[q]) Y):=by
 let g:=(V2.mp h.f).1;let a:=(V2.mp h.n).1;show#[?_,?_,?_,h.jk,h.ij,h.ik,by rw[V8];show l]
 .ext sR;rw[W6 (d0 h.ij),W6 (d0 h.ik)];show h.o
 .ext sR;rw[Xb (by rw[Xh];show g)]
 .ext sR;rw[W6 h.jk,Xb a]
def Fm:(pF m j k).lookup ("most":Str)=-(.int m):=by rfl
def tI:(pF m j k).lookup ("found":Str)=M (.rf j):=by rfl
def xm:(pF m j k).lookup ("numbers":Str)=M (.rf k):=by rfl
def tq:(pF m j k).lookup ("enter":Str)=R:=by rfl
theorem GW(a:LD.keyD p=P):jV (.fz p)=M p:=ax a
def uo(h:PSt i j k m fs Y)(hm:L9.Ts (.int m)=V0)(M:m<=1000)(E:LD.keyD p=V0):bA [.rf i,.fz p,.fz b,.fz e] Y=(match dB fs p with
  |some t=>.ok (.fz (nd t)) Y
  |none=>if m<=(fs.length:Int)then .er #["TooMany",[("most",.int m)]] Y else .ok (.fz (nd fs.length)) (sR j k (fs++[#[p,b,e]]) Y)):=by
 let w:=GW E;let A:∀{a:aP},a[i]?=cL (.obj "Places" (pF m j k))->aJ "Places" "numbers" (am 0) [cL (.rf i),-(p),-(b),-(e)] a=.ok (.rf k) a:=λz=>dr (aQ W) z xm;let F:∀{a:aP},a[i]?=cL (.obj "Places" (pF m j k))->aJ "Places" "found" (am 0) [cL (.rf i),-(p),-(b),-(e)] a=.ok (.rf j) a:=λz=>dr (aQ W) z tI;let B:∀{a:aP},a[i]?=cL (.obj "Places" (pF m j k))->aJ "Places" "most" (am 0) [cL (.rf i),-(p),-(b),-(e)] a=.ok (.fz (.int m)) a:=λz=>dr (aQ W) z Fm;let u:∀{a:aP},af (aa 1) [cL (.rf i),-(p),-(b),-(e)] a=.ok (.fz p) a:=ah (ag W);let g:=Ja (neg:=V0) u (A h.o) w h.n;rw[kB]at g;let get:∀{l:bg Pl} {a:aP} {t:Nat},a[i]?=cL (.obj "Places" (pF m j k))->a[k]?=cL (.dd (dA 0 l))->dB l p=cL t->fK (nV (aJ "Places" "numbers" (am 0)) (af (aa 1))) [cL (.rf i),-(p),-(b),-(e)] a=.ok (.rt (.fz (nd t))) a:=λK J I=>by show gq (Fg (A K) u w J ?_);rw[kB,I];show cL (nd (0+_))=_;rw[Xg]
 let v:=lL (aq (F h.o) aC) (by ext aA;rw[df h.f];rfl) ((gZ _).trans (by rw[V1]));cases q:dB fs p with
 |some t=>rw[q]at g;show hJ W ?_;show ci (i6 (aV g) iL) (get h.o h.n q)
 |none=>
  rw[q]at g;dsimp only;by_cases r:m<=(fs.length:Int)
  .rw[ax r]
   let y:=aV (cZ v (B h.o) (bW ((wM _ _).trans (by rw[a4 r]))));show cz 4 bK _ _=_;ext cz;show((bK [cL (.rf i),-(p),-(b),-(e)] Y).bind _)=_;let e1:bK [cL (.rf i),-(p),-(b),-(e)] Y=.er #["TooMany",[("most",.int m)]] Y:=by ext bK;ext aG;rw[gh (aV g) W,gh y W,Cv (B h.o) hm];rfl
   rw[e1];rfl
  .rw[aE r]
   let y:=aV (cZ v (B h.o) (bW ((wM _ _).trans (by rw[a5 r]))));let C:=Ek v (A h.o) u w h.n (by rw[p7];let:=h.lt;ext);rw[AC q]at C;let L:(Y.set k (.dd (dA 0 (fs++[#[p,b,e]]))))[i]?=cL (.obj "Places" (pF m j k)):=(W6 (d0 h.ik)).trans h.o;let G:(Y.set k (.dd (dA 0 (fs++[#[p,b,e]]))))[j]?=cL (.lst ((fs.map A0).map .fz)):=(W6 (d0 h.jk)).trans h.f;let H:=vL (fe:=af (b7 {aa 1,aa 2,aa 3})) (x:=.fz (A0 #[p,b,e])) (F L) G (ah (hW (aj (ag W) (aj (ag W) (aj (ag W) ay))) W (Wc W))) G (by rw[V1,V1];let:=h.lt;ext);let es:(Y.set k (.dd (dA 0 (fs++[#[p,b,e]])))).set j (.lst ((fs.map A0).map SV.fz++[.fz (A0 #[p,b,e])]))=sR j k (fs++[#[p,b,e]]) Y:=by ext sR;rw[Wu,Wu];rfl
   rw[es]at H;let P:=h.ent (q:=#[p,b,e]) ();show hJ W ?_;show ci (gh (aV g) (ci (i6 y iL) (ci C (iK H)))) (get P.o P.n (rT q (vx E)))
end
def lj(a:aP)(m:Int)(fs:G Pl)(J:aP):aP:=a++(Cell.obj "Places" (pF m (a.length+1) (a.length+2)):: .lst ((fs.map A0).map .fz):: .dd (dA 0 fs)::J)
theorem yA(h:fs.length<100000):PSt o.length (o.length+1) (o.length+2) m fs (lj o m fs J):=
 #[by let:=lG (l:=o) (r:=Cell.obj "Places" (pF m (o.length+1) (o.length+2)):: .lst ((fs.map A0).map .fz):: .dd (dA 0 fs)::J) (t:=0);show this,lG,lG,by ext,by ext,by ext,h]
def Ab:sR (o.length+1) (o.length+2) C (lj o m fs J)=lj o m C J:=by unfold sR lj;rw[rE,rE];rfl
def TM(m:Int):Xc:=#["TooMany",[("most",.int m)]]
def xJ(a:0<=m)(h:m<=1000):L9.Ts (.int m)=P:=by show a4 (aaG (Nat.log2_le_self m.natAbs) ?_);ext
def Fa(l:LD.keyD p=V0)(j:0<=m)(f:m<=1000):cB [.rf o.length,.fz p,.fz (.int m)] (o++[.obj "Places" []])=if m<=0 then .er (TM m) (lj o m [] [])else .ok (.fz .none) (lj o m [#[p,.none,.none]] []):=by
 let i:dM "Places" "most" (am 0) (af (aa 2)) [M (.rf o.length),-(p),-(.int m)] (o++[.obj "Places" []])=.ok (.nx [M (.rf o.length),-(p),-(.int m)]) (o++[.obj "Places" [("most",.fz (.int m))]]):=
  (jx (ah (ag W)) (aQ W) aK ()).trans (by rw[eX];rfl)
 let h:dM "Places" "found" (am 0) (af (cx ar)) [M (.rf o.length),-(p),-(.int m)] (o++[.obj "Places" [("most",.fz (.int m))]])=.ok (.nx [M (.rf o.length),-(p),-(.int m)]) (o++[.obj "Places" [("most",.fz (.int m)),("found",.rf (o.length+1))],.lst []]):=by show(jx (dS (by ext:0)) (aQ W) (by rw[Wy];show lG (t:=0)) (Wc W)).trans ?_;rw[Wy,show o.length=o.length+0 from rfl,rE,V8];rfl
 let g:dM "Places" "numbers" (am 0) rc [M (.rf o.length),-(p),-(.int m)] (o++[.obj "Places" [("most",.fz (.int m)),("found",.rf (o.length+1))],.lst []])=.ok (.nx [M (.rf o.length),-(p),-(.int m)]) (lj o m [] []):=by show(jx W (aQ W) (by rw[Wy];show lG (t:=0)) (Wc W)).trans ?_;rw[Wy,show o.length=o.length+0 from rfl,rE,V8];rfl
 let P:PSt o.length (o.length+1) (o.length+2) m [] (lj o m [] []):=yA ();let n:=uo (b:=.none) (e:=.none) P (xJ j f) f l;let a:=AH (F:=bA) (fo:=am 0) (fa:=ai (af (aa 1)) (ai (af (pC .none)) (ai (af (pC .none)) av))) (ρ:=[M (.rf o.length),-(p),-(.int m)]) (aQ W) P.o tq (aq (ah (ag W)) (aq (ah aD) (aq (ah aD) aC))) W;rw[n]at a;let a:jH "Places" "enter" bA 4 (am 0) (ai (af (aa 1)) (ai (af (pC .none)) (ai (af (pC .none)) av))) [M (.rf o.length),-(p),-(.int m)] (lj o m [] [])=if m<=0 then .er (TM m) (lj o m [] [])else .ok (.fz (nd 0)) (sR (o.length+1) (o.length+2) [#[p,.none,.none]] (lj o m [] [])):=a
 rw[Ab]at a;show cz 3 bB _ _=_;ext cz;show((bB [M (.rf o.length),-(p),-(.int m)] (o++[.obj "Places" []])).bind _)=_;ext bB;rw[ci i W,ci h W,ci g W];ext bc;rw[a];split<;>rfl
theorem mG:∀{l:G α},(∀a∈l,LD.kd (f a)=P)->LD.kds (l.map f)=P
 |[],_=>by rw[YK,LD.kds]
 |a::r,h=>by rw[Wl,LD.kds,h a Wk,mG λx b=>h x (Wf _ b)];rfl
theorem AG:∀b:G Nat,LD.kds (bh b)=P:=λb=>mG λa _=>by show LD.kd (.int a)=P;rw[LD.kd]
def MX(h:LB m):LD.kd (mD m)=P:=by
 cases m with
 |WW c=>show LD.kd (.tuple [.str "letter",.str (jh c)])=P;simp only[LD.kd,LD.kds];rw[lW h,show V3.strOk "letter"=P by left];rfl
 |Yq n=>show LD.kd (.tuple [.str "layer",.int n])=P;simp only[LD.kd,LD.kds];rw[show V3.strOk "layer"=P by left];rfl
 |tap c n=>show LD.kd (.tuple [.str "tap",.str (jh c),.int n])=P;simp only[LD.kd,LD.kds];rw[lW h,show V3.strOk "tap"=P by left];rfl
 |once n=>show LD.kd (.tuple [.str "once",.int n])=P;simp only[LD.kd,LD.kds];rw[show V3.strOk "once"=P by left];rfl
 |none=>show LD.kd (.tuple [.str "none"])=P;simp only[LD.kd,LD.kds];rw[show V3.strOk "none"=P by left];rfl
 |below=>show LD.kd (.tuple [.str "below"])=P;simp only[LD.kd,LD.kds];rw[show V3.strOk "below"=P by left];rfl
def S0(h:SW b s):LD.kd (dH s)=P/\V3.depth (dH s)<=4:=by
 let j:LD.kds ((gO s.ac).map pD)=P:=mG λq l=>by show LD.kd (.tuple [nd q.1,mD q.2])=P;simp only[LD.kd,LD.kds];rw[MX (h.sa.ac _ _ (kQ.mp l).2).2.lb];rfl
 let o:∀m:Mn,V3.depth (mD m)<=1:=λm=>by ext m<;>show Wc W
 let p:V3.depthAll ((gO s.ac).map pD)<=2:=iJ λq _=>by show max 0 (max (V3.depth (mD q.2)) 0)+1<=2;let:=o q.2;ext
 let f:LD.kd (jG s.wt)=P/\V3.depth (jG s.wt)<=2:=by
  cases q:s.wt with
  |none=>show#[by show LD.kd .none=P;rw[LD.kd],W8 _]
  |some x=>
   let(a,g,w):=x;let v:=(h.wt a g w q).1;constructor
   .show LD.kd (.tuple [.tuple (bh a),.int g,sO w])=P
    simp only[LD.kd,LD.kds];rw[AG];cases w with
    |none=>show(P&&(P&&(LD.kd (.tuple [.str "chord"])&&P)))=P;simp only[LD.kd,LD.kds];rw[show V3.strOk "chord"=P by left];rfl
    |some i=>let(c,n):=i;let lb:LB (.tap c n):=(v.tp c n W).1;show(P&&(P&&(LD.kd (mD (.tap c n))&&P)))=P;rw[MX lb];rfl
   .show max (V3.depthAll (bh a)+1) (max 0 (max (V3.depth (sO w)) 0))+1<=2
    rw[jt];cases w with
    |none=>show Wc W
    |some i=>show Wc W
 let e:LD.kd (sV s.oc)=P/\V3.depth (sV s.oc)=0:=by cases s.oc<;>show#[by show LD.kd _=P;ext sV;simp only[LD.kd],W]
 constructor
 .show LD.kd (.tuple [.tuple ((gO s.ac).map pD),jG s.wt,sV s.oc])=P;simp only[LD.kd,LD.kds];rw[j,f.1,e.1];rfl
 .show max (V3.depthAll ((gO s.ac).map pD)+1) (max (V3.depth (jG s.wt)) (max (V3.depth (sV s.oc)) 0))+1<=4;rw[e.2];let:=f.2;ext
def yN(h:SW b s):LD.keyD (dH s)=P:=by let(a,e):=S0 h;unfold dH at a e⊢;rw[LD.kd]at a;rw[LD.keyD];rw[a,a4 (show _<=8 by ext)];rfl
def b5(n:Nat):G ZM:=(V6 n).map .down++(V6 n).map .up++[.turn]
def vW{b:Bd}{n:Nat}(c:b.n=n):∀e∈b5 n,EV b e:=by
 intro e a;rcases W7.mp a with a|a
 .rcases W7.mp a with a|a
  .let(k,f,rfl):=WH.mp a;let:=WX.mp f;show(k:Int)<b.n;ext
  .let(k,f,rfl):=WH.mp a;let:=WX.mp f;show(k:Int)<b.n;ext
 .rw[WI.mp a];trivial
theorem Tv(h:xs.length+ys.length<=1000000):c7 (.list xs) (.list ys)=M (.ow (xs++ys)):=ax h
theorem T8(b:Bd):aX (bD b) (.int 0)=-(.int b.n):=i7
def G0{b:Bd}{n:Nat}(c:b.n=n)(l:n<=5):eO [bD b]=.ok (.ow ((b5 n).map fC)):=by
 let i:gv [.int b.n]=M (bh (V6 n)):=by rw[c];show kP ()
 let j:=T8 b;let a:(V6 n).length<=1000:=by rw[Wj];ext
 let f:jN (c9 (gN 0) b9 (b7 {pC (.str "down"),aa 0}) (bh (V6 n)) [R] [])=.ok ((V6 n).map λk=>fC (.down k)):=fX nd (λk=>fC (.down k)) (V6 n) a W λk _=>hW (aj aD (aj (ag W) ay)) W (Wc W);let e:jN (c9 (gN 0) b9 (b7 {pC (.str "up"),aa 0}) (bh (V6 n)) [R] [])=.ok ((V6 n).map λk=>fC (.up k)):=fX nd (λk=>fC (.up k)) (V6 n) a W λk _=>hW (aj aD (aj (ag W) ay)) W (Wc W);let h:c7 (.list ((V6 n).map λk=>fC (.down k))) (.list ((V6 n).map λk=>fC (.up k)))=M (.ow (((V6 n).map λk=>fC (.down k))++(V6 n).map λk=>fC (.up k))):=Tv (by rw[V1,V1];ext);let g:c7 (.list (((V6 n).map λk=>fC (.down k))++(V6 n).map λk=>fC (.up k))) (.list [fC .turn])=M (.ow ((b5 n).map fC)):=(Tv (by rw[V8,V1,V1];show _+1<=_;ext)).trans (by ext b5;rw[Wu,Wu,WB,WB];rfl);show g8 W ?_;ext gb;show eY (dn (by ext:0) W f) W W ?_;show eY (dn (by ext:0) W e) W W ?_;show fJ (aB (aB (jZ W) (jZ W) W W h) (qG (aj (hW (aj aD (aj aD ay)) W (Wc W)) ay) W (Wc W)) W W g) W W
section
variable{S:aW}{Y N:aP}{i:Nat}{Q:c8}{T:SV->aP->Prop}{X:Xc->Prop}
def wP(h:Y[i]?=M (.lst xs)):ig Y (.rf i)=M (i,xs):=by ext ig;dsimp only;rw[h]
def Ms(b:o S Y=.ok (.rf i) Y)(j:Y[i]?=M (.lst xs))(e:Out (Q S Y) (λx c=>∃ys,c[i]?=M (.lst ys)/\ys.length<1000000/\T (.fz .none) (c.set i (.lst (ys++[x])))) X):Out (jB o Q S Y) T X:=by
 show .eq (show jB o Q S Y=(Q S Y).bind λx c=>(RS.W5 c (ig c (.rf i))).bind λp a=>if p.2.length<1000000 then .ok (.fz .none) (a.set p.1 (.lst (p.2++[x])))else .bad from ?_) (Out.bind (e.imp λx c k=>?_))
 .ext jB;rw[b,en,wP j];rfl
 .let(ys,h,g,f):=k;show .eq (r':=RS.ok (SV.fz .none) (c.set i (.lst (ys++[x])))) ?_ #[f];rw[wP h];show(if ys.length<1000000 then _ else _)=_;rw[ax g]
def La(a:Out (Q S Y) (λx c=>∃ds,sh c x=M (.list ds)/\T (.fz (.tuple ds)) c) X):Out (i4 eE (ai Q av) S Y) T X:=by
 show .eq (show i4 eE (ai Q av) S Y=(Q S Y).bind λx c=>sQ eE [x] c from ?_) (Out.bind (a.imp λx c k=>?_))
 .unfold i4 ai;cases Q S Y<;>rfl
 .let(ds,e,b):=k;show .eq (r':=RS.ok (SV.fz (.tuple ds)) c) ?_ #[b];unfold sQ aA aA;rw[e];rfl
end
structure Rm where
 s:Ys
 b:D
 e:D
def jL(r:Rm):Pl:=#[dH r.s,r.b,r.e]
def l6(fs:G Rm)(s:Ys)(b e:D):G Rm:=if(dB (fs.map jL) (dH s)).isSome=P then fs else fs++[#[s,b,e]]
def eS(fs:G Rm)(s:Ys):Nat:=(dB (fs.map jL) (dH s)).getD fs.length
def fE(b:Bd)(s:Ys)(r:Nat)(fs:G Rm)(es:G ZM):G Rm:=es.foldl (λfs e=>l6 fs (aH b s e).1 (nd r) (fC e)) fs
def Fj{es:G ZM}(h:es[i]?=M e):fE b s r fs (es.take (i+1))=l6 (fE b s r fs (es.take i)) (aH b s e).1 (nd r) (fC e):=by ext fE;rw[X6,h,Zs];rfl
def Mx(fs:G Rm)(s:Ys)(b e:D):fs<+:l6 fs s b e:=by
 ext l6;split
 .show Yw _
 .show adD _ _
theorem pT:∀(es:G ZM) (fs:G Rm),fs<+:fE b s r fs es
 |[],fs=>Yw _
 |e::es,fs=>(Mx fs _ _ _).trans (pT es _)
def Ig(es:G ZM)(fs:G Rm)(i:Nat):fE b s r fs (es.take i)<+:fE b s r fs es:=by
 let e:fE b s r fs es=fE b s r (fE b s r fs (es.take i)) (es.drop i):=by ext fE;rw[<-Zs,List.take_append_drop]
 rw[e];show pT _ _
theorem vR:∀{fs gs:G Pl},dB fs p=M t->dB (fs++gs) p=M t
 |[],_,h=>by ext h
 |a::r,gs,h=>by
  unfold dB at h;show(if V3.eqv a.p p=P then M 0 else(dB (r++gs) p).map (·+1))=_;split
  .rename_i e;rw[ax e]at h;show h
  .rename_i e
   rw[aE e]at h;cases q:dB r p with
   |none=>rw[q]at h;ext h
   |some j=>rw[q]at h;rw[vR q];show h
def BB(h:fs<+:gs)(a:dB (fs.map jL) (dH s)=M t):eS gs s=t:=by let(l,rfl):=h;ext eS;rw[Wu,vR a];rfl
theorem OU(h:SW b s):V3.eqv (dH s) (dH s)=P:=vx (yN h)
def BI(h:SW b s)(x y:D):dB ((l6 fs s x y).map jL) (dH s)=M (eS fs s):=by
 unfold l6 eS;cases q:dB (fs.map jL) (dH s)with
 |some t=>show dB (fs.map jL) (dH s)=_;rw[q];rfl
 |none=>show dB ((fs++[(#[s,x,y]:Rm)]).map jL) (dH s)=M fs.length;rw[Wu];let:=rT (q:=#[dH s,x,y]) q (OU h);rw[V1]at this;show this
def PO(h:SW b s)(e:∀r∈fs,SW b r.s):∀r∈l6 fs s x y,SW b r.s:=by
 ext l6;split
 .show e
 .intro r a
  rcases W7.mp a with a|a
  .show e r a
  .rw[WI.mp a];show h
theorem zC(a:VB b)(f:SW b s):∀(es:G ZM) (fs:G Rm),(∀e∈es,EV b e)->(∀r∈fs,SW b r.s)->∀q∈fE b s r fs es,SW b q.s
 |[],fs,_,hf=>hf
 |e::es,fs,he,hf=>zC a f es _ (λx g=>he x (Wf _ g)) (PO (vT a f (he e Wk)) hf)
def bS(b:Bd)(es:G ZM):Nat->G Rm
 |0=>[#[Oa,.none,.none]]
 |i+1=>match(bS b es i)[i]? with
  |some r=>fE b r.s i (bS b es i) es
  |none=>bS b es i
def vB(h:(bS b es i)[i]?=M r):bS b es (i+1)=fE b r.s i (bS b es i) es:=by show(match(bS b es i)[i]? with|some r=>fE b r.s i (bS b es i) es|none=>bS b es i)=_;rw[h]
def yJ(h:(bS b es i).length<=i):bS b es (i+1)=bS b es i:=by show(match(bS b es i)[i]? with|some r=>fE b r.s i (bS b es i) es|none=>bS b es i)=_;rw[List.getElem?_eq_none h]
def wD(b:Bd)(es:G ZM)(i:Nat):bS b es i<+:bS b es (i+1):=by
 by_cases h:i<(bS b es i).length
 .rw[vB (V9 h)];show pT _ _
 .rw[yJ ()];show Yw _
def Bl(b:Bd)(es:G ZM)(i k:Nat):bS b es i<+:bS b es (i+k):=by
 induction k with
 |zero=>show Yw _
 |succ k a=>show a.trans (wD b es (i+k))
def JF(h:(bS b es N).length<=N)(k:Nat):bS b es (N+k)=bS b es N:=by
 induction k with
 |zero=>rfl
 |succ k a=>rw[<-XG,yJ (by rw[a];ext),a]
def oH(h:(bS b es N).length<=N)(i:Nat):(bS b es i).length<=(bS b es N).length:=by
 by_cases hi:i<=N
 .let(k,rfl):=Yr hi;show(Bl b es i k).length_le
 .let(k,rfl):=Yr (show N<=i by ext);rw[JF h];show Wa _
def Ad(h:(bS b es N).length=N)(c:(bS b es f).length=f):N=f:=by let e:=oH (YR h) f;let a:=oH (YR c) N;ext
theorem l9(a:VB b)(f:∀e∈es,EV b e):∀i,∀r∈bS b es i,SW b r.s
 |0=>λr g=>by rw[WI.mp g];show Ba b
 |i+1=>by
  by_cases h:i<(bS b es i).length
  .rw[vB (V9 h)];show zC a (l9 a f i _ (Yb h)) es _ f (l9 a f i)
  .rw[yJ ()];show l9 a f i
def wf(b:Bd)(es:G ZM)(i:Nat):1<=(bS b es i).length:=by let:=(Bl b es 0 i).length_le;rw[Xg]at this;show this
theorem OS(h:i<(bS b es i).length):i+1<=(bS b es (i+1)).length:=WU h (wD b es i).length_le
def iu(b:Bd)(s:Ys)(e:ZM):D:=.tuple [.list ((aH b s e).2.map ir),dH (aH b s e).1]
def mr(b:Bd)(s:Ys)(e:ZM):Cell:=.lst (((aH b s e).2.map ir).map .fz)
def Bc(b:Bd)(s:Ys):Nat->G ZM->G SV
 |_,[]=>[]
 |n,e::r=>.tp [.rf n,.fz (dH (aH b s e).1)]::Bc b s (n+1) r
theorem wG(b:Bd)(s:Ys):∀(es:G ZM) (n:Nat) (e:ZM),Bc b s n (es++[e])=Bc b s n es++[.tp [.rf (n+es.length),.fz (dH (aH b s e).1)]]
 |[],n,e=>rfl
 |a::r,n,e=>by show _::Bc b s (n+1) (r++[e])=_::(Bc b s (n+1) r++_);rw[wG b s r (n+1) e,XG,aaQ 1 r.length];rfl
theorem AX(b:Bd)(s:Ys):∀(es:G ZM) (n:Nat),(Bc b s n es).length=es.length
 |[],_=>rfl
 |_::r,n=>eg (·+1) (AX b s r (n+1))
theorem Bj(b:Bd)(s:Ys):∀(es:G ZM) (k j:aP),ju (frz 3) (k++(es.map (mr b s)++j)) (Bc b s k.length es)=M (es.map (iu b s),k++(Wd es.length .dead++j))
 |[],k,j=>rfl
 |e::r,k,j=>by
  let g:(k++(mr b s e::(r.map (mr b s)++j)))[k.length]?=M (mr b s e):=lG (t:=0);let i:frz 2 (k++(mr b s e::(r.map (mr b s)++j))) (.rf k.length)=M (.list ((aH b s e).2.map ir),k++(.dead::(r.map (mr b s)++j))):=by ext frz;rw[g];ext mr;dsimp only;rw[pY];dsimp only;let:=rE (l:=k) (r:=mr b s e::(r.map (mr b s)++j)) (t:=0) (c:=.dead);show eg (λz=>M (V3.list ((aH b s e).2.map ir),z)) this
  let h:frz 3 (k++(mr b s e::(r.map (mr b s)++j))) (.tp [.rf k.length,.fz (dH (aH b s e).1)])=M (iu b s e,k++(.dead::(r.map (mr b s)++j))):=by
   let f:ju (frz 2) (k++(mr b s e::(r.map (mr b s)++j))) [.rf k.length,.fz (dH (aH b s e).1)]=M ([.list ((aH b s e).2.map ir),dH (aH b s e).1],k++(.dead::(r.map (mr b s)++j))):=by ext ju;rw[i];rfl
   ext frz;rw[show([AV.rf k.length,AV.fz (dH (aH b s e).1)].map AV.sv)=[.rf k.length,.fz (dH (aH b s e).1)]from rfl,f];rfl
  let a:=Bj b s r (k++[.dead]) j;rw[V8,Wy,Wy]at a;show(match frz 3 (k++(mr b s e::(r.map (mr b s)++j))) (.tp [.rf k.length,.fz (dH (aH b s e).1)])with
   |some (d,n)=>(match ju (frz 3) n (Bc b s (k.length+1) r)with
    |some (ds,m)=>M (d::ds,m)
    |none=>VY)
   |none=>VY)=_
  rw[h];dsimp only;rw[show k++(Cell.dead::(r.map (mr b s)++j))=k++([Cell.dead]++(r.map (mr b s)++j))from rfl,show k.length+1=k.length+[Cell.dead].length from rfl,a];rfl
def yF(m:VB b)(n:SW b s){es:G ZM}(r:∀e∈es,EV b e)(z:es.length<=1000)(w:ρ[0]?=M (-(bD b)))(v:ρ[2]?=M (-(.list (es.map fC))))(u:ρ[7]?=M (-(dH s))):
  ∃J,ke (dw 1 [0,7] (ei (dZ (aa 2))) (cT 0) bV (tF STP.kE 3 (ai (af (aa 1)) (ai (af (aa 2)) (ai (af (aa 0)) av))))) ρ ω=.ok (.fz (.list (es.map (iu b s)))) (ω++J):=by
 let A:ei (dZ (aa 2)) ρ ω=.ok (es.map fC) ω:=hV (d5 (ag (by ext bj;rw[Wg,v];rfl)) W W);let j:d7 1 [0,7] ρ=[R,-(bD b),-(dH s)]:=by ext d7;show R::[(ρ[0]?).join,(ρ[7]?).join]=_;rw[w,u];rfl
 let t:=gS (X:=λ_=>False) (gt:=cT 0) (ft:=bV) (fe:=tF STP.kE 3 (ai (af (aa 1)) (ai (af (aa 2)) (ai (af (aa 0)) av)))) (λi a f h=>∃o,a=[o,-(bD b),-(dH s)]/\f=ω++(es.take i).map (mr b s)/\h=Bc b s ω.length (es.take i)) (es.map fC) 0 (d7 1 [0,7] ρ) ω [] #[R,j,by rw[aaf,YK,WL],W] (by
  rintro i d a f h g ⟨o,rfl,rfl,rfl⟩;rw[Xg];rw[Wg]at g;cases q:es[i]? with
  |none=>rw[q]at g;ext g
  |some e=>
   rw[q]at g;cases Wm g;let y:=(V2.mp q).1;show#[by rw[AX,XW];ext,[-(fC e),-(bD b),-(dH s)],W,W,?_];let p:t8 STP.kE 3 [.fz (bD b),.fz (dH s),.fz (fC e)] (ω++(es.take i).map (mr b s))=.ok (.tp [.rf (ω++(es.take i).map (mr b s)).length,.fz (dH (aH b s e).1)]) ((ω++(es.take i).map (mr b s))++[mr b s e]):=RJ m n (r e (WG q));show .eq (r':=RS.ok (SV.tp [.rf (ω++(es.take i).map (mr b s)).length,.fz (dH (aH b s e).1)]) ((ω++(es.take i).map (mr b s))++[mr b s e])) ?_ #[_,W,?_,?_]
   .ext tF;rw[aq (ah (ag W)) (aq (ah (ag W)) (aq (ah (ag W)) aC)),en,p];rfl
   .rw[X6,q,Wu,Wy];rfl
   .rw[X6,q];show Bc b s ω.length (es.take i)++_=Bc b s ω.length (es.take i++[e]);rw[wG,V8,V1])
 let(xs,l,e1,a,o,_,rfl,rfl):=t.all;rw[Xg,V1,ZL]at e1;let cm:=gK A e1;let fz:frz 4 ((ω++es.map (mr b s))++[Cell.lst (Bc b s ω.length es)]) (.rf (ω++es.map (mr b s)).length)=M (.list (es.map (iu b s)),(ω++(Wd es.length Cell.dead++[Cell.lst (Bc b s ω.length es)])).set (ω++es.map (mr b s)).length .dead):=by ext frz;rw[aK];dsimp only;rw[Wy,Bj b s es ω [Cell.lst (Bc b s ω.length es)]]
 rw[V8,rE]at fz;show#[_,oB cm (by rw[V8];show fz)]
theorem Am(f g:α->D):∀l:G α,j9 (l.map f) (l.map g)=l.map λx=>.tuple [f x,g x]
 |[]=>rfl
 |x::r=>by show V3.tuple [f x,g x]::j9 (r.map f) (r.map g)=_;rw[Am f g r];rfl
def B0{b:Bd}(z:VB b){s:Ys}(A:SW b s){es:bg ZM}(C:∀e∈es,EV b e)(Y:es.length<=1000){ρ:aW}{ω J:aP}{m:Int}{r:Nat}{fs:bg Rm}(H:0<=m)(B:m<=1000)(S:(fs.length:Int)<=m)
  (Q:ρ[2]?=cL (-(.list (es.map fC)))) (O:ρ[3]?=cL (cL (.rf ω.length))) (N:ρ[6]?=cL (-(nd r))) (M:ρ[8]?=cL (-(.list (es.map (iu b s))))):
  Out (oK 2 [3,6] (ei (uC {aa 2,aa 8})) (Oh 2 (pB (cT 0) (pB (cT 1) zb))) bV (jH "Places" "enter" bA 4 (am 2) (ai (af (aF aX (aa 1) (~~~1))) (ai (af (aa 3)) (ai (af (aa 0)) av)))) ρ (lj ω m (fs.map jL) J))
   (λx c=>x=.rf (lj ω m ((fE b s r fs es).map jL) J).length/\c=lj ω m ((fE b s r fs es).map jL) (J++[.lst ((es.map λe=>nd (eS (fE b s r fs es) (aH b s e).1)).map .fz)])/\((fE b s r fs es).length:Int)<=m)
   (λx=>x=TM m/\m<((fE b s r fs es).length:Int)):=by
 let hi:ei (uC {aa 2,aa 8}) ρ (lj ω m (fs.map jL) J)=.ok (es.map λe=>.tuple [fC e,iu b s e]) (lj ω m (fs.map jL) J):=by
  let G:(bj ρ)[2]?=cL (-(.list (es.map fC))):=by ext bj;rw[Wg,Q];rfl
  let E:(bj ρ)[8]?=cL (-(.list (es.map (iu b s)))):=by ext bj;rw[Wg,M];rfl
  rw[<-Am];show hV (wa (d:=.list (es.map fC)) (e:=.list (es.map (iu b s))) (aj (ag G) (aj (ag E) ay)) W W W)
 let y:d7 2 [3,6] ρ=[VY,VY,cL (.rf ω.length),-(nd r)]:=by ext d7;show VY::VY::[(ρ[3]?).join,(ρ[6]?).join]=_;rw[O,N];rfl
 show zm hi (Out.imp (gS (λi f c l=>∃u p,f=[u,p,cL (.rf ω.length),-(nd r)]/\c=lj ω m ((fE b s r fs (es.take i)).map jL) J/\l=((es.take i).map λe=>nd (eS (fE b s r fs es) (aH b s e).1)).map .fz/\((fE b s r fs (es.take i)).length:Int)<=m) (es.map λe=>.tuple [fC e,iu b s e]) 0 (d7 2 [3,6] ρ) (lj ω m (fs.map jL) J) [] #[VY,VY,y,W,W,S] ?_) ?_)
 .rintro i d f c l j ⟨u,p,rfl,rfl,rfl,hle⟩
  rw[Xg]at hle⊢;rw[Wg]at j;cases q:es[i]? with
  |none=>rw[q]at j;ext j
  |some e=>
   rw[q]at j;cases Wm j;let X:=(V2.mp q).1;let w:=C e (WG q);let g:=vT z A w;let rt:=Fj (b:=b) (s:=s) (r:=r) (fs:=fs) q;let h:=Ig (b:=b) (s:=s) (r:=r) es fs (i+1);let R:=zC z A (r:=r) (es.take i) fs (λx L=>C x (List.mem_of_mem_take L));generalize hF:fE b s r fs (es.take i)=F at hle rt;show#[by rw[V1,V1,XW];ext,[-(fC e),-(iu b s e),cL (.rf ω.length),-(nd r)],W,W,?_];let I:(F.map jL).length<100000:=by rw[V1];ext
   let P:PSt ω.length (ω.length+1) (ω.length+2) m (F.map jL) (lj ω m (F.map jL) J):=yA I;let T:=uo (b:=nd r) (e:=fC e) P (xJ H B) B (yN g);let K:aX (iu b s e) (.int 1)=-(dH (aH b s e).1):=jO;let a:=AH (n:=4) (m:= "enter") (F:=bA) (fo:=am 2) (fa:=ai (af (aF aX (aa 1) (~~~1))) (ai (af (aa 3)) (ai (af (aa 0)) av))) (ρ:=[-(fC e),-(iu b s e),cL (.rf ω.length),-(nd r)]) (xs:=[.fz (dH (aH b s e).1),.fz (nd r),.fz (fC e)]) (aQ W) P.o tq (aq (ah (aB (rv:=.fz (dH (aH b s e).1)) (ag W) aD W W K)) (aq (ah (ag W)) (aq (ah (ag W)) aC))) W;rw[T]at a;let v:=BB h (s:=(aH b s e).1) (t:=eS F (aH b s e).1) (by rw[rt];show BI g _ _);let U:((es.take (i+1)).map λe=>nd (eS (fE b s r fs es) (aH b s e).1)).map SV.fz=((es.take i).map λe=>nd (eS (fE b s r fs es) (aH b s e).1)).map .fz++[.fz (nd (eS F (aH b s e).1))]:=by rw[X6,q,Wu,Wu];show _++[SV.fz (nd (eS (fE b s r fs es) (aH b s e).1))]=_;rw[v]
   rw[U,rt];cases o:dB (F.map jL) (dH (aH b s e).1)with
   |some t=>
    rw[o]at a;let e1:l6 F (aH b s e).1 (nd r) (fC e)=F:=by ext l6;rw[o];rfl
    let e2:eS F (aH b s e).1=t:=by ext eS;rw[o];rfl
    rw[e1,e2];show .eq a #[_,_,W,W,W,hle]
   |none=>
    rw[o]at a;let e1:l6 F (aH b s e).1 (nd r) (fC e)=F++[#[(aH b s e).1,nd r,fC e]]:=by ext l6;rw[o];rfl
    let e2:eS F (aH b s e).1=F.length:=by ext eS;rw[o];rfl
    dsimp only at a;rw[V1]at a;by_cases hm:m<=(F.length:Int)
    .rw[ax hm]at a;show .eq a #[W,?_];let:=h.length_le;rw[rt,e1,V8]at this;let this:F.length+1<=_:=this;ext
    .rw[aE hm,Ab]at a;rw[e1,e2];show .eq a #[_,_,W,by rw[Wu];rfl,W,?_];rw[V8];show((F.length+1:Nat):Int)<=m;ext
 .rintro xs c ⟨f,u,p,_,rfl,rfl,hle⟩;rw[Xg,V1,ZL] at*;show#[W,?_,hle];ext lj;rw[Wy];rfl
def nJ(h:Out r T X)(k:∀a c,T a c->T' a c)(b:∀x,X x->X' x):Out r T' X':=by
 show#[?_];let h:=h.out;cases r with
 |bad=>show h
 |er x o=>show b x h
 |ok a o=>show k a o h
def Eh(b:Bd)(es:G ZM)(j:Nat):D:=match(bS b es j)[j]? with
 |some r=>.tuple (es.map λe=>nd (eS (bS b es (j+1)) (aH b r.s e).1))
 |none=>.none
def wS(b:Bd)(es:G ZM)(j:Nat):D:=match(bS b es j)[j]? with
 |some r=>.tuple (es.map λe=>.tuple ((aH b r.s e).2.map ir))
 |none=>.none
def ib(b:Bd)(es:G ZM)(n:Nat):G D:=(V6 n).map (Eh b es)
def bt(b:Bd)(es:G ZM)(n:Nat):G D:=(V6 n).map (wS b es)
def sJ(a:aP)(m:Int)(b:Bd)(es:G ZM)(n:Nat)(J:aP):aP:=lj a m ((bS b es n).map jL) (.lst ((ib b es n).map .fz):: .lst ((bt b es n).map .fz)::J)
def pX:lj o m fs (J++K)=lj o m fs J++K:=by ext lj;rw[Wy];rfl
def BU:(lj o m fs J).length=o.length+3+J.length:=by ext lj;rw[V8];show o.length+(J.length+1+1+1)=_;ext
theorem Vp{n:Nat}{v:SV}(h:xs[n]?=M v):lz xs (n:Int)=M v:=uT () (by rw[Xo];show h)
abbrev W9(b:Bd)(m:Int)(es:G ZM)(l:Nat)(f e a:z SV):aW:=[-(bD b),-(.int m),-(.list (es.map fC)),M (.rf l),M (.rf (l+3)),M (.rf (l+4)),f,e,a]
def qC(A:VB b){n:Nat}(k:b.n=n)(s:n<=5)(S:0<=m)(R:m<=1000)(a:aP):Out (iq [.fz (bD b),.fz (.int m)] a) (λv c=>∃N J,(bS b (b5 n) N).length=N/\(N:Int)<=m/\v=.tp [.rf (a.length+2),.rf (a.length+4),.rf (a.length+5)]/\c=sJ (a++[.dead]) m b (b5 n) N J) (λx=>x=TM m/\∃i,m<((bS b (b5 n) i).length:Int)):=by
 let p:(b5 n).length<=1000:=by ext b5;rw[V8,V8,V1,V1,Wj];show n+n+1<=_;ext
 let l:=vW k;let ev:=G0 k s;generalize b5 n=es at p l ev;show sF W ?_;ext ko;let e1:ke (af (d8 eO 1 {aa 0})) [-(bD b),-(.int m),VY,VY,VY,VY,VY,VY,VY] a=.ok (.fz (.list (es.map fC))) (a++[.dead]):=by show oB (dS (cM (aj (ag W) ay) W W ev)) ?_;rw[jj aK,eX]
 show fu e1 W ?_;let U:(a++[Cell.dead]).length=a.length+1:=by rw[V8];rfl
 let r2:a.length+2=(a++[Cell.dead]).length+1:=by ext
 let r4:a.length+4=(a++[Cell.dead]).length+3:=by ext
 let r5:a.length+5=(a++[Cell.dead]).length+4:=by ext
 rw[r2,r4,r5];generalize a++[Cell.dead]=base;let Q:=Ir (C:= "Places") (F:=cB) (fa:=ai (af (pC (.tuple [(.tuple []),.none,.none]))) (ai (af (aa 1)) av)) (ρ:=[-(bD b),-(.int m),-(.list (es.map fC)),VY,VY,VY,VY,VY,VY]) (ω:=base) (aq (ah (d:=dH Oa) (show _=Res.ok (PV.fz (.tuple [.tuple [],.none,.none]),_)from aD)) (aq (ah (ag W)) aC)) W;rw[Fa (yN (Ba b)) S R]at Q;show wl (.eq Q ?_);by_cases hm:m<=0
 .rw[ax hm];show#[W,0,by show m<1;ext]
 rw[aE hm];show Out.eq W #[?_];show jQ _ _ _ _;show fu (ρ1:=[-(bD b),-(.int m),-(.list (es.map fC)),cL (.rf base.length),cL (.rf (base.length+3)),VY,VY,VY,VY]) ((dS (by ext:0)).trans (by rw[BU,<-pX];rfl)) W ?_;show fu (ρ1:=W9 b m es base.length VY VY VY) ((dS (by ext:0)).trans (by rw[BU,<-pX];rfl)) W ?_;show l7 (xi (λn o f=>∃J j h g,o=W9 b m es base.length j h g/\f=sJ base m b es n J/\n<=(bS b es n).length/\((bS b es n).length:Int)<=m) 1000 () #[[],VY,VY,VY,W,W,W8 _,by show(1:Int)<=m;ext] ?_);rintro n o f ⟨J,j,h,g,rfl,rfl,hle,hlm⟩;let K:=l9 A l n;let lF:((bS b es n).map jL).length<100000:=by rw[V1];ext
 let P:PSt base.length (base.length+1) (base.length+2) m ((bS b es n).map jL) (sJ base m b es n J):=yA lF;let g3:(sJ base m b es n J)[base.length+3]?=cL (.lst ((ib b es n).map .fz)):=lG;let O:(ib b es n).length=n:=by ext ib;rw[V1,Wj]
 let dl:(bt b es n).length=n:=by ext bt;rw[V1,Wj]
 let y:∀{j h g:b3 SV},i4 br (ai (am 4) av) (W9 b m es base.length j h g) (sJ base m b es n J)=.ok (.fz (nd n)) (sJ base m b es n J):=lL (aq (aQ W) aC) (by ext aA;rw[df g3];rfl) ((gZ _).trans (by rw[O]));let H:∀{j h g:b3 SV},aJ "Places" "found" (am 3) (W9 b m es base.length j h g) (sJ base m b es n J)=.ok (.rf (base.length+1)) (sJ base m b es n J):=dr (aQ W) P.o tI;let L:i4 br (ai (aJ "Places" "found" (am 3)) av) (W9 b m es base.length j h g) (sJ base m b es n J)=.ok (.fz (nd (bS b es n).length)) (sJ base m b es n J):=lL (aq H aC) (by ext aA;rw[df P.f];rfl) ((gZ _).trans (by rw[V1,V1]));let q:=aV (cZ y L (bW (ou (n:Int) ((bS b es n).length:Int))));by_cases Y:n<(bS b es n).length
 case neg=>
  rw[a5 ()]at q;show .inl #[_,q,?_];let nN:(bS b es n).length=n:=by ext
  show vf (NX (aq H (aq (aQ W) (aq (aQ W) aC))) (Wc W) W W) #[n,J,nN,by ext,W,W]
 case pos=>
  rw[a4 ()]at q;show .inr #[by ext,_,q,?_];obtain⟨r,w⟩:∃r,(bS b es n)[n]?=cL r:=#[_,V9 Y];let u:=K r (WG w);show fu (x:=.fz (nd n)) (ρ1:=W9 b m es base.length (-(nd n)) h g) y W ?_;let st:gf (gf (aJ "Places" "found" (am 3)) (af (aa 6))) (af (~~~0)) (W9 b m es base.length (-(nd n)) h g) (sJ base m b es n J)=.ok (.fz (dH r.s)) (sJ base m b es n J):=bX (dx:=A0 (jL r)) (rY H (ah (d:=nd n) (ag W)) W P.f (Vp (by rw[Wg,Wg,Wg,w];rfl))) (ah aD) i7;show fu (x:=.fz (dH r.s)) (ρ1:=W9 b m es base.length (-(nd n)) (-(dH r.s)) g) st W ?_;let(M,ha):=yF A u l p (ρ:=W9 b m es base.length (-(nd n)) (-(dH r.s)) g) (ω:=sJ base m b es n J) W W W;show fu (x:=.fz (.list (es.map (iu b r.s)))) (ρ1:=W9 b m es base.length (-(nd n)) (-(dH r.s)) (-(.list (es.map (iu b r.s))))) ha W ?_;let eJ:sJ base m b es n J++M=sJ base m b es n (J++M):=by ext sJ;rw[<-pX];rfl
  rw[eJ];generalize J++M=J;let z:=B0 A u l p (ρ:=W9 b m es base.length (-(nd n)) (-(dH r.s)) (-(.list (es.map (iu b r.s))))) (ω:=base) (J:=.lst ((ib b es n).map .fz):: .lst ((bt b es n).map .fz)::J) (m:=m) (r:=n) (fs:=bS b es n) S R hlm W W W W;rw[<-vB w]at z;let E:Eh b es n=.tuple (es.map λe=>nd (eS (bS b es (n+1)) (aH b r.s e).1)):=by ext Eh;rw[w]
  let G:wS b es n=.tuple (es.map λe=>.tuple ((aH b r.s e).2.map ir)):=by ext wS;rw[w]
  let B:ib b es (n+1)=ib b es n++[Eh b es n]:=by ext ib;rw[Y8,Wu];rfl
  let I:bt b es (n+1)=bt b es n++[wS b es n]:=by ext bt;rw[Y8,Wu];rfl
  let z:=nJ z (T':=λx c=>∃ds,sh c x=cL (.list ds)/\(∃ys,c[base.length+3]?=cL (.lst ys)/\ys.length<1000000/\jQ (bc (jB (am 5) (af (dU eE {cQ 1 [] (dZ (aa 8)) (gN 0) b9 (dU eE {aF aX (aa 0) (~~~0)})}))) (W9 b m es base.length (-(nd n)) (-(dH r.s)) (-(.list (es.map (iu b r.s))))) (c.set (base.length+3) (.lst (ys++[.fz (.tuple ds)])))) (λo f=>∃J j h g,o=W9 b m es base.length j h g/\f=sJ base m b es (n+1) J/\n+1<=(bS b es (n+1)).length/\((bS b es (n+1)).length:Int)<=m) (λv c=>∃N J,(bS b es N).length=N/\(N:Int)<=m/\v=.tp [.rf (base.length+1),.rf (base.length+3),.rf (base.length+4)]/\c=sJ base m b es N J) (λx=>x=TM m/\∃i,m<((bS b es i).length:Int)))) (X':=λx=>x=TM m/\∃i,m<((bS b es i).length:Int)) ?_ (λx T=>#[T.1,n+1,T.2])
  .show GG (Ms (i:=base.length+3) (aQ W) (lG (t:=3)) (La z))
  rintro x c ⟨rfl,rfl,hm'⟩;show#[es.map λe=>nd (eS (bS b es (n+1)) (aH b r.s e).1),?_,(ib b es n).map .fz,lG (t:=3),by rw[V1,O];ext,?_]
  .show df ?_;rw[pX];show aK
  .let Z:(lj base m ((bS b es (n+1)).map jL) ((.lst ((ib b es n).map .fz):: .lst ((bt b es n).map .fz)::J)++[.lst ((es.map λe=>nd (eS (bS b es (n+1)) (aH b r.s e).1)).map .fz)])).set (base.length+3) (.lst ((ib b es n).map SV.fz++[.fz (.tuple (es.map λe=>nd (eS (bS b es (n+1)) (aH b r.s e).1)))]))=lj base m ((bS b es (n+1)).map jL) (.lst ((ib b es (n+1)).map .fz):: .lst ((bt b es n).map .fz)::(J++[.lst ((es.map λe=>nd (eS (bS b es (n+1)) (aH b r.s e).1)).map .fz)])):=by
    ext lj;rw[rE,B,E,Wu];rfl
   rw[Z];generalize J++[Cell.lst ((es.map λe=>nd (eS (bS b es (n+1)) (aH b r.s e).1)).map .fz)]=J;let cm:jN (c9 (gN 0) b9 (dU eE {aF aX (aa 0) (~~~0)}) (es.map (iu b r.s)) [VY] [])=.ok (es.map λe=>.tuple ((aH b r.s e).2.map ir)):=fX (cp:=[]) (iu b r.s) (λe=>.tuple ((aH b r.s e).2.map ir)) es p W λe _=>by let i0:aX (iu b r.s e) (.int 0)=-(.list ((aH b r.s e).2.map ir)):=i7;show bU (rv:=.fz (.tuple ((aH b r.s e).2.map ir))) (ds:=[.list ((aH b r.s e).2.map ir)]) (aj (aB (rv:=.fz (.list ((aH b r.s e).2.map ir))) (ag W) aD W W i0) ay) W W
   let X:(lj base m ((bS b es (n+1)).map jL) (.lst ((ib b es (n+1)).map .fz):: .lst ((bt b es n).map .fz)::J))[base.length+4]?=cL (.lst ((bt b es n).map .fz)):=lG (t:=4);let ap:=vL (ρ:=W9 b m es base.length (-(nd n)) (-(dH r.s)) (-(.list (es.map (iu b r.s))))) (fo:=am 5) (fe:=af (dU eE {cQ 1 [] (dZ (aa 8)) (gN 0) b9 (dU eE {aF aX (aa 0) (~~~0)})})) (x:=.fz (wS b es n)) (aQ W) X (by rw[G];show ah (bU (rv:=.fz (.tuple (es.map λe=>.tuple ((aH b r.s e).2.map ir)))) (ds:=[.list (es.map λe=>.tuple ((aH b r.s e).2.map ir))]) (aj (dn (cs:=[]) (ds:=es.map (iu b r.s)) (d5 (d:=.list (es.map (iu b r.s))) (ag W) W W) W cm) ay) W W)) X (by rw[V1,dl];ext);show zK (iK ap) #[J,_,_,_,W,?_,OS Y,hm'];unfold sJ lj;rw[rE,I,Wu];rfl
def ul(e:VB b){n:Nat}(d:b.n=n)(j:n<=5)(g:0<=m)(f:m<=1000)(a:aP):Out (cA [.fz (bD b),.fz (.int m)] a) (λv c=>∃N i K,(bS b (b5 n) N).length=N/\(N:Int)<=m/\v=.rf (a.length+i)/\c=a++K/\K[i]?=M (.lst ((((bS b (b5 n) N).map jL).map A0).map .fz))) (λx=>x=TM m/\∃i,m<((bS b (b5 n) i).length:Int)):=by show sF W ?_;ext mY;show K6 ?_;let p:=xK (F:=iq) (es:=[]) (fa:=ai (af (aa 0)) (ai (af (aa 1)) av)) (ρ:=[-(bD b),-(.int m)]) (ω:=a) (aq (ah (ag W)) (aq (ah (ag W)) aC)) W;show Out.bind (.eq p ((qC e d j g f a).imp λv c h=>?_));let(N,J,o,l,rfl,rfl):=h;show .eq (r':=RS.ok (SV.rf (a.length+2)) (sJ (a++[.dead]) m b (b5 n) N J)) ?_ #[N,2,_,o,l,W,(by unfold sJ lj;rw[Wy]),W];rw[ah aD,en];rfl
def Cn(c:Nat->Nat):Nat->Nat
 |0=>0
 |l+1=>max (Cn c l) (c l+1)
def RG(c:Nat->Nat)(n:Nat):Prop:=∀i,i<n->c i<=Cn c i
section
variable{c f:Nat->Nat}{n:Nat}
theorem nY(l:Nat):Cn c (l+1)=max (Cn c l) (c l+1):=W
def uK(k:Nat):Cn c i<=Cn c (i+k):=by
 induction k with
 |zero=>show Wa _
 |succ k a=>rw[<-XG,nY];ext
def HK(h:i<=j):Cn c i<=Cn c j:=by let(k,rfl):=Yr h;show uK k
def jf(h:i<l):c i<Cn c l:=by let:=HK (c:=c) h;rw[nY]at this;ext
theorem zk(h:RG c n):∀l,l<=n->Cn c l<=l
 |0,_=>Wa _
 |l+1,e=>by let b:=zk h l ();let a:=h l ();rw[nY];ext
theorem ku(h:RG c n):∀l,l<=n->k<Cn c l->∃i,i<l/\c i=k/\Cn c i=k
 |0,_,j=>a7 j (abq _)
 |l+1,m,j=>by
  by_cases e:k<Cn c l
  .let(i,a,b):=ku h l () e;show#[i,by ext,b]
  .let g:=h l ();rw[nY]at j;show#[l,by ext,by ext,by ext]
def Km(p:RG c n)(a:RG f n)(o:∀i j,i<n->j<n->f i=f j->c i=c j)(s:Cn f n<=Cn c n):∀i,i<n->f i=c i:=by
 let new:∀l,l<n->c l=Cn c l->f l=Cn f l:=λl g e=>by
  by_cases q:f l<Cn f l
  .let(j,h,b,_):=ku a l () q;let:=o j l () g b;let:=jf (c:=c) h;ext
  .let:=a l g;ext
 let d:∀l k,l+k<=n->Cn f l+Cn c (l+k)<=Cn f (l+k)+Cn c l:=by
  intro l k
  induction k with
  |zero=>intro _;show Wa _
  |succ k m=>
   intro z;let y:=m ();rw[<-XG,nY,nY];let u:=p (l+k) ();let r:=a (l+k) ();by_cases q:c (l+k)=Cn c (l+k)
   .let:=new (l+k) () q;ext
   .omega
 let e:∀l,l<=n->Cn f l=Cn c l:=λl g=>by let(k,rfl):=Yr g;let t:=d 0 l ();let A:=d l k (Wa _);rw[Xg]at t;let w:Cn f 0=0:=W;let v:Cn c 0=0:=W;ext
 intro i
 induction i using Nat.strongRecOn with
 |ind i m=>
  intro C;let e0:=e i ();let e1:=e (i+1) ();rw[nY,nY]at e1;let u:=p i C;let r:=a i C;by_cases q:f i<Cn f i
  .let(j,h,b,_):=ku a i () q;rw[<-b,m j h (),o j i () C b]
  .omega
def Lm:Nat->G Nat->Prop
 |_,[]=>True
 |m,s::r=>s<=m/\Lm (max m (s+1)) r
def tS(m:Nat)(r:G Nat):Nat:=r.foldl (λm s=>max m (s+1)) m
theorem Fk(m s:Nat)(r:G Nat):tS m (s::r)=tS (max m (s+1)) r:=W
theorem BJ:∀{m:Nat} (r:G Nat),(∀s∈r,s<m)->tS m r=m
 |_,[],_=>rfl
 |m,s::r,h=>by let b:=h s Wk;rw[Fk,show max m (s+1)=m by ext];show BJ r λx a=>h x (Wf _ a)
theorem wU:∀{m:Nat} (r:G Nat),m<=tS m r/\∀s∈r,s<tS m r
 |m,[]=>#[Wa _,λ_ h=>nomatch h]
 |m,s::r=>by
  let(e,b):=wU (m:=max m (s+1)) r;rw[Fk];show#[by ext,λx a=>?_];rcases WE.mp a with rfl|a
  .omega
  .show b x a
theorem Bt(a:RG c n):∀(r:G Nat) (l:Nat),Lm l r->tS l r<=n->Lm (Cn c l) (r.map c)/\tS (Cn c l) (r.map c)=Cn c (tS l r)
 |[],l,_,_=>#[True.intro,W]
 |s::r,l,#[h1,j],i=>by
  rw[Fk]at i;let(g,b):=Bt a r _ j i;let h:=(wU (m:=max l (s+1)) r).1;let e:max (Cn c l) (c s+1)=Cn c (max l (s+1))/\c s<=Cn c l:=by
   by_cases q:s<l
   .let:=jf (c:=c) q;rw[show max l (s+1)=l by ext];show#[by ext,by ext]
   .obtain rfl:s=l:=by ext
    rw[show max s (s+1)=s+1 by ext];show#[W,a s ()]
  show#[#[e.2,by rw[e.1];show g],?_];show tS (max (Cn c l) (c s+1)) (r.map c)=_;rw[e.1,b,Fk]
def Df{S:Nat->bg Nat}{L:Nat->Nat}(r:RG c n)(C:∀a,a<n->a<L a/\L (a+1)<=n/\Lm (L a) (S a)/\tS (L a) (S a)=L (a+1))(M:∀a x,a<n->x<n->c a=c x->(S a).map c=(S x).map c)(O:L 0=1)(N:L n=n)(y:0<n):
  ∃m:Nat->Nat,m 0=1/\m (Cn c n)=Cn c n/\∀k a,a<n->c a=k->Cn c a=k->k<m k/\Lm (m k) ((S a).map c)/\tS (m k) ((S a).map c)=m (k+1):=by
 let row:∀a,a<n->Lm (Cn c (L a)) ((S a).map c)/\tS (Cn c (L a)) ((S a).map c)=Cn c (L (a+1)):=λa ha=>by let(_,b,t,E):=C a ha;let:=Bt r (S a) (L a) t ();rw[E]at this;show this
 let H:∀a k,a+k<=n->Cn c (L a)<=Cn c (L (a+k)):=by
  intro a k
  induction k with
  |zero=>intro _;show Wa _
  |succ k A=>intro h;let Y:=A ();let X:=(row (a+k) ()).2;let U:=(wU (m:=Cn c (L (a+k))) ((S (a+k)).map c)).1;rw[<-XG];ext
 let w:∀a,a<n->c a<Cn c a->Cn c (L (a+1))=Cn c (L a):=λa ha q=>by let(x,g,b,_):=ku r a () q;let e:=M a x ha () b.symm;let(_,u):=row a ha;let(_,P):=row x ();let(k,rfl):=Yr g;let p:=H (x+1) k (by show x+1+k<=n;show Zc ha);rw[<-u];show BJ _ λs l=>?_;rw[e]at l;let:=(wU (m:=Cn c (L x)) ((S x).map c)).2 s l;let p:Cn c (L (x+1))<=Cn c (L (x.succ+k)):=p;ext
 let j:∀a d,a+d<=n->Cn c (a+d)=Cn c a->Cn c (L (a+d))=Cn c (L a):=by
  intro a d
  induction d with
  |zero=>intro _ _;rfl
  |succ d A=>
   intro g b;let R:=uK (c:=c) (i:=a) d;let Q:Cn c (a+d)<=Cn c (a+d+1):=uK 1;rw[<-XG]at b⊢;let q:c (a+d)<Cn c (a+d):=by let:Cn c (a+d+1)=max (Cn c (a+d)) (c (a+d)+1):=W;ext
   rw[w (a+d) () q];show A () ()
 let o:∀k,∃a,k<Cn c n->a<n/\c a=k/\Cn c a=k:=λk=>by
  by_cases q:k<Cn c n
  .let(i,h):=ku r n (Wa _) q;show#[i,λ_=>h]
  .show#[0,λh=>a7 h q]
 let F:c 0=0:=by let:=r 0 y;let z:Cn c 0=0:=W;ext
 let B:∀k a x,a<n->x<n->c a=k->Cn c a=k->c x=k->Cn c x=k->a=x:=λk a x _ _ g b t E=>by
  rcases aaV a x with q|q|q
  .let:=jf (c:=c) q;ext
  .show q
  .let:=jf (c:=c) q;ext
 show#[λk=>if k<Cn c n then Cn c (L (Classical.choose (o k)))else Cn c n,?_,?_,?_]
 .let q:0<Cn c n:=aaG (W8 _) (jf y);dsimp only;rw[ax q];let(g,b,t):=Classical.choose_spec (o 0) q;rw[B 0 _ 0 g y b t F W,O,nY,F];rfl
 .dsimp only;rw[aE (Xk _)]
 .intro k a ha g b
  let q:k<Cn c n:=by rw[<-g];show jf ha
  let(k1,k2,k3):=Classical.choose_spec (o k) q;let e:=B k _ a k1 ha k2 k3 g b;let(G,u):=row a ha;let(p,T,_):=C a ha;dsimp only;rw[ax q,e];show#[by let:=jf (c:=c) p;ext,G,?_];rw[u];let Z:Cn c (a+1)=k+1:=by rw[nY];ext
  by_cases v:k+1<Cn c n
  .rw[ax v]
   let(K,J,I):=Classical.choose_spec (o (k+1)) v;generalize Classical.choose (o (k+1))=a2 at K J I;let lt:a+1<=a2:=by
    rcases agO a2 (a+1)with z|z
    .let:=HK (c:=c) (show a2<=a by ext);ext
    .show z
   let(d,rfl):=Yr lt;show(j (a+1) d () ()).symm
  .rw[aE v];let(d,e2):=Yr (show a+1<=n from ha);let hm:=HK (c:=c) (show a+1<=n from ha);let:=j (a+1) d () (by rw[e2];ext);rw[e2,N]at this;show this.symm
end
def sC(fs:G Pl)(d:D):G Pl:=if(dB fs d).isSome=P then fs else fs++[#[d,.none,.none]]
def sM(fs:G Pl)(d:D):Nat:=(dB fs d).getD fs.length
def fF(ds:G D):G Pl:=ds.foldl sC []
def wv(ds:G D)(i:Nat):Nat:=sM (fF (ds.take i)) (ds[i]?.getD .none)
def Rt(ds:G D):G Nat:=(V6 ds.length).map (wv ds)
theorem rP:∀{fs:G Pl} {d:D} {t:Nat},dB fs d=M t->∃q,fs[t]?=M q/\V3.eqv q.p d=P
 |[],_,_,h=>by ext h
 |a::r,d,t,h=>by
  unfold dB at h;split at h
  .rename_i e;ext h;show#[a,W,e]
  .cases q:dB r d with
   |none=>rw[q]at h;ext h
   |some j=>rw[q]at h;ext h;let(x,f,b):=rP q;show#[x,by simpa using f,b]
def nK(h:ds[i]?=M d):fF (ds.take (i+1))=sC (fF (ds.take i)) d/\wv ds i=sM (fF (ds.take i)) d:=by
 show#[?_,?_]
 .ext fF;rw[X6,h,Zs];rfl
 .ext wv;rw[h];rfl
def z8(fs:G Pl)(d:D):(sC fs d).length=max fs.length (sM fs d+1)/\sM fs d<=fs.length:=by
 unfold sC sM;cases q:dB fs d with
 |none=>rw[aE (by nofun),V8];show fs.length+1=max fs.length (fs.length+1)/\fs.length<=fs.length;ext
 |some t=>let(x,a,_):=rP q;let:=(V2.mp a).1;rw[ax (show(M t).isSome=P from rfl)];show fs.length=max fs.length (t+1)/\t<=fs.length;ext
theorem re(ds:G D):∀i,i<=ds.length->(fF (ds.take i)).length=Cn (wv ds) i
 |0,_=>by rw[aaf];rfl
 |i+1,h=>by let a:=V9 (show i<ds.length by ext);let(e1,e2):=nK a;rw[e1,(z8 _ _).1,re ds i (),nY,e2]
theorem Iu(ds:G D):RG (wv ds) ds.length:=λi h=>by rw[<-re ds i (),(nK (V9 h)).2];show(z8 _ _).2
def FO(fs:G Pl)(d:D):fs<+:sC fs d:=by
 ext sC;split
 .show Yw _
 .show adD _ _
def DS(ds:G D)(i k:Nat):fF (ds.take i)<+:fF (ds.take (i+k)):=by
 induction k with
 |zero=>show Yw _
 |succ k a=>
  rw[<-XG];cases q:ds[i+k]? with
  |none=>let b:=List.getElem?_eq_none_iff.mp q;rw[show ds.take (i+k+1)=ds.take (i+k) by rw[ZU (),ZU b]];show a
  |some d=>rw[(nK q).1];show a.trans (FO _ _)
def Lb(h:fs<+:gs)(q:dB fs p=M t):dB gs p=M t:=by let(l,rfl):=h;show vR q
def D9(h:LD.keyD d=P):dB (sC fs d) d=M (sM fs d):=by
 unfold sC sM;cases q:dB fs d with
 |none=>rw[aE (by nofun)];show rT q (vx h)
 |some t=>rw[ax (show(M t).isSome=P from rfl),q];rfl
theorem tW(b:aP)(a:A):RS.W5 b (M a)=.ok a b:=W
def Ip(a:∀d∈ds,LD.keyD d=P)(h:ds[i]?=M d)(k:Nat):dB (fF (ds.take (i+1+k))) d=M (wv ds i):=by let(e1,e2):=nK h;show Lb (DS ds (i+1) k) ?_;rw[e1,e2];show D9 (a d (WG h))
def zi(h:LD.keyD d=P):LD.kd d=P:=by
 cases d with
 |tuple xs=>unfold LD.keyD at h;rw[VZ]at h;show h.1
 |_=>simp[LD.keyD]at h
theorem vH{ds:G D}(a:∀d∈ds,LD.keyD d=P):∀i,i<=ds.length->∀q∈fF (ds.take i),LD.keyD q.p=P
 |0,_,q,b=>by rw[aaf]at b;ext b
 |i+1,h,q,b=>by
  let e:=V9 (show i<ds.length by ext);rw[(nK e).1]at b;unfold sC at b;split at b
  .show vH a i () q b
  .rcases W7.mp b with b|b
   .show vH a i () q b
   .rw[WI.mp b];show a _ (Yb _)
def RL(a:∀d∈ds,LD.keyD d=P)(c:ds[i]?=M d)(m:ds[j]?=M e):wv ds i=wv ds j↔d=e:=by
 let t:=(V2.mp c).1;let r:=(V2.mp m).1;let(k,v):=Yr (show i+1<=ds.length from t);let(l,u):=Yr (show j+1<=ds.length from r);let f:=Ip a c k;let b:=Ip a m l;rw[v]at f;rw[u]at b;constructor
 .intro z;rw[z]at f;let(q,p,y):=rP f;let(A,o,w):=rP b;rw[p]at o;ext o;let n:=zi (vH a _ (Wa _) q (WG p));let h:=zi (a d (WG c));let g:=zi (a e (WG m));rw[<-LD.kd_eqv _ _ n h y,<-LD.kd_eqv _ _ n g w]
 .rintro rfl;rw[f]at b;show Wm b
def Mb(h:LD.keyD d=P):jV (.fz d)=M d:=by
 cases d with
 |tuple xs=>ext jV;dsimp only;rw[ax h]
 |_=>simp[LD.keyD]at h
def oZ(v:frz 4 (C++[.dd []]) x=M (.list ds,ω1++[.dd []]))(j:ω1.length=C.length)(u:∀d∈ds,LD.keyD d=P)(s:ds.length<=1000):
  de [x] C=.ok (.rf (C.length+1)) (ω1++[.dd (dA 0 (fF ds)),.lst ((Rt ds).map λc=>.fz (nd c))]):=by
 let p:ef (am 0) [M x,M (.rf C.length)] (C++[.dd []])=.ok ds (ω1++[.dd []]):=by ext ef;rw[aQ W,en,v];rfl
 let h:Out (bH (cT 0) bV (tj (am 1) (af (aa 0)) (mh (am 1))) ds [R,M (.rf C.length)] (ω1++[.dd []]) []) (λxs a=>∃b:aW,(∃o,b=[o,M (.rf C.length)])/\a=ω1++[.dd (dA 0 (fF (ds.take (0+ds.length))))]/\xs=((V6 (0+ds.length)).map (wv ds)).map λc=>.fz (nd c)) λ_=>False:=by
  show gS (λk J a f=>(∃o,J=[o,M (.rf C.length)])/\a=ω1++[.dd (dA 0 (fF (ds.take k)))]/\f=((V6 k).map (wv ds)).map λc=>.fz (nd c)) ds 0 _ _ _ #[#[R,W],W,W] ?_;rintro i d J a f A ⟨⟨o,rfl⟩,rfl,rfl⟩;rw[Xg];let w:=(V2.mp A).1;show#[by rw[V1,V1,Wj];ext,[-(d),M (.rf C.length)],W,W,?_];let kd:=u d (WG A);let(e1,e2):=nK A;let m:=re ds i ();let y:=zk (Iu ds) i ();rw[e1];let l:((V6 (i+1)).map (wv ds)).map (λc=>SV.fz (nd c))=((V6 i).map (wv ds)).map (λc=>SV.fz (nd c))++[.fz (nd (sM (fF (ds.take i)) d))]:=by rw[Y8,Wu,Wu,adE,adE,e2]
  rw[l];generalize fF (ds.take i)=fs at m⊢;let g:(ω1++[Cell.dd (dA 0 fs)])[C.length]?=M (.dd (dA 0 fs)):=by rw[<-j];show aK
  let n:mh (am 1) [-(d),M (.rf C.length)] (ω1++[Cell.dd (dA 0 fs)])=.ok (.fz (nd fs.length)) (ω1++[Cell.dd (dA 0 fs)]):=by ext mh;rw[aQ W,en,uu g];show RS.ok (SV.fz (.int (dA 0 fs).length)) _=_;rw[p7]
  let r:(dA 0 fs).length<1000000:=by rw[p7];ext
  let ev:tj (am 1) (af (aa 0)) (mh (am 1)) [-(d),M (.rf C.length)] (ω1++[Cell.dd (dA 0 fs)])=.ok (.fz (nd (sM fs d))) (ω1++[Cell.dd (dA 0 (sC fs d))]):=by
   ext tj;rw[aQ W,en,uu g,tW,en,ah (ag W),en,n,en,Mb kd,tW,en,show Rs (.fz (nd fs.length))=M (nd fs.length)from rfl,tW,en,uu g,tW,en];rw[ax r,kB];unfold sM sC;cases q:dB fs d with
   |some t=>rw[ax (show(M t).isSome=P from rfl)];show RS.ok (SV.fz (nd (0+t))) _=_;rw[Xg];rfl
   |none=>rw[aE (by nofun)];rw[AC q,<-j,eX];rfl
  show .eq ev #[#[_,W],W,W]
 let(xs,a,e,b,_,rfl,rfl):=h.all;rw[Xg,ZL]at e;show hJ W ?_;ext ic;rw[ci (ka W W)];show(gq (gK p e)).trans ?_;rw[Wy,V8,j];rfl
def Ck(St:Nat->G Nat)(r:Nat):D:=.tuple ((St r).map nd)
def rd(c:Nat->Nat)(St:Nat->G Nat)(r:Nat):D:=.tuple [nd (c r),.tuple ((St r).map λs=>nd (c s))]
abbrev xU(St:Nat->G Nat)(N:Nat)(a:D)(q:Nat):G (Str×SV):=[("steps",.fz (.list ((V6 N).map (Ck St)))),("sends",.fz a),("rounds",.rf q)]
def clC(c:Nat->Nat)(N:Nat):Cell:=.lst ((V6 N).map λi=>SV.fz (nd (c i)))
section
variable{N:Nat}{St:Nat->bg Nat}{c:Nat->Nat}{Y:aP}{o q t r:Nat}{X:bg SV}{T:D}
def dW(h:r<N):((V6 N).map f)[r]?=M (f r):=by rw[Wg,List.getElem?_range h];rfl
theorem Ni(a:Y[t]?=M (clC c N))(h:r<N)(d:J C Y=.ok (.rf t) Y)(b:fb C Y=.ok (.fz (nd r)) Y):gf J fb C Y=.ok (.fz (nd (c r))) Y:=
 rY d b W a (zT (dW h))
def Lq(f:Y[o]?=M (.obj "Sorting" (xU St N T q)))(i:Y[q]?=M (.lst (X++[.rf t])))(b:Y[t]?=M (clC c N))(e:r<N)(h:∀s∈St r,s<N)(l:(St r).length<=1000):
  ∃C,aY [.rf o,.fz (nd r)] Y=.ok (.fz (rd c St r)) (Y++[C]):=by
 show#[.lst (((St r).map λs=>nd (c s)).map .fz),hJ W ?_];let e0:gf (aJ "Sorting" "rounds" (am 0)) (af (CP pP (~~~1))) [M (.rf o),-(nd r),R] Y=.ok (.rf t) Y:=rY (dr (aQ W) f W) (ah (A9 (rv:=.fz (.int (-1))) aD W W)) W i (sr _ _);show ci (ka e0 W) ?_;let g:ef (gf (aJ "Sorting" "steps" (am 0)) (af (aa 1))) [M (.rf o),-(nd r),M (.rf t)] Y=.ok ((St r).map nd) Y:=by ext ef;rw[bX (dr (aQ W) f W) (ah (ag W)) (wz (dW e)),en];rfl
 let cm:bH (cT 0) bV (gf (am 1) (af (aa 0))) ((St r).map nd) [R,M (.rf t)] Y []=.ok ([]++(St r).map λs=>SV.fz (nd (c s))) Y:=by show gP nd (λs=>SV.fz (nd (c s))) Y (λm=>∃o,m=[o,M (.rf t)]) (St r) _ [] #[_,W] (by show 0+_<=_;ext) ?_;rintro s a m ⟨x,rfl⟩;show#[[-(nd s),M (.rf t)],W,W,Ni b (h s a) (aQ W) (ah (ag W)),_,W]
 rw[YD]at cm;let j:=gK (n:=1) (fj:=[2]) g cm;show gq (oh (aq (Ni b e (aQ W) (ah (ag W))) (aq (lL (ds:=[.list ((St r).map λs=>nd (c s))]) (aq (by rw[WB];show j) aC) ?_ W) aC)) (by show 2<=1000;ext));let:sh (Y++[.lst (((St r).map λs=>nd (c s)).map .fz)]) (.rf Y.length)=M (.list ((St r).map λs=>nd (c s))):=df aK;ext aA;rw[this];rfl
def na(h:N<=1000):gv [nd N]=M ((V6 N).map nd):=by show(if jA (N:Int)then M (L3.eU 0 (N:Int).toNat)else R)=_;rw[ax #[by ext,by ext],Xo];congr 1;show Xx λk _=>?_;rw[agI]
def Gx(p:Y[o]?=M (.obj "Sorting" (xU St N T q)))(y:Y[q]?=M (.lst (X++[.rf t])))(w:Y[t]?=M (clC c N))(u:∀r,r<N->(St r).length<=1000/\∀s∈St r,s<N)(z:N<=1000)(g:ρ[0]?=M (M (.rf o))):
  ∃K,dw 1 [0] (jr (i4 br (ai (aJ "Sorting" "steps" (am 0)) av))) (cT 0) bV (aL "Sorting" "mark_of" aY 2 (am 1) (ai (af (aa 0)) av)) ρ Y=.ok (.rf (Y++K).length) (Y++K++[.lst (((V6 N).map (rd c St)).map .fz)]):=by
 let v:jr (i4 br (ai (aJ "Sorting" "steps" (am 0)) av)) ρ Y=.ok ((V6 N).map nd) Y:=by ext jr;rw[lL (aq (dr (aQ g) p W) aC) W (by show M (RV.fz (.int ((V6 N).map (Ck St)).length))=_;rw[V1,Wj]),en,show Rs (.fz (nd N))=M (nd N)from rfl,tW,en,na z,tW]
 let n:Out (bH (cT 0) bV (aL "Sorting" "mark_of" aY 2 (am 1) (ai (af (aa 0)) av)) ((V6 N).map nd) [R,M (.rf o)] Y []) (λxs a=>∃b:aW,(∃x,b=[x,M (.rf o)])/\(∃K,a=Y++K)/\xs=((V6 (0+((V6 N).map nd).length)).map (rd c St)).map .fz) λ_=>False:=by
  show gS (λk ρ a l=>(∃x,ρ=[x,M (.rf o)])/\(∃K,a=Y++K)/\l=((V6 k).map (rd c St)).map .fz) _ 0 _ _ _ #[#[R,W],#[[],by rw[WL]],W] ?_;rintro i d ρ a l A ⟨⟨x,rfl⟩,⟨K,rfl⟩,rfl⟩;rw[Xg];let f:=(V2.mp A).1;rw[V1,Wj]at f;rw[dW f]at A;ext A;let m:∀{j:Nat} {C:Cell},Y[j]?=M C->(Y++K)[j]?=M C:=λ{j C} h=>by rw[Wh (V2.mp h).1];show h
  let(C,e):=Lq (m p) (m y) (m w) f (u i f).2 (u i f).1;show#[by rw[V1,V1,Wj];ext,[-(nd i),M (.rf o)],W,W,?_];show .eq (AJ (aQ W) (m p) W (aq (ah (ag W)) aC) W e) #[#[_,W],#[K++[C],by rw[Wy]],?_];rw[Y8,Wu,Wu];rfl
 let(xs,a,e,b,_,(K,rfl),rfl):=n.all;rw[Xg,V1,Wj]at e;show#[K,gK v ?_];let:d7 1 [0] ρ=[R,M (.rf o)]:=by ext d7;show[R]++[(ρ[0]?).join]=_;rw[g];rfl
 rw[this];show e
end
def Hc(c:Nat->Nat)(St:Nat->G Nat)(r:Nat):LD.keyD (rd c St r)=P:=by
 let e:(St r).map (λs=>nd (c s))=bh ((St r).map c):=by ext bh;rw[WB];rfl
 ext rd;rw[e,LD.keyD];simp only[LD.kd,LD.kds];rw[AG];show(VZ _ _).mpr #[W,a4 ?_];show max 0 (max (V3.depthAll (bh ((St r).map c))+1) 0)+1<=8;rw[jt];ext
def Hb(h:nd a=nd b):a=b:=by
 let:(a:Int)=b:=by injection h
 ext
def zY{xs a:G Nat}(h:xs.map (λs=>nd (c s))=a.map λs=>nd (c s)):xs.map c=a.map c:=by
 let e:∀l:G Nat,l.map (λs=>nd (c s))=(l.map c).map nd:=λl=>by rw[WB];rfl
 rw[e,e]at h;show List.map_inj_right (λ_ _=>Hb)|>.mp h
section
variable{N:Nat}{St:Nat->bg Nat}{c f:Nat->Nat}{ω:aP}{o q t:Nat}{Z:bg SV}{sd:D}{ρ:aW}{fa:c8}
def Bm:clC c N=.lst (((V6 N).map λi=>nd (c i)).map .fz):=by ext clC;rw[WB];rfl
def NS(n:0<N)(h:RG c N)(g:ω[t]?=M (clC c N))(d:fa ρ ω=.ok (.rf t) ω):i4 gx (ai fa av) ρ ω=.ok (.fz (.int ((Cn c N:Int) - 1))) ω:=by
 let e:(V6 N).map (λi=>nd (c i))=((V6 N).map λi=>((c i:Nat):Int)).map V3.int:=by rw[WB];rfl
 let a:0<((V6 N).map λi=>((c i:Nat):Int)).length:=by rw[V1,Wj];show n
 let hm:Cg ((V6 N).map λi=>((c i:Nat):Int))=(Cn c N:Int) - 1:=by let(m,l):=uH a;let(i,r,e1):=WH.mp m;let:=jf (c:=c) (WX.mp r);let(j,b,p,_):=ku h (k:=Cn c N - 1) N (Wa _) ();let:=l (c j:Nat) (WH.mpr #[j,WX.mpr b,W]);ext
 show lL (ds:=[.list ((V6 N).map λi=>nd (c i))]) (aq d aC) ?_ ?_
 .ext aA;rw[df (by rw[g,Bm])];rfl
 .ext gx;dsimp only;rw[e,L3.g7];dsimp only;rw[ax a,hm]
def Rf(q N:Nat)(ω:aP)(x:SV):Prop:=∃t c,x=.rf t/\q<t/\ω[t]?=M (clC c N)
theorem Ho:∀{Z:G SV},(∀x∈Z,Rf q N ω x)->∃ds,aA (pd 5 ω) Z=M ds/\ds.length=Z.length/\V3.canLayAll0 ds=P/\V3.depthAll ds<=1
 |[],_=>#[[],W,W,W,W8 _]
 |x::r,h=>by
  let(ds,p,n,m,u):=Ho λy g=>h y (Wf _ g);let(t,c,rfl,_,j):=h x Wk;let e:pd 5 ω (.rf t)=M (.list (bh ((V6 N).map c))):=by
   ext pd;rw[j,Bm];show(aA (pd 4 ω) (((V6 N).map λi=>nd (c i)).map .fz)).map V3.list=_;let:∀l:G D,aA (pd 4 ω) (l.map .fz)=M l:=λl=>by
    induction l with
    |nil=>rfl
    |cons a l b=>rw[Wl];ext aA;rw[show pd 4 ω (.fz a)=M a from rfl,b]
   rw[this];ext bh;rw[WB];rfl
  show#[.list (bh ((V6 N).map c))::ds,?_,by rw[Wi,Wi,n],?_,?_]
  .ext aA;rw[e,p]
  .ext V3.canLayAll0;rw[m,show V3.canLay0 (.list (bh ((V6 N).map c)))=P by ext V3.canLay0;show jw _];rfl
  .show max (V3.depthAll (bh ((V6 N).map c))+1) (V3.depthAll ds)<=1;rw[jt];ext
def Gn(g:ρ[0]?=M (M (.rf o)))(p:ω[o]?=M (.obj "Sorting" (xU St N sd q)))(i:ω[q]?=M (.lst Z))(l:∀x∈Z,Rf q N ω x):
  aZ (jK cP (aJ "Sorting" "rounds" (am 0)) (af (cx ar))) ρ ω=.ok Z.isEmpty (ω++[.lst []]):=by
 let e:∀{j:Nat} {C:Cell},ω[j]?=M C->(ω++[Cell.lst []])[j]?=M C:=λ{j C} h=>by rw[Wh (V2.mp h).1];show h
 show aV (cZ (dr (aQ g) p W) (dS (by ext:0)) ?_);show pL cP (.rf q) (.rf ω.length) (ω++[Cell.lst []])=_;cases Z with
 |nil=>show vh (df (ds:=[]) (e i)) (df (ds:=[]) aK) W
 |cons x r=>
  let(ds,v,m,u,w):=Ho λy n=>let#[t,c,a,b,d]:=l y n;#[t,c,a,b,e d]
  let(t,c,rfl,_,_):=l x Wk;show PR (dx:=.list ds) (dy:=.list []) (.inl ?_) ?_ ?_ ?_ W
  .ext sh;dsimp only;rw[e i];rfl
  .ext pd;rw[e i];dsimp only;rw[v];rfl
  .ext pd;rw[aK];rfl
  .cases ds with
   |nil=>rw[Wi]at m;ext m
   |cons d ds=>
    ext cP;rw[ax]
    .rfl
    .rw[Nq (by ext V3.canLay0;show u) (by show V3.depthAll (d::ds)+1<=64;ext)];rfl
def sq(E:G D)(St:Nat->G Nat)(N:Nat):Nat->Nat->Nat
 |0=>wv E
 |k+1=>wv ((V6 N).map (rd (sq E St N k) St))
def BM:((V6 N).map (rd c St)).length=N:=by rw[V1,Wj]
theorem uh(a:E.length=N):∀k,RG (sq E St N k) N
 |0=>by rw[<-a];show Iu E
 |k+1=>by let:=Iu ((V6 N).map (rd (sq E St N k) St));rw[BM]at this;show this
theorem Fq(e:i<N)(a:j<N):wv ((V6 N).map (rd c St)) i=wv ((V6 N).map (rd c St)) j↔rd c St i=rd c St j:=
 RL (λd b=>by let(i,_,rfl):=WH.mp b;show Hc _ _ _) (dW e) (dW a)
def Cr(b:E.length=N)(h:Cn (sq E St N (k+1)) N<=Cn (sq E St N k) N)(d:i<N)(a:j<N)(e:sq E St N k i=sq E St N k j):(St i).map (sq E St N k)=(St j).map (sq E St N k):=by
 let g:=Km (uh b k) (uh b (k+1)) (λi j d a z=>by
  let:=(Fq d a).mp z;injection this with h
  injection h with h1 _
  show Hb h1) h
 let:=(Fq d a).mp ((g i d).trans (e.trans (g j a).symm));injection this with h
 injection h with _ h2
 injection h2 with h3 _
 injection h3 with h4
 show zY h4
def LI(o q N:Nat)(St:Nat->G Nat)(E:G D)(e b a:z SV)(n:Nat)(ρ:aW)(ω:aP):Prop:=∃Z t,ρ=[M (.rf o),e,b,a,M (.rf t)]/\ω[o]?=M (.obj "Sorting" (xU St N (.list E) q))/\ω[q]?=M (.lst Z)/\q<t/\ω[t]?=M (clC (sq E St N n) N)/\(∀x∈Z,Rf q N ω x)/\Z.length=n/\(∀j,j+1<n->Cn (sq E St N j) N<Cn (sq E St N (j+1)) N)/\(n=0/\Z=[]\/∃k g h,n=k+1/\Z=g++[.rf h]/\ω[h]?=M (clC (sq E St N k) N)/\k+1<=Cn (sq E St N k) N)
def SE(o q N:Nat)(St:Nat->G Nat)(E:G D)(ω:aP):Prop:=∃Z t k,ω[o]?=M (.obj "Sorting" (xU St N (.list E) q))/\ω[q]?=M (.lst (Z++[.rf t]))/\ω[t]?=M (clC (sq E St N k) N)/\Cn (sq E St N (k+1)) N<=Cn (sq E St N k) N/\∀j,j<k->Cn (sq E St N j) N<Cn (sq E St N (j+1)) N
def CV(hN:∀ρ V,SE o q N St E V->Nn ρ V)(hE:E.length=N)(Q:0<N)(h9:N<=1000)(hs:∀r,r<N->(St r).length<=1000/\∀s∈St r,s<N)(hi:LI o q N St E x1 x2 x3 0 ρ ω):
  jQ (lY (zS (aZ (jK cP (aJ "Sorting" "rounds" (am 0)) (af (cx ar)))) (aZ (jK DB (i4 gx (ai (am 4) av)) (i4 gx (ai (gf (aJ "Sorting" "rounds" (am 0)) (af (CP pP (~~~1)))) av))))) (aG (bc (jB (aJ "Sorting" "rounds" (am 0)) (am 4)))
 (b8 (j6 de 1 (ai (dw 1 [0] (jr (i4 br (ai (aJ "Sorting" "steps" (am 0)) av))) (cT 0) bV (aL "Sorting" "mark_of" aY 2 (am 1) (ai (af (aa 0)) av))) av)) (cT 4))) ρ ω) Nn T X:=by
 show xi (LI o q N St E x1 x2 x3) 2000 () hi ?_;rintro n ρ ω ⟨Z,t,rfl,ho,hq,qt,ht,I,hrl,hup,P⟩;let O:=uh (St:=St) hE n;let ZR:sq E St N (n+1)=wv ((V6 N).map (rd (sq E St N n) St)):=W;generalize hfn:sq E St N n=f at ht O ZR;let l:∀{j:Nat} {C:Cell},ω[j]?=cL C->(ω++[Cell.lst []])[j]?=cL C:=λ{j C} h=>by rw[Wh (V2.mp h).1];show h
 let R:=Gn (ρ:=[cL (.rf o),x1,x2,x3,cL (.rf t)]) W ho hq I;let fp:1<=Cn f N:=by let:=jf (c:=f) Q;ext
 let fN:=zk O N (Wa _)
 let u:n+1<=Cn f N->(∀j,j+1<n+1->Cn (sq E St N j) N<Cn (sq E St N (j+1)) N)->jQ (aG (bc (jB (aJ "Sorting" "rounds" (am 0)) (am 4)))
   (b8 (j6 de 1 (ai (dw 1 [0] (jr (i4 br (ai (aJ "Sorting" "steps" (am 0)) av))) (cT 0) bV (aL "Sorting" "mark_of" aY 2 (am 1) (ai (af (aa 0)) av))) av)) (cT 4)) [cL (.rf o),x1,x2,x3,cL (.rf t)] (ω++[.lst []])) (LI o q N St E x1 x2 x3 (n+1)) T X:=λM S=>by
  replace ho:=l ho;replace hq:=l hq;replace ht:=l ht;let I:∀x∈Z,Rf q N (ω++[.lst []]) x:=λy hy=>let#[t,c,a,b,d]:=I y hy;#[t,c,a,b,l d]
  generalize ω++[Cell.lst []]=ω at ho hq ht I;let U:=(V2.mp hq).1;let oq:q≠o:=λz=>by rw[z,ho]at hq;ext hq
  let rl:Z.length<1000000:=by ext
  show tO (iK (vL (dr (aQ W) ho W) hq (aQ W) hq rl)) ?_;let ne:∀{j:Nat} {C C':Cell},q≠j->ω[j]?=cL C->(ω.set q C')[j]?=cL C:=λh e=>by rw[W6 h];show e
  let B:=ne (C':=.lst (Z++[.rf t])) oq ho;let A:(ω.set q (.lst (Z++[.rf t])))[q]?=cL (.lst (Z++[.rf t])):=Xb U;let p:=ne (C':=.lst (Z++[.rf t])) (Wz qt) ht;let H:∀x∈Z++[.rf t],Rf q N (ω.set q (.lst (Z++[.rf t]))) x:=λx w=>by
   rcases W7.mp w with w|w
   .let(F,c,a,b,d):=I x w;show#[F,c,a,b,ne (Wz b) d]
   .rw[WI.mp w];show#[t,f,W,qt,p]
  let L:q<(ω.set q (.lst (Z++[.rf t]))).length:=by rw[Xh];show U
  generalize ω.set q (.lst (Z++[.rf t]))=ω1 at B A p H L;let(K,cm):=Gx (ρ:=[cL (.rf o),x1,x2,x3,cL (.rf t)]) B A p hs h9 W;let ml:((V6 N).map (rd f St)).length=N:=BM;let Y:=oZ (by
   let g:(ω1++K++[Cell.lst (((V6 N).map (rd f St)).map .fz)]++[Cell.dd []])[(ω1++K).length]?=cL (.lst (((V6 N).map (rd f St)).map .fz)):=by rw[Wh (by rw[V8 (bs:=[_])];show _<_+1;ext)];show aK
   rw[jj g,List.set_append_left _ _ (by rw[V8 (bs:=[_])];show _<_+1;ext),eX]) (by rw[V8,V8 (bs:=[_])];rfl) (λd hd=>by let(i,_,rfl):=WH.mp hd;show Hc _ _ _) (by rw[ml];show h9)
  generalize hω2:ω1++K++[Cell.lst (((V6 N).map (rd f St)).map .fz)]=ω2 at cm Y;let l2:ω2.length=(ω1++K++[Cell.dead]).length:=by rw[<-hω2,V8 (bs:=[_]),V8 (bs:=[_])];rfl
  show zK (ka (pV (aq cm aC) W Y) W) ?_;let m:∀{j:Nat} {C:Cell},ω1[j]?=cL C->(ω1++K++[Cell.dead]++[Cell.dd (dA 0 (fF ((V6 N).map (rd f St)))),.lst ((Rt ((V6 N).map (rd f St))).map λc=>.fz (nd c))])[j]?=cL C:=λ{j C} h=>by rw[Wy,Wy,Wh (V2.mp h).1];show h
  let cl:(ω1++K++[Cell.dead]++[Cell.dd (dA 0 (fF ((V6 N).map (rd f St)))),.lst ((Rt ((V6 N).map (rd f St))).map λc=>.fz (nd c))])[ω2.length+1]?=cL (clC (wv ((V6 N).map (rd f St))) N):=by rw[l2,lG (t:=1)];show cL (Cell.lst _)=_;unfold clC Rt;rw[ml,WB];rfl
  rw[<-ZR]at cl;show#[Z++[.rf t],_,W,m B,m A,?_,cl,λx w=>?_,by rw[V8,hrl];rfl,S,.inr #[n,Z,t,W,W,by rw[hfn];show m p,by rw[hfn];show M]]
  .rw[l2,V8,V8];ext
  .let(F,c,a,b,d):=H x w;show#[F,c,a,b,m d]
 rcases P with⟨rfl,rfl⟩|⟨k,v,F,rfl,rfl,G,hnc⟩
 .show .inr #[by decide,_,mS R,u fp λj hj=>by ext]
 .let ie:(v++[SV.rf F]).isEmpty=V4:=by ext v<;>rfl
  let P:=uh (St:=St) hE k;rw[ie]at R;let m1:=NS (fa:=am 4) (ρ:=[cL (.rf o),x1,x2,x3,cL (.rf t)]) Q O (l ht) (aQ W);let m2:=NS (fa:=gf (aJ "Sorting" "rounds" (am 0)) (af (CP pP (~~~1)))) (ρ:=[cL (.rf o),x1,x2,x3,cL (.rf t)]) Q P (l G) (rY (n:= -1) (dr (aQ W) (l ho) W) (ah (d:=.int (-1)) (A9 (rv:=.fz (.int (-1))) aD W W)) W (l hq) (sr _ _));let J:=kj R (aV (cZ m1 m2 (bW (AF _ _))));by_cases g:Cn (sq E St N k) N<Cn f N
  .rw[a4 ()]at J
   show .inr #[by ext,_,J,u () λj hj=>?_];by_cases e:j=k
   .subst e;rw[hfn];show g
   .show hup j ()
  .rw[a5 ()]at J;show .inl #[_,J,hN _ _ #[v,F,k,l ho,l hq,l G,by rw[hfn];ext,λj hj=>hup j ()]]
end
def iQ(b:Bd)(es:G ZM)(a:Nat):G Nat:=match(bS b es a)[a]? with
 |some r=>es.map λe=>eS (bS b es (a+1)) (aH b r.s e).1
 |none=>[]
def IB(fs:G Rm)(s:Ys)(x y:D):(l6 fs s x y).length=max fs.length (eS fs s+1)/\eS fs s<=fs.length:=by
 unfold l6 eS;cases q:dB (fs.map jL) (dH s)with
 |none=>rw[aE (by nofun),V8];show fs.length+1=max fs.length (fs.length+1)/\fs.length<=fs.length;ext
 |some t=>let(z,a,_):=rP q;let:=(V2.mp a).1;rw[V1]at this;rw[ax (show(M t).isSome=P from rfl)];show fs.length=max fs.length (t+1)/\t<=fs.length;ext
theorem xC(a:VB b)(h:SW b s):∀(es:bg ZM) (fs G:bg Rm),(∀e∈es,EV b e)->fE b s r fs es=G->Lm fs.length (es.map λe=>eS G (aH b s e).1)/\tS fs.length (es.map λe=>eS G (aH b s e).1)=G.length
 |[],fs,G,_,e=>by ext e;show#[True.intro,W]
 |e::es,fs,G,he,o=>by let i:=vT a h (he e Wk);let(g,f):=xC a h es (l6 fs (aH b s e).1 (nd r) (fC e)) G (λx m=>he x (Wf _ m)) o;let n:eS G (aH b s e).1=eS fs (aH b s e).1:=BB (by rw[<-o];show pT es _) (BI i _ _);let(l,j):=IB fs (aH b s e).1 (nd r) (fC e);rw[l]at g f;rw[Wl,n];show#[#[j,g],f]
def jb(g:VB b)(i:∀e∈es,EV b e)(j:(bS b es N).length=N)(c:a<N):a<(bS b es a).length/\(bS b es (a+1)).length<=N/\Lm (bS b es a).length (iQ b es a)/\tS (bS b es a).length (iQ b es a)=(bS b es (a+1)).length:=by
 let lt:a<(bS b es a).length:=by
  rcases agO a (bS b es a).length with h|h
  .show h
  .let:=oH h N;ext
 let n:=oH (YR j) (a+1);let f:=V9 lt;let(m,l):=xC g (l9 g i a _ (Yb lt)) es _ _ i (vB f).symm;show#[lt,by ext,?_];ext iQ;rw[f];show#[m,l]
def DY(f:VB b)(i:∀e∈es,EV b e)(h:es.length<=1000)(j:(bS b es N).length=N)(c:a<N):(iQ b es a).length<=1000/\∀s∈iQ b es a,s<N:=by
 let(_,n,_,l):=jb f i j c;constructor
 .ext iQ
  split
  .rw[V1];show h
  .show W8 _
 .intro s g;let:=(wU (m:=(bS b es a).length) (iQ b es a)).2 s g;ext
def xV(f:VB b)(g:∀e∈es,EV b e)(h:(bS b es N).length=N):ib b es N=(V6 N).map (Ck (iQ b es)):=by show Xx λa i=>?_;let(lt,_):=jb f g h (WX.mp i);unfold Eh Ck iQ;rw[V9 lt];rw[WB];rfl
def Se(h:q.1<26):LD.kd (ir q)=P:=by
 ext ir;simp only[LD.kd,LD.kds];rw[lW h];cases q.2
 .rw[aE Wv,show V3.strOk "up"=P by left];rfl
 .rw[ax W,show V3.strOk "down"=P by left];rfl
theorem Qc(g:VB b)(i:∀e∈es,EV b e)(o:(bS b es N).length=N):∀d∈bt b es N,LD.keyD d=P:=λd n=>by
 let(a,p,rfl):=WH.mp n;let(lt,_):=jb g i o (WX.mp p);let j:=l9 g i a _ (Yb lt);ext wS;rw[V9 lt];rw[LD.keyD];show(VZ _ _).mpr #[mG λe h=>?_,a4 ?_]
 .rw[LD.kd];show mG λq m=>Se (Ay g j (i e h) q m)
 .show V3.depthAll (es.map λe=>V3.tuple ((aH b (bS b es a)[a].s e).2.map ir))+1<=8
  let:=iJ (f:=λe=>V3.tuple ((aH b (bS b es a)[a].s e).2.map ir)) (l:=es) λe _=>by show V3.depthAll ((aH b (bS b es a)[a].s e).2.map ir)+1<=2;let:=iJ (l:=(aH b (bS b es a)[a].s e).2) λq _=>Bx q;ext
  ext
def HM(m:Nat)(h:ω[i]?=M (.lst (ds.map .fz))):frz (m+1) ω (.rf i)=M (.list ds,ω.set i .dead):=by ext frz;rw[h];dsimp only;rw[pY]
def Ea:frz 4 (base++(A:: .lst (F.map .fz)::C:: .lst (S.map .fz):: .lst (E.map .fz)::J)) (.tp [.rf (base.length+1),.rf (base.length+3),.rf (base.length+4)])=M (.tuple [.list F,.list S,.list E],base++(A:: .dead::C:: .dead:: .dead::J)):=by
 let e:=HM (ω:=base++(A:: .lst (F.map .fz)::C:: .lst (S.map .fz):: .lst (E.map .fz)::J)) 2 (lG (t:=1));rw[rE]at e;let b:=HM (ω:=base++(A:: .dead::C:: .lst (S.map .fz):: .lst (E.map .fz)::J)) 2 (lG (t:=3));rw[rE]at b;let a:=HM (ω:=base++(A:: .dead::C:: .dead:: .lst (E.map .fz)::J)) 2 (lG (t:=4));rw[rE]at a;show(match ju (frz 3) _ [.rf (base.length+1),.rf (base.length+3),.rf (base.length+4)]with|some (ds,g)=>M (V3.tuple ds,g)|none=>R)=_;let f:ju (frz 3) (base++(A:: .lst (F.map .fz)::C:: .lst (S.map .fz):: .lst (E.map .fz)::J)) [.rf (base.length+1),.rf (base.length+3),.rf (base.length+4)]=M ([.list F,.list S,.list E],base++(A:: .dead::C:: .dead:: .dead::J)):=by ext ju;rw[e];dsimp only;ext ju;rw[show ak6 (A::Cell.lst (F.map .fz)::C::Cell.lst (S.map .fz)::Cell.lst (E.map .fz)::J) 1 Cell.dead=A:: .dead::C:: .lst (S.map .fz):: .lst (E.map .fz)::J from rfl,b];dsimp only;ext ju;rw[show ak6 (A::Cell.dead::C::Cell.lst (S.map .fz)::Cell.lst (E.map .fz)::J) 3 Cell.dead=A:: .dead::C:: .dead:: .lst (E.map .fz)::J from rfl,a];rfl
 rw[f]
def Dw{St:Nat->bg Nat}(z:∀D k,(∃q,SE o q N St E k)->Nn D k)(i:J[o]?=M (.obj "Sorting" []))(B:0<N)(A:N<=1000)(w:∀r,r<N->(St r).length<=1000/\∀s∈St r,s<N)(G:∀d∈E,LD.keyD d=P)(t:E.length=N):
  jQ ((aG (dM "Sorting" "steps" (am 0) (af (aF aX (aa 3) (~~~1))))
 (aG (dM "Sorting" "sends" (am 0) (af (aF aX (aa 3) (~~~2))))
 (aG (dM "Sorting" "rounds" (am 0) (af (cx ar)))
 (aG (b8 (j6 de 1 (ai (aJ "Sorting" "sends" (am 0)) av)) (cT 4))
 (lY (zS (aZ (jK cP (aJ "Sorting" "rounds" (am 0)) (af (cx ar)))) (aZ (jK DB (i4 gx (ai (am 4) av)) (i4 gx (ai (gf (aJ "Sorting" "rounds" (am 0)) (af (CP pP (~~~1)))) av))))) (aG (bc (jB (aJ "Sorting" "rounds" (am 0)) (am 4)))
 (b8 (j6 de 1 (ai (dw 1 [0] (jr (i4 br (ai (aJ "Sorting" "steps" (am 0)) av))) (cT 0) bV (aL "Sorting" "mark_of" aY 2 (am 1) (ai (af (aa 0)) av))) av)) (cT 4)))))))) [M (.rf o),-(bd),-(.int m),-(.tuple [F,.list ((V6 N).map (Ck St)),.list E]),R] J) Nn T X:=by
 let f:=(V2.mp i).1;show tO (jx (ah (aB (ag W) aD W W jO)) (aQ W) i ()) ?_;let e:(J.set o (.obj "Sorting" (fH "steps" (.fz (.list ((V6 N).map (Ck St)))) [])))[o]?=M (.obj "Sorting" [("steps",.fz (.list ((V6 N).map (Ck St))))]):=Xb f;generalize J.set o (.obj "Sorting" (fH "steps" (.fz (.list ((V6 N).map (Ck St)))) []))=J at e⊢;let f:=(V2.mp e).1;show tO (jx (ah (aB (ag W) aD W W rh)) (aQ W) e (Wc W)) ?_;let b:(J.set o (.obj "Sorting" (fH "sends" (.fz (.list E)) [("steps",.fz (.list ((V6 N).map (Ck St))))])))[o]?=M (.obj "Sorting" [("steps",.fz (.list ((V6 N).map (Ck St)))),("sends",.fz (.list E))]):=Xb f;generalize J.set o (.obj "Sorting" (fH "sends" (.fz (.list E)) [("steps",.fz (.list ((V6 N).map (Ck St))))]))=J at b⊢;let f:=(V2.mp b).1;let n:(J++[Cell.lst []])[o]?=M (.obj "Sorting" [("steps",.fz (.list ((V6 N).map (Ck St)))),("sends",.fz (.list E))]):=by rw[Wh f];show b
 show tO (jx (dS (ds:=[]) (by ext:0)) (aQ W) n (Wc W)) ?_;show jQ (aG _ _ _ ((J++[Cell.lst []]).set o (.obj "Sorting" (xU St N (.list E) J.length)))) _ _ _;let a:((J++[Cell.lst []]).set o (.obj "Sorting" (xU St N (.list E) J.length)))[o]?=M (.obj "Sorting" (xU St N (.list E) J.length)):=Xb (by rw[V8];ext);let l:((J++[Cell.lst []]).set o (.obj "Sorting" (xU St N (.list E) J.length)))[J.length]?=M (.lst []):=by rw[W6 ()];show aK
 let p:J.length<((J++[Cell.lst []]).set o (.obj "Sorting" (xU St N (.list E) J.length))).length:=by rw[Xh,V8];show _<_+1;ext
 generalize (J++[Cell.lst []]).set o (.obj "Sorting" (xU St N (.list E) J.length))=L at a l p⊢;generalize J.length=q at a l p;let u:=oZ (x:=.fz (.list E)) (ω1:=L) W W G ();show tO (ka (pV (aq (dr (aQ W) a W) aC) W u) W) ?_;let g:∀{j:Nat} {C:Cell},L[j]?=M C->(L++[Cell.dd (dA 0 (fF E)),.lst ((Rt E).map λc=>.fz (nd c))])[j]?=M C:=λ{j C} h=>by rw[Wh (V2.mp h).1];show h
 show CV (λD k h=>z D k #[q,h]) t B A w #[[],L.length+1,W,g a,g l,by ext,?_,(λx v=>nomatch v),W,(λj y=>a7 y (abq _)),.inl #[W,W]];rw[lG];unfold clC Rt sq;rw[t,WB];rfl
def FJ(e:VB b){n:Nat}(d:b.n=n)(H:n<=5)(z:0<=m)(y:m<=1000)(p:ω0[o]?=cL (.obj "Sorting" [])):Out (cg [.rf o,.fz (bD b),.fz (.int m)] ω0) (λv c=>v=.fz .none/\∃N q,(bS b (b5 n) N).length=N/\(N:Int)<=m/\SE o q N (iQ b (b5 n)) (bt b (b5 n) N) c) (λx=>x=TM m/\∃i,m<((bS b (b5 n) i).length:Int)):=by
 let j:(b5 n).length<=1000:=by ext b5;rw[V8,V8,V1,V1,Wj];show n+n+1<=_;ext
 let a:=vW d;show sF W ?_;show wl ?_;let L:=xK (F:=iq) (es:=[]) (fa:=ai (af (aa 1)) (ai (af (aa 2)) av)) (ρ:=[cL (.rf o),-(bD b),-(.int m),R,R]) (ω:=ω0) (aq (ah (ag W)) (aq (ah (ag W)) aC)) W;show Out.bind (.eq L ((qC e d H z y ω0).imp λv c B=>?_));let(N,J,g,I,rfl,rfl):=B;let t:=Ea (base:=ω0++[.dead]) (A:=.obj "Places" (pF m ((ω0++[Cell.dead]).length+1) ((ω0++[Cell.dead]).length+2))) (C:=.dd (dA 0 ((bS b (b5 n) N).map jL))) (F:=((bS b (b5 n) N).map jL).map A0) (S:=ib b (b5 n) N) (E:=bt b (b5 n) N) (J:=J);let M:(ω0++[Cell.dead]).length=ω0.length+1:=by rw[V8];rfl
 rw[xV e a g]at t;show .eq (r':=RS.ok (SV.fz (.tuple [.list (((bS b (b5 n) N).map jL).map A0),.list ((V6 N).map (Ck (iQ b (b5 n)))),.list (bt b (b5 n) N)])) (ω0++[Cell.dead]++(.obj "Places" (pF m ((ω0++[Cell.dead]).length+1) ((ω0++[Cell.dead]).length+2)):: .dead:: .dd (dA 0 ((bS b (b5 n) N).map jL)):: .dead:: .dead::J))) ?_ #[?_]
 .unfold Mv sJ lj;rw[xV e a g,show ω0.length+2=(ω0++[Cell.dead]).length+1 by ext,show ω0.length+4=(ω0++[Cell.dead]).length+3 by ext,show ω0.length+5=(ω0++[Cell.dead]).length+4 by ext,t]
 let K:0<N:=by let:=wf b (b5 n) N;ext
 let f:(ω0++[Cell.dead]++(.obj "Places" (pF m ((ω0++[Cell.dead]).length+1) ((ω0++[Cell.dead]).length+2)):: .dead:: .dd (dA 0 ((bS b (b5 n) N).map jL)):: .dead:: .dead::J))[o]?=cL (.obj "Sorting" []):=by rw[Wy,Wh (V2.mp p).1];show p
 generalize ω0++[Cell.dead]++(Cell.obj "Places" (pF m ((ω0++[Cell.dead]).length+1) ((ω0++[Cell.dead]).length+2)):: .dead:: .dd (dA 0 ((bS b (b5 n) N).map jL)):: .dead:: .dead::J)=X at f;let l:∀r,r<N->(iQ b (b5 n) r).length<=1000/\∀s∈iQ b (b5 n) r,s<N:=λr G=>DY e a j g G;let w:=Qc e a g;let u:(bt b (b5 n) N).length=N:=by ext bt;rw[V1,Wj]
 generalize iQ b (b5 n)=St at l⊢;generalize T:bt b (b5 n) N=E at w u⊢;generalize ((bS b (b5 n) N).map jL).map A0=F;generalize bD b=bd;show Dw (λY c h=>#[W,N,let#[q,Q]:=h;#[q,g,I,by rw[T];show Q]]) f K () l w u
section
variable{N:Nat}{St:Nat->bg Nat}{c:Nat->Nat}{E:bg D}{Y:aP}{o q t:Nat}
def jP(c:Nat->Nat)(N:Nat):G Int:=(V6 N).map λi=>((c i:Nat):Int)
def iT(c:Nat->Nat)(N k:Nat):Nat:=(qY (k:Int) (jP c N)).getD 0
theorem tR:∀{ns:G Int},k∈ns->∃j,qY k ns=M j
 |n::r,h=>by
  ext qY;by_cases e:n=k
  .show#[0,ax e]
  .rw[aE e];let(j,a):=tR ((WE.mp h).resolve_left λz=>e z.symm);show#[j+1,by rw[a];rfl]
def qZ(n:RG c N)(m:k<Cn c N):qY (k:Int) (jP c N)=M (iT c N k)/\iT c N k<N/\c (iT c N k)=k/\Cn c (iT c N k)=k:=by
 let(i,h,g,p):=ku n N (Wa _) m;let(j,b):=tR (ns:=jP c N) (WH.mpr #[i,WX.mpr h,by rw[g]]);let e:iT c N k=j:=by ext iT;rw[b];rfl
 rw[e];let(a,u):=v7 b;let f:j<N:=by let:=(V2.mp a).1;unfold jP at this;rw[V1,Wj]at this;show this
 unfold jP at a;rw[dW f]at a;let r:c j=k:=by let:=Wm a;ext
 let l:i=j:=by
  rcases aaV i j with z|z|z
  .show a7 ?_ (u i z);ext jP;rw[dW h,g]
  .show z
  .let:=jf (c:=c) z;ext
 show#[b,f,r,by rw[<-l];show p]
def JX(St:Nat->G Nat)(c:Nat->Nat)(N k:Nat):D:=.tuple ((St (iT c N k)).map λs=>nd (c s))
def IE(E:G D)(c:Nat->Nat)(N k:Nat):D:=(E[iT c N k]?).getD .none
def P5(St:Nat->G Nat)(E:G D)(c:Nat->Nat)(N:Nat):D:=.tuple [.tuple ((V6 (Cn c N)).map (JX St c N)),.tuple ((V6 (Cn c N)).map (IE E c N))]
def CJ(p:0<N)(w:N<=400)(e:RG c N):cQ 1 [3] (lH gv {aF c7 (dU L10.gx {aa 3}) (~~~1)}) (gN 0) b9 (L10.C8 1 (aa 0)) [a,b,s,-(.list ((jP c N).map .int)),R,C]=.ok (.ow ((V6 (Cn c N)).map λk=>nd (iT c N k)),[a,b,s,-(.list ((jP c N).map .int)),R,C]):=by
 let f:0<(jP c N).length:=by ext jP;rw[V1,Wj];show p
 let z:=zk e N (Wa _);let hm:Cg (jP c N)=(Cn c N:Int) - 1:=by let(n,m):=uH f;let(i,A,e1):=WH.mp n;let:=jf (c:=c) (WX.mp A);let(j,h,v,_):=ku e (k:=Cn c N - 1) N (Wa _) ();let:=m (c j:Nat) (WH.mpr #[j,WX.mpr h,W]);ext
 let g:L10.gx [.list ((jP c N).map .int)]=-(.int ((Cn c N:Int) - 1)):=by ext gx;dsimp only;rw[L3.g7];dsimp only;rw[ax f,hm]
 let u:c7 (.int ((Cn c N:Int) - 1)) (.int 1)=-(nd (Cn c N)):=by rw[fL,show(Cn c N:Int) - 1+1=(Cn c N:Int) by ext]
 show dn (uA (aj (aB (bU (aj (ag W) ay) W g) aD W W u) ay) W (na ())) W ?_;show fX nd (λk=>nd (iT c N k)) (V6 (Cn c N)) (by rw[Wj];ext) W λk l=>?_;let(r,y,_):=qZ e (WX.mp l);let io:Gs ((jP c N).map .int) (nd k)=M (iT c N k):=by ext Gs;rw[L3.g7];show(match qY (k:Int) (jP c N)with|some j=>if j<1000 then M j else R|none=>R)=_;rw[r];show ax ()
 show EU (aa 0) [-(nd k),-(.list ((jP c N).map .int))] (M (-(.list ((jP c N).map .int))))=_;ext EU;rw[show aa 0 [M (PV.fz (nd k)),-(.list ((jP c N).map .int))]=.ok (.fz (nd k),[-(nd k),-(.list ((jP c N).map .int))])from ag W];show((Res.W5 (Gs ((jP c N).map .int) (nd k))).bind λj=>Res.ok (PV.fz (nd j),[M (PV.fz (nd k)),-(.list ((jP c N).map .int))]))=_;rw[io];rfl
def Dx(p:RG c N)(I:N<=400)(z:∀r,r<N->(St r).length<=1000/\∀s∈St r,s<N)(m:Y[o]?=M (.obj "Sorting" (xU St N (.list E) q)))(C:ρ[2]?=M (M (.rf o)))(B:ρ[3]?=M (-(.list ((jP c N).map .int))))(A:(bj ρ)[4]?=M (-(.list ((V6 (Cn c N)).map λk=>nd (iT c N k))))):
  ∃K,i4 eE (ai (dw 1 [2,3] (ei (dZ (aa 4))) (cT 0) bV (i4 eE (ai (dw 1 [2] (ef (gf (aJ "Sorting" "steps" (am 1)) (af (aa 0)))) (cT 0) bV (af (aF aX (aa 1) (aa 0)))) av))) av) ρ Y=.ok (.fz (.tuple ((V6 (Cn c N)).map (JX St c N)))) (Y++K):=by
 let y:ei (dZ (aa 4)) ρ Y=.ok ((V6 (Cn c N)).map λk=>nd (iT c N k)) Y:=hV (d5 (ag A) W W);let J:=zk p N (Wa _);let g:Out (bH (cT 0) bV (i4 eE (ai (dw 1 [2] (ef (gf (aJ "Sorting" "steps" (am 1)) (af (aa 0)))) (cT 0) bV (af (aF aX (aa 1) (aa 0)))) av)) ((V6 (Cn c N)).map λk=>nd (iT c N k)) [R,M (.rf o),-(.list ((jP c N).map .int))] Y []) (λxs a=>∃b:aW,(∃x,b=[x,M (.rf o),-(.list ((jP c N).map .int))])/\(∃K,a=Y++K)/\xs=((V6 (0+((V6 (Cn c N)).map λk=>nd (iT c N k)).length)).map (JX St c N)).map .fz) λ_=>False:=by
  show gS (λk ρ a f=>(∃x,ρ=[x,M (.rf o),-(.list ((jP c N).map .int))])/\(∃K,a=Y++K)/\f=((V6 k).map (JX St c N)).map .fz) _ 0 _ _ _ #[#[R,W],#[[],by rw[WL]],W] ?_;rintro i d ρ a f L ⟨⟨x,rfl⟩,⟨K,rfl⟩,rfl⟩;rw[Xg];let h:=(V2.mp L).1;rw[V1,Wj]at h;rw[dW h]at L;ext L;let(_,u,_):=qZ p h;let(H,v):=z _ u;let l:(Y++K)[o]?=M (.obj "Sorting" (xU St N (.list E) q)):=by rw[Wh (V2.mp m).1];show m
  show#[by rw[V1,V1,Wj];ext,[-(nd (iT c N i)),M (.rf o),-(.list ((jP c N).map .int))],W,W,?_];let w:ef (gf (aJ "Sorting" "steps" (am 1)) (af (aa 0))) [-(nd (iT c N i)),M (.rf o),-(.list ((jP c N).map .int))] (Y++K)=.ok ((St (iT c N i)).map nd) (Y++K):=by ext ef;rw[bX (dr (aQ W) l W) (ah (ag W)) (wz (dW u)),en];rfl
  let cm:bH (cT 0) bV (af (aF aX (aa 1) (aa 0))) ((St (iT c N i)).map nd) [R,-(.list ((jP c N).map .int))] (Y++K) []=.ok ([]++(St (iT c N i)).map λs=>SV.fz (nd (c s))) (Y++K):=by show gP nd (λs=>SV.fz (nd (c s))) (Y++K) (λρ=>∃x,ρ=[x,-(.list ((jP c N).map .int))]) (St (iT c N i)) _ [] #[_,W] (by show 0+_<=_;ext) ?_;rintro s j ρ ⟨x,rfl⟩;show#[[-(nd s),-(.list ((jP c N).map .int))],W,W,ah (aB (ag W) (ag W) W W (wz ?_)),_,W];ext jP;rw[WB];show dW (v s j)
  rw[YD]at cm;let G:=gK (n:=1) (fj:=[2]) w cm;show .eq (lL (ds:=[.list ((St (iT c N i)).map λs=>nd (c s))]) (aq G aC) ?_ W) #[#[_,W],#[K++[_],Wy _ _ _],?_]
  .let:sh (Y++K++[.lst ((St (iT c N i)).map λs=>SV.fz (nd (c s)))]) (.rf (Y++K).length)=M (.list ((St (iT c N i)).map λs=>nd (c s))):=df (by rw[WB];show aK);ext aA;rw[this];rfl
  .rw[Y8,Wu,Wu];rfl
 let(xs,a,e,b,_,(K,rfl),rfl):=g.all;rw[Xg,V1,Wj]at e;let F:d7 1 [2,3] ρ=[R,M (.rf o),-(.list ((jP c N).map .int))]:=by ext d7;show[R]++[(ρ[2]?).join,(ρ[3]?).join]=_;rw[C,B];rfl
 rw[<-F]at e;show#[K++[_],(lL (ds:=[.list ((V6 (Cn c N)).map (JX St c N))]) (aq (gK y e) aC) ?_ W).trans (by rw[Wy])];let:sh (Y++K++[.lst (((V6 (Cn c N)).map (JX St c N)).map .fz)]) (.rf (Y++K).length)=M (.list ((V6 (Cn c N)).map (JX St c N))):=df aK;ext aA;rw[this];rfl
def Cy(a:RG c N)(l:N<=400)(j:E.length=N)(e:Y[o]?=M (.obj "Sorting" (xU St N (.list E) q)))(h:ρ[2]?=M (M (.rf o)))(g:(bj ρ)[4]?=M (-(.list ((V6 (Cn c N)).map λk=>nd (iT c N k))))):
  ∃K,i4 eE (ai (dw 1 [2] (ei (dZ (aa 4))) (cT 0) bV (gf (aJ "Sorting" "sends" (am 1)) (af (aa 0)))) av) ρ Y=.ok (.fz (.tuple ((V6 (Cn c N)).map (IE E c N)))) (Y++K):=by
 let b:ei (dZ (aa 4)) ρ Y=.ok ((V6 (Cn c N)).map λk=>nd (iT c N k)) Y:=hV (d5 (ag g) W W);let n:=zk a N (Wa _);let cm:bH (cT 0) bV (gf (aJ "Sorting" "sends" (am 1)) (af (aa 0))) ((V6 (Cn c N)).map λk=>nd (iT c N k)) [R,M (.rf o)] Y []=.ok ([]++(V6 (Cn c N)).map λk=>SV.fz (IE E c N k)) Y:=by show gP (λk=>nd (iT c N k)) (λk=>SV.fz (IE E c N k)) Y (λρ=>∃x,ρ=[x,M (.rf o)]) (V6 (Cn c N)) _ [] #[_,W] (by show 0+_<=_;rw[Wj];ext) ?_;rintro k f ρ ⟨x,rfl⟩;let(_,m,_):=qZ a (WX.mp f);show#[[-(nd (iT c N k)),M (.rf o)],W,W,bX (dr (aQ W) e W) (ah (ag W)) (wz ?_),_,W];ext IE;rw[V9 ()];rfl
 rw[YD]at cm;let i:d7 1 [2] ρ=[R,M (.rf o)]:=by ext d7;show[R]++[(ρ[2]?).join]=_;rw[h];rfl
 rw[<-i]at cm;show#[[_],lL (ds:=[.list ((V6 (Cn c N)).map (IE E c N))]) (aq (gK b cm) aC) ?_ W];let:sh (Y++[.lst ((V6 (Cn c N)).map λk=>SV.fz (IE E c N k))]) (.rf Y.length)=M (.list ((V6 (Cn c N)).map (IE E c N))):=df (by rw[WB];show aK);ext aA;rw[this];rfl
end
def MF:clC c N=.lst (((jP c N).map V3.int).map .fz):=by unfold clC jP;rw[WB,WB];rfl
def S3(E:G D)(St:Nat->G Nat)(N k:Nat):Prop:=Cn (sq E St N (k+1)) N<=Cn (sq E St N k) N/\∀j,j<k->Cn (sq E St N j) N<Cn (sq E St N (j+1)) N
def J3{St:Nat->G Nat}(h:S3 E St N k)(a:S3 E St N o):k=o:=by
 rcases aaV k o with q|q|q
 .let:=a.2 k q;let:=h.1;ext
 .show q
 .let:=h.2 o q;let:=a.1;ext
def xl(B:VB b){n:Nat}(d:b.n=n)(R:n<=5)(L:0<=m)(X:m<=400)(g:aP):Out (d4 [.fz (bD b),.fz (.int m)] g) (λv _=>∃N k,(bS b (b5 n) N).length=N/\(N:Int)<=m/\S3 (bt b (b5 n) N) (iQ b (b5 n)) N k/\v=.fz (P5 (iQ b (b5 n)) (bt b (b5 n) N) (sq (bt b (b5 n) N) (iQ b (b5 n)) N k) N)) (λx=>x=TM m/\∃i,m<((bS b (b5 n) i).length:Int)):=by
 let y:(b5 n).length<=1000:=by ext b5;rw[V8,V8,V1,V1,Wj];show n+n+1<=_;ext
 let w:=vW d;show sF W ?_;let J:=Ir (C:= "Sorting") (F:=cg) (fa:=ai (af (aa 0)) (ai (af (aa 1)) av)) (ρ:=[-(bD b),-(.int m),VY,VY,VY,VY]) (ω:=g) (aq (ah (ag W)) (aq (ah (ag W)) aC)) W;show wl (.eq J (Out.bind ((FJ B d R L () aK).imp λv ω M=>?_)));let(rfl,N,q,H,S,U,t,k,j,P,l,Q):=M;show .eq W #[?_];let G:∀r,r<N->(iQ b (b5 n) r).length<=1000/\∀s∈iQ b (b5 n) r,s<N:=λr O=>DY B w y H O;let A:(bt b (b5 n) N).length=N:=by ext bt;rw[V1,Wj]
 let T:0<N:=by let:=wf b (b5 n) N;ext
 let u:=uh (St:=iQ b (b5 n)) A k;let f:∀v,v=SV.fz (P5 (iQ b (b5 n)) (bt b (b5 n) N) (sq (bt b (b5 n) N) (iQ b (b5 n)) N k) N)->∃N k,(bS b (b5 n) N).length=N/\(N:Int)<=m/\S3 (bt b (b5 n) N) (iQ b (b5 n)) N k/\v=.fz (P5 (iQ b (b5 n)) (bt b (b5 n) N) (sq (bt b (b5 n) N) (iQ b (b5 n)) N k) N):=λv e=>#[N,k,H,S,Q,e];generalize sq (bt b (b5 n) N) (iQ b (b5 n)) N k=c at l u f;generalize iQ b (b5 n)=St at j G f;generalize bt b (b5 n) N=E at j A f;generalize g.length=o at j;generalize bD b=bd;let I:t≠o:=λz=>by rw[z,j]at l;ext l
 rw[MF]at l;let e1:ke (gf (aJ "Sorting" "rounds" (am 2)) (af (CP pP (~~~1)))) [-(bd),-(.int m),cL (.rf o),VY,VY,VY] ω=.ok (.fz (.list ((jP c N).map .int))) (ω.set t .dead):=oB (rY (dr (aQ W) j W) (ah (A9 (rv:=.fz (.int (-1))) aD W W)) W P (sr _ _)) (jj l);show fu e1 W ?_;let h:(ω.set t .dead)[o]?=cL (.obj "Sorting" (xU St N (.list E) q)):=by rw[W6 I];show j
 generalize ω.set t .dead=ω1 at h;let e2:ke (af (cQ 1 [3] (lH gv {aF c7 (dU L10.gx {aa 3}) (~~~1)}) (gN 0) b9 (L10.C8 1 (aa 0)))) [-(bd),-(.int m),cL (.rf o),-(.list ((jP c N).map .int)),VY,VY] ω1=.ok (.fz (.list ((V6 (Cn c N)).map λk=>nd (iT c N k)))) (ω1++[.dead]):=by show oB (dS (CJ T () u)) ?_;rw[jj aK,eX]
 show fu e2 W ?_;let a:(ω1++[Cell.dead])[o]?=cL (.obj "Sorting" (xU St N (.list E) q)):=by rw[Wh (V2.mp h).1];show h
 generalize ω1++[Cell.dead]=ω2 at a;let(K,e3):=Dx (ρ:=[-(bd),-(.int m),cL (.rf o),-(.list ((jP c N).map .int)),-(.list ((V6 (Cn c N)).map λk=>nd (iT c N k))),VY]) u () G a W W W;show fu e3 W ?_;let p:(ω2++K)[o]?=cL (.obj "Sorting" (xU St N (.list E) q)):=by rw[Wh (V2.mp a).1];show a
 generalize ω2++K=ω3 at p;let(Y,e4):=Cy (ρ:=[-(bd),-(.int m),cL (.rf o),-(.list ((jP c N).map .int)),-(.list ((V6 (Cn c N)).map λk=>nd (iT c N k))),-(.tuple ((V6 (Cn c N)).map (JX St c N)))]) u () A p W W;show vf (oh (aq (ah (ag W)) (aq e4 aC)) (by show 2<=1000;ext)) (f _ W)
theorem Ud(q:Nat×Bool):jN (c9 (gN 0) b9 (jW "str" (aa 0)) [.str (jh q.1),.str (if q.2=P then "down" else "up")] [R] [])=.ok [.bool P,.bool P]:=
 fX V3.str (λ_=>V3.bool P) [jh q.1,if q.2=P then "down" else "up"] (by show 2<=1000;ext) W λr _=>ip (dx:=.str r) (ag W) W W
def Sm(q:Nat×Bool):sL (.str (if q.2=P then "down" else "up")) (.list [.str "down",.str "up"])=-(.bool I):=by
 show(if(lO (.str (if q.2=P then "down" else "up"))&&V3.canLayAll0 [.str "down",.str "up"])=P then _ else _)=_;rw[ax]
 .cases q.2<;>rfl
 .cases q.2<;>left
theorem FP(a:c o=.ok (I,o))(h:N o):Go (jD c f1 cC o) N C T:=.eq (Sv a) #[h]
def Kw(sn:Sn):eN [.tuple (sn.map ir)]=.ok (.fz (.bool P)):=by
 show g8 W ?_;show iw (eB (aN (ip (ag W) W W) W)) (λz=>nomatch z) (λ_=>di ?_);show rq (λi a=>∃t,a=[-(.tuple (sn.map ir)),t]) (d5 (ag W) W W) #[R,W] ?_ ?_
 .rintro i d a b ⟨t,rfl⟩;let(q,_,rfl):=WH.mp (WG b);show#[[-(.tuple (sn.map ir)),-(ir q)],W,?_];show iw (gW (eB (aN (ip (ag W) W W) W)) λ_=>gW (aN (aB (bU (aj (ag W) ay) W W) aD W W (p9 W)) W) λ_=>eB (aN (bU (aj (dn (d5 (ag W) W W) W (Ud q)) ay) W W) W)) (λz=>nomatch z) (λ_=>di ?_);show FP (aN (aB (aB (ag W) aD W W jO) (show _=Res.ok (PV.ow [.str "down",.str "up"],_) by ext:0) W W (Sm q)) W) #[_,W]
 .rintro a ⟨t,rfl⟩;show .eq (n6 aD W) #[W]
def SM(S:G (G Sn))(a:Nat)(h:∀s∈S,s.length=a)(i:S.length<=1000)(l:a<=1000):
  jN (c9 (gN 0) b9 (nt (jW "tuple" (aa 0)) (nt (aF cP (dU br {aa 0}) (aa 1)) (dU pM {cQ 1 [] (dZ (aa 0)) (gN 0) b9 (d8 eN 1 {aa 0})}))) (S.map λs=>V3.tuple (s.map λsn=>.tuple (sn.map ir))) [R,-(nd a)] [])=.ok (S.map λ_=>V3.bool P):=by
 show fX (cp:=[-(nd a)]) (λs:G Sn=>V3.tuple (s.map λsn=>.tuple (sn.map ir))) (λ_=>V3.bool P) S i W λs f=>?_;let g:=h s f
 let b:=
  fX (cp:=[]) (fe:=d8 eN 1 {aa 0}) (λsn:Sn=>V3.tuple (sn.map ir)) (λ_=>V3.bool P) s () W λsn _=>cM (aj (ag W) ay) W W (Kw sn)
 let j:=(kA (λ_=>P) s).trans (by rw[Xj.mpr (λ_ _=>W)]);let e:br [.tuple (s.map λsn=>V3.tuple (sn.map ir))]=-(nd a):=by show M (RV.fz (.int (s.map λsn=>V3.tuple (sn.map ir)).length))=_;rw[V1,g]
 let e1:=yZ a a;rw[a4 W]at e1;show mJ (aN (ip (dx:=.tuple (s.map λsn=>.tuple (sn.map ir))) (ag W) W W) W) λ_=>mJ (aN (aB (bU (aj (ag W) ay) W e) (ag W) W W e1) W) λ_=>
  bU (aj (dn (d5 (ag W) W W) W b) ay) W j
def pJ(R:G (G Nat)):D:=.tuple (R.map λr=>.tuple (r.map nd))
def ur(S:G (G Sn)):D:=.tuple (S.map λs=>.tuple (s.map λa=>.tuple (a.map ir)))
def CW(t:S.length=F.length)(y:∀r∈F,r.length=J/\∀s∈r,s<F.length)(w:∀s∈S,s.length=J)(E:F.length<=1000)(v:J<=1000):fY [.tuple [pJ F,ur S],nd J]=.ok (.fz (.bool P)):=by
 let g:br [pJ F]=-(nd F.length):=by ext pJ;show M (RV.fz (.int (F.map λr=>V3.tuple (r.map nd)).length))=_;rw[V1]
 let o:br [ur S]=-(nd F.length):=by ext ur;show M (RV.fz (.int (S.map _).length))=_;rw[V1,t]
 show g8 W ?_;show iw (gW (eB (aN (ip (ag W) W W) W)) λ_=>aN (aB (bU (aj (ag W) ay) W W) aD W W (p9 W)) W) (λz=>nomatch z) (λ_=>di ?_);let e:∀{a b:b3 PV},aF aX (aa 0) (~~~0) [-(.tuple [pJ F,ur S]),-(nd J),a,b]=.ok (.fz (pJ F),[-(.tuple [pJ F,ur S]),-(nd J),a,b]):=aB (ag W) aD W W i7;let f:∀{a b:b3 PV},aF aX (aa 0) (~~~1) [-(.tuple [pJ F,ur S]),-(nd J),a,b]=.ok (.fz (ur S),[-(.tuple [pJ F,ur S]),-(nd J),a,b]):=aB (ag W) aD W W jO;let m:sI (nd F.length) (nd F.length)=-(.bool I):=p9 W;show iw (gW (eB (aN (ip e W W) W)) λ_=>gW (eB (aN (ip f W W) W)) λ_=>aN (aB (bU (aj e ay) W g) (bU (aj f ay) W o) W W m) W) (λz=>nomatch z) (λ_=>di ?_);show rq (λi L=>∃a b,L=[-(.tuple [pJ F,ur S]),-(nd J),a,b]) (d5 e W W) #[VY,VY,W] ?_ ?_
 .rintro i d L N ⟨a,b,rfl⟩
  let(r,q,rfl):=WH.mp (WG N);let(l,h):=y r q;show#[[-(.tuple [pJ F,ur S]),-(nd J),-(.tuple (r.map nd)),b],W,?_];let n:br [.tuple (r.map nd)]=-(nd J):=by show M (RV.fz (.int (r.map nd).length))=_;rw[V1,l]
  show iw (gW (eB (aN (ip (ag W) W W) W)) λ_=>aN (aB (bU (aj (ag W) ay) W n) (ag W) W W (p9 W)) W) (λz=>nomatch z) (λ_=>di ?_);show Eb (λi L=>∃b,L=[-(.tuple [pJ F,ur S]),-(nd J),-(.tuple (r.map nd)),b]) (d5 (ag W) W W) #[b,W] ?_ ?_
  .rintro j d L u ⟨b,rfl⟩
   let(s,p,rfl):=WH.mp (WG u);show#[[-(.tuple [pJ F,ur S]),-(nd J),-(.tuple (r.map nd)),-(nd s)],W,?_];let B:N3 (.int 0) (nd s)=-(.bool P):=by show M (RV.fz (.bool (decide ((0:Int)<=s))))=_;rw[a4 ()]
   let A:J1 (nd s) (nd F.length)=-(.bool P):=by show M (RV.fz (.bool (decide ((s:Int)<F.length))))=_;rw[a4 (by let:=h s p;ext)]
   show FP (gW (eB (aN (ip (dx:=nd s) (ag W) W W) W)) λ_=>gW (aN (ip (dx:=nd s) (ag W) W W) W) λ_=>eB (aN (qO aD (ag W) (bU (aj e ay) W g) W W W B λ_=>A) W)) #[_,W]
  .rintro L ⟨b,rfl⟩;show#[_,_,W]
 .rintro L ⟨a,b,rfl⟩;let C:=(kA (λ_=>P) S).trans (by rw[Xj.mpr (λ_ _=>W)]);show .eq (n6 (bU (aj (dn (d5 f W W) W (SM S J w () v)) ay) W C) W) #[W]
def Pm(f:VB b){n:Nat}(k:b.n=n)(l:n<=5)(j:0<=m)(g:m<=1000)(h:∀N,(bS b (b5 n) N).length=N->m<(N:Int))(d:aP):∃c,cA [.fz (bD b),.fz (.int m)] d=.er (TM m) c:=by let(x,o,e,a):=(nJ (ul f k l j g d) (λv c #[N,i,K,p,q,_]=>by let:=h N p;ext) λx a=>a.1).er;subst a;show#[o,e]
def OW(j:VB b){n N:Nat}(d:b.n=n)(a:n<=5)(p:0<=m)(l:m<=1000)(f:(bS b (b5 n) N).length=N)(h:(N:Int)<=m)(c:aP):∃i K,cA [.fz (bD b),.fz (.int m)] c=.ok (.rf (c.length+i)) (c++K)/\K[i]?=M (.lst ((((bS b (b5 n) N).map jL).map A0).map .fz)):=by let(v,o,e,u,i,K,r,t,rfl,rfl,a):=(nJ (ul j d a p l c) (λv g q=>q) λx #[_,i,y]=>by let:=oH (YR f) i;ext).all;rw[Ad r f]at a;show#[i,K,e,a]
def A8(f:VB b){n N:Nat}(s:b.n=n)(p:n<=5)(j:0<=m)(g:m<=400)(a:(bS b (b5 n) N).length=N)(h:(N:Int)<=m)(d:aP):∃k c,S3 (bt b (b5 n) N) (iQ b (b5 n)) N k/\d4 [.fz (bD b),.fz (.int m)] d=.ok (.fz (P5 (iQ b (b5 n)) (bt b (b5 n) N) (sq (bt b (b5 n) N) (iQ b (b5 n)) N k) N)) c:=by let(v,o,e,u,k,r,t,q,rfl):=(nJ (xl f s p j g d) (λv c l=>l) λx #[_,i,y]=>by let:=oH (YR a) i;ext).all;cases Ad r a;show#[k,o,q,e]
def JH(h:cA [.fz (bD b),.fz (.int 90)] C=.er (TM 90) o):b6 [.fz (bD b)] C=.ok (.fz .none) o:=by ext b6;dsimp only;rw[h];show ax W
def MB(h:cA [.fz (bD b),.fz (.int 90)] C=.ok (.rf i) o)(a:sh o (.rf i)=M (.list ds)):b6 [.fz (bD b)] C=.ok (.fz (nd ds.length)) o:=by ext b6;dsimp only;rw[h];dsimp only;rw[a]
theorem MR:∀{r:G Nat} {m j s:Nat},Lm m r->r[j]?=M s->s<=tS m (r.take j)
 |a::r,m,0,s,h,e=>by ext e;show h.1
 |a::r,m,j+1,s,h,e=>by rw[List.take_succ_cons,Fk];show MR h.2 (by simpa using e)
def Ty{r:G Nat}(e:r[j]?=M s):tS m (r.take (j+1))=max (tS m (r.take j)) (s+1):=by ext tS;rw[X6,e,Zs];rfl
def MO(b:Bd)(es:G ZM)(a:Nat):G Sn:=match(bS b es a)[a]? with
 |some r=>es.map λe=>(aH b r.s e).2
 |none=>[]
def Sw(h:VB b)(i:∀e∈es,EV b e)(l:(bS b es N).length=N)(j:RG c N):P5 (iQ b es) (bt b es N) c N=.tuple [pJ ((V6 (Cn c N)).map λk=>(iQ b es (iT c N k)).map c),ur ((V6 (Cn c N)).map λk=>MO b es (iT c N k))]:=by
 unfold P5 pJ ur;rw[WB,WB];let e1:(V6 (Cn c N)).map (JX (iQ b es) c N)=(V6 (Cn c N)).map ((λr:G Nat=>V3.tuple (r.map nd))∘λk=>(iQ b es (iT c N k)).map c):=by show Xx λk f=>?_;show _=V3.tuple (((iQ b es (iT c N k)).map c).map nd);rw[WB];rfl
 let e2:(V6 (Cn c N)).map (IE (bt b es N) c N)=(V6 (Cn c N)).map ((λs:G Sn=>V3.tuple (s.map λa=>.tuple (a.map ir)))∘λk=>MO b es (iT c N k)):=by show Xx λk f=>?_;let(_,g,_):=qZ j (WX.mp f);let(lt,_):=jb h i l g;unfold IE bt;rw[dW g];show wS b es (iT c N k)=V3.tuple ((MO b es (iT c N k)).map λa=>.tuple (a.map ir));unfold wS MO;rw[V9 lt];rw[WB];rfl
 rw[e1,e2]
def SN(R:G (G Nat))(S:G (G Sn))(h:∀s∈S,∀sn∈s,Zf sn):lO (.tuple [pJ R,ur S])=P:=by
 let b:V3.canLay0 (pJ R)=P/\V3.depth (pJ R)<=3:=by
  show#[by ext V3.canLay0;show mX λr _=>by show V3.canLay0 (.tuple (bh r))=P;ext V3.canLay0;show jw _,?_];show V3.depthAll _+1<=3;let:=iJ (f:=λr:G Nat=>V3.tuple (r.map nd)) (l:=R) λr _=>by show V3.depthAll (bh r)+1<=1;rw[jt];ext
  ext
 let a:V3.canLay0 (ur S)=P/\V3.depth (ur S)<=5:=by
  show#[by ext V3.canLay0;show mX λs e=>by ext V3.canLay0;show mX λsn i=>by ext V3.canLay0;show mX λq g=>JI (h s e sn i q g),?_];show V3.depthAll _+1<=5;let:=iJ (f:=λs:G Sn=>V3.tuple (s.map λsn=>.tuple (sn.map ir))) (l:=S) λs _=>by
   show V3.depthAll (s.map λsn=>V3.tuple (sn.map ir))+1<=3;let:=iJ (f:=λsn:Sn=>V3.tuple (sn.map ir)) (l:=s) λsn _=>by show V3.depthAll (sn.map ir)+1<=2;let:=iJ (l:=sn) λq _=>Bx q;ext
   ext
  ext
 show Nq ?_ ?_
 .show(V3.canLay0 (pJ R)&&(V3.canLay0 (ur S)&&P))=P;rw[b.1,a.1];rfl
 .show max (V3.depth (pJ R)) (max (V3.depth (ur S)) 0)+1<=64;ext
abbrev G7(ns:G Int)(b:Bd)(N:Nat)(g:D)(f e a:z SV):aW:=[-(.list (ns.map .int)),-(bD b),-(nd N),-(g),f,e,a]
def main(ns:bg Int)(D:ns.length<=63):L10.Sz F_law [.list (ns.map .int)]=.ok (.fz (.bool V0)):=by
 let(n,hn,ek):=Kp ns;let(b,p,C,eb):=QA ns 1 n hn;let I:n<=5:=by ext
 let e1:=G0 C I;let o:=vW C;let K:(b5 n).length<=1000:=by ext b5;rw[V8,V8,V1,V1,Wj];show n+n+1<=_;ext
 let Q:Out (F_law [.fz (.list (ns.map .int))] []) (λx _=>x=.fz (.bool V0)) (λ_=>False):=by
  show sF W ?_;show fu (ah (cM (aj (ag W) (aj aD (aj (cM (aj (ag W) ay) W W ek) ay))) W W eb)) W ?_;by_cases l:∃N,(bS b (b5 n) N).length=N/\N<=90
  .let(N,l,h90):=l
   let(i1,K1,r1,k1):=OW p C I (m:=90) () () l () [];let mo:=MB r1 (df (lG.trans k1));rw[V1,V1,l]at mo;show fu (pV (aq (ah (ag W)) aC) W mo) W ?_;show uz (bu (aN (aB (ag W) aD W W W) W)) (pW ?_);generalize []++K1=ω1;let(k,ω2,E,em):=A8 p C I (m:=90) () () l () ω1;show fu (tJ (aq (ah (ag W)) (aq (ah aD) aC)) W em) W ?_;let dl:(bt b (b5 n) N).length=N:=by ext bt;rw[V1,Wj]
   let h0:0<N:=by let:=wf b (b5 n) N;ext
   let y:=uh (St:=iQ b (b5 n)) dl k;let O:∀a,a<N->_:=λa ha=>jb p o l ha;let(m,m0,mC,mk):=Df y O (λa a' J h2 e=>Cr dl E.1 J h2 e) W l h0;let L:=Sw p o l y;let v:∀ω,∃f,d4 [.fz (bD b),.fz (.int 400)] ω=.ok (.fz (P5 (iQ b (b5 n)) (bt b (b5 n) N) (sq (bt b (b5 n) N) (iQ b (b5 n)) N k) N)) f:=λω=>by let(k',f,s',X):=A8 p C I (m:=400) () () l () ω;cases J3 E s';show#[f,X]
   generalize sq (bt b (b5 n) N) (iQ b (b5 n)) N k=c at y mk L v mC;let cN:=zk y N (Wa _);let c0:=jf (c:=c) h0;generalize hR:((V6 (Cn c N)).map λk=>(iQ b (b5 n) (iT c N k)).map c)=R at L;generalize hS:((V6 (Cn c N)).map λk=>MO b (b5 n) (iT c N k))=S at L;let P:R.length=Cn c N:=by rw[<-hR,V1,Wj]
   let lS:S.length=R.length:=by rw[P,<-hS,V1,Wj]
   let ss:∀s∈S,s.length=(b5 n).length/\∀sn∈s,Zf sn:=λs w=>by rw[<-hS]at w;let(j,q,rfl):=WH.mp w;let(_,B,_):=qZ y (WX.mp q);let(lt,_):=O _ B;ext MO;rw[V9 lt];show#[V1 ..,λsn T=>?_];let(e,he,rfl):=WH.mp T;show Ay p (l9 p o _ _ (Yb lt)) (o e he)
   let rs:∀r∈R,r.length=(b5 n).length/\∀s∈r,s<R.length:=λr hr=>by
    rw[<-hR]at hr;let(j,q,rfl):=WH.mp hr;let(_,B,_):=qZ y (WX.mp q);let(lt,_):=O _ B;constructor
    .rw[V1];ext iQ;rw[V9 lt];show V1 ..
    .intro s w;let(t,ht,rfl):=WH.mp w;rw[P];show jf ((DY p o K l B).2 t ht)
   let F:=CW lS rs (λs w=>(ss s w).1) () K;let H:=SN R S λs w=>(ss s w).2;rw[L]at v⊢;let Y:br [pJ R]=-(nd (Cn c N)):=by ext pJ;show cL (RV.fz (.int (R.map λr=>V3.tuple (r.map nd)).length))=_;rw[V1,P]
   generalize hmc:V3.tuple [pJ R,ur S]=mc at v F H;let Z:aX mc (.int 0)=-(pJ R):=by rw[<-hmc];show i7
   let U:∀{o4 A g:b3 SV},dU br {aF aX (aa 3) (~~~0)} (bj (G7 ns b N mc o4 A g))=.ok (.fz (nd (Cn c N)),bj (G7 ns b N mc o4 A g)):=bU (aj (aB (ag W) aD W W Z) ay) W Y;let le:br [.list ((b5 n).map fC)]=-(nd (b5 n).length):=by show cL (RV.fz (.int ((b5 n).map fC).length))=_;rw[V1]
   let q1:N3 (.int 1) (nd (Cn c N))=-(.bool V0):=by show cL (RV.fz (.bool (decide ((1:Int)<=(Cn c N:Nat)))))=_;rw[a4 ()]
   let q2:N3 (nd (Cn c N)) (nd N)=-(.bool V0):=by show cL (RV.fz (.bool (decide (((Cn c N:Nat):Int)<=(N:Nat)))))=_;rw[a4 ()]
   show uz (bu (gW (eB (aN (cM (aj (ag W) (aj (bU (aj (cM (aj (ag W) ay) W W e1) ay) W le) ay)) W W F) W)) λ_=>eB (aN (qO aD U (ag W) W W W q1 λ_=>q2) W))) (pW ?_);show fu (ah aD) (ρ1:=G7 ns b N mc (-(nd (m 0))) VY VY) (by rw[m0];rfl) ?_;show l7 (DG (λi ρ _=>∃A g,ρ=G7 ns b N mc (-(nd (m i))) A g) (hV (uA (aj U ay) W (na ()))) #[VY,VY,W] ?_ ?_)
   .rintro i d ρ ω hi ⟨A,g,rfl⟩
    let M:=(V2.mp hi).1;rw[V1,Wj]at M;rw[dW M]at hi;ext hi;let(_,B,f3,f4):=qZ y M;let(g1,g2,g3):=mk i _ B f3 f4;let G:R[i]?=cL ((iQ b (b5 n) (iT c N i)).map c):=by rw[<-hR];show dW M
    generalize (iQ b (b5 n) (iT c N i)).map c=r at g2 g3 G;let x1:aX (pJ R) (nd i)=-(.tuple (r.map nd)):=by ext pJ;show M6 (by rw[Wg,G];rfl)
    show#[G7 ns b N mc (-(nd (m i))) (-(nd i)) g,ω,W,?_];let ge:N8 (nd i) (nd (m i))=-(.bool V4):=by show cL (RV.fz (.bool (decide (((m i:Nat):Int)<=(i:Nat)))))=_;rw[a5 ()]
    show uz (bu (aN (aB (ag W) (ag W) W W ge) W)) (pW ?_);show DG (λj ρ _=>∃g,ρ=G7 ns b N mc (-(nd (tS (m i) (r.take j)))) (-(nd i)) g) (hV (d5 (aB (aB (ag W) aD W W Z) (ag W) W W x1) W W)) #[g,by rw[aaf];rfl] ?_ ?_
    .rintro j d ρ ω q ⟨g,rfl⟩
     rw[Wg]at q;cases es:r[j]? with
     |none=>rw[es]at q;ext q
     |some s=>
      rw[es]at q;ext q;let J:=MR g2 es;rw[Ty es];generalize tS (m i) (r.take j)=u at J;show#[G7 ns b N mc (-(nd u)) (-(nd i)) (-(nd s)),ω,W,?_];let gt:DB (nd s) (nd u)=-(.bool V4):=by show cL (RV.fz (.bool (decide (((u:Nat):Int)<(s:Nat)))))=_;rw[a5 ()]
      show uz (bu (aN (aB (ag W) (ag W) W W gt) W)) (pW ?_);let mx:sj [nd u,.int ((s:Int)+1)]=-(nd (max u (s+1))):=by show cL (RV.fz (.int (if(s:Int)+1>(u:Nat)then(s:Int)+1 else(u:Nat))))=_;congr 3;split<;>ext
      show zK (ka (ah (bU (aj (ag W) (aj (aB (ag W) aD W W (fL _ _)) ay)) W mx)) W) #[_,W]
    .rintro ρ ω ⟨g,rfl⟩;rw[V1,ZL,g3];show#[_,_,W]
   .rintro ρ ω ⟨A,g,rfl⟩;rw[V1,Wj,mC];let(f,X):=v ω;let qm:=STP.Jo H;let qn:=yZ (Cn c N) (Cn c N);rw[a4 W]at qn;show vf (tt (aV (ah (aB (ag W) U W W qn))) (cZ (tJ (aq (ah (ag W)) aC) W X) (ah (ag W)) (bW qm))) W
  .let(f,ee):=Pm p C I (m:=90) () () (λN h=>by
    let:¬N<=90:=λz=>l #[N,h,z];ext) []
   show fu (pV (aq (ah (ag W)) aC) W (JH ee)) W ?_;show PK (bu (aN (aB (ag W) aD W W W) W)) (Kq (ah aD) W)
 let(x,f,J,rfl):=Q.all;ext L10.Sz;rw[show[V3.list (ns.map .int)].map SV.fz=[.fz (.list (ns.map .int))]from rfl,J]
end K42
namespace K42
open PySem L2 L3 L10 STP CC
set_option synthInstance.maxHeartbeats 400000
set_option synthInstance.maxSize 4000
def top(i:Nat):XY:=PySem.Challenge.pw_chordbed_k42_states_as_they_come.main.body.getD i (.Pass ⟨0,0,0,0⟩)
def bF:G CC.Fd:=[CC.fdX 1 "TooMany" "most",
 CC.fdP 1 "layer_of" ["standing"] 1 dQ,
 CC.fdP 1 "looked_up" ["bed","layer","key"] 3 iO,
 CC.fdP 1 "chords_over" ["bed","keys"] 2 bx,
 CC.fdP 1 "chord_acts" ["bed","keys"] 2 eZ,
 CC.fdP 1 "_law_cell" ["_law_script","_law_k"] 2 bN,
 CC.fdP 1 "_law_take" ["_law_cell_here","_law_salt","_law_many_here"] 3 aR,
 CC.fdP 2 "_law_letter" ["_law_cell_here","_law_salt"] 2 cK,
 CC.fdP 3 "_law_meaning" ["_law_cell_here","_law_layer","_law_many_here"] 3 dP,
 CC.fdP 2 "_law_chords" ["_law_cell_here","_law_keys_here","_law_first"] 3 fU,
 CC.fdP 4 "_law_bed" ["_law_script","_law_at","_law_keys_here"] 3 ji,
 CC.fdP 2 "_law_keys" ["_law_script"] 1 iP,
 CC.fdP 1 "events_of" ["bed"] 1 eO,
 CC.fdP 1 "_law_sent" ["_law_found"] 1 eN,
 CC.fdP 2 "_law_shaped" ["_law_found","_law_long"] 2 fY,
 CC.fdK 3 "Hand" ["self","bed","standing"] 3 dC,
 CC.fdM I 3 "Hand" "stands" ["self"] 1 bw,
 CC.fdM I 3 "Hand" "is_waiting" ["self","key"] 2 bP,
 CC.fdM I 3 "Hand" "has_act" ["self","act"] 2 bC,
 CC.fdM I 4 "Hand" "come" ["self","key","act"] 3 a9,
 CC.fdM I 4 "Hand" "go" ["self","key"] 2 ja,
 CC.fdM I 5 "Hand" "decide" ["self"] 1 cO,
 CC.fdM I 4 "Hand" "makes_chord" ["self","key"] 2 dj,
 CC.fdM I 6 "Hand" "put_to_chord" ["self","key"] 2 cS,
 CC.fdM I 5 "Hand" "begin" ["self","key"] 2 eW,
 CC.fdM I 7 "Hand" "press" ["self","key"] 2 gD,
 CC.fdM I 6 "Hand" "settle" ["self","key"] 2 fM,
 CC.fdM I 7 "Hand" "lift" ["self","key"] 2 iH,
 CC.fdM I 6 "Hand" "wait_on" ["self"] 1 fq,
 CC.fdS 8 "step" ["bed","standing","event"] 3 STP.kE,
 CC.fdM P 3 "Places" "enter" ["self","place","back","event"] 4 bA,
 CC.afU 4 "Places" ["self","first","most"] 3 cB,
 CC.fdD [] 9 "walked" ["bed","most"] 2 iq,
 CC.fdD [] 10 "rooms" ["bed","most"] 2 cA,
 CC.fdS 3 "numbered" ["marks"] 1 de,
 CC.fdM I 3 "Sorting" "mark_of" ["self","room"] 2 aY,
 CC.afU 10 "Sorting" ["self","bed","most"] 3 cg,
 CC.fdD [(.int 400)] 12 "machine" ["bed","most"] 2 d4,
 CC.fdD [] 12 "machine" ["bed","most"] 2 d4,
 CC.fdS 12 "_law_many" ["_law_bed_here"] 1 b6]
def jg:CC.Md:=⟨["max","all","list","sorted","len","range","tuple","isinstance","str","int","bool","dict","zip"],[],[("NONE",(.tuple [(.str "none")])),("CHORD",(.tuple [(.str "chord")])),("AT_REST",(.tuple [(.tuple []),.none,.none]))],[("Hand",["bed","acts","waiting","once","sent"]),("Places",["most","found","numbers"]),("Sorting",["steps","sends","rounds"])]⟩
noncomputable instance:CC.FX bF "TooMany" "most":=⟨0,1,W⟩
noncomputable instance:CC.Fn bF CC.fdP dQ 1:=⟨1,1,"layer_of",["standing"],W⟩
noncomputable instance:CC.Fn bF CC.fdP iO 3:=⟨2,1,"looked_up",["bed","layer","key"],W⟩
noncomputable instance:CC.Fn bF CC.fdP bx 2:=⟨3,1,"chords_over",["bed","keys"],W⟩
noncomputable instance:CC.Fn bF CC.fdP eZ 2:=⟨4,1,"chord_acts",["bed","keys"],W⟩
noncomputable instance:CC.Fn bF CC.fdP bN 2:=⟨5,1,"_law_cell",["_law_script","_law_k"],W⟩
noncomputable instance:CC.Fn bF CC.fdP aR 3:=⟨6,1,"_law_take",["_law_cell_here","_law_salt","_law_many_here"],W⟩
noncomputable instance:CC.Fn bF CC.fdP cK 2:=⟨7,2,"_law_letter",["_law_cell_here","_law_salt"],W⟩
noncomputable instance:CC.Fn bF CC.fdP dP 3:=⟨8,3,"_law_meaning",["_law_cell_here","_law_layer","_law_many_here"],W⟩
noncomputable instance:CC.Fn bF CC.fdP fU 3:=⟨9,2,"_law_chords",["_law_cell_here","_law_keys_here","_law_first"],W⟩
noncomputable instance:CC.Fn bF CC.fdP ji 3:=⟨10,4,"_law_bed",["_law_script","_law_at","_law_keys_here"],W⟩
noncomputable instance:CC.Fn bF CC.fdP iP 1:=⟨11,2,"_law_keys",["_law_script"],W⟩
noncomputable instance:CC.Fn bF CC.fdP eO 1:=⟨12,1,"events_of",["bed"],W⟩
noncomputable instance:CC.Fn bF CC.fdP eN 1:=⟨13,1,"_law_sent",["_law_found"],W⟩
noncomputable instance:CC.Fn bF CC.fdP fY 2:=⟨14,2,"_law_shaped",["_law_found","_law_long"],W⟩
noncomputable instance:CC.FK bF "Hand" dC 3:=⟨15,3,["self","bed","standing"],W⟩
noncomputable instance:CC.FM bF I "Hand" "stands" bw 1:=⟨16,3,["self"],W⟩
noncomputable instance:CC.FM bF I "Hand" "is_waiting" bP 2:=⟨17,3,["self","key"],W⟩
noncomputable instance:CC.FM bF I "Hand" "has_act" bC 2:=⟨18,3,["self","act"],W⟩
noncomputable instance:CC.FM bF I "Hand" "come" a9 3:=⟨19,4,["self","key","act"],W⟩
noncomputable instance:CC.FM bF I "Hand" "go" ja 2:=⟨20,4,["self","key"],W⟩
noncomputable instance:CC.FM bF I "Hand" "decide" cO 1:=⟨21,5,["self"],W⟩
noncomputable instance:CC.FM bF I "Hand" "makes_chord" dj 2:=⟨22,4,["self","key"],W⟩
noncomputable instance:CC.FM bF I "Hand" "put_to_chord" cS 2:=⟨23,6,["self","key"],W⟩
noncomputable instance:CC.FM bF I "Hand" "begin" eW 2:=⟨24,5,["self","key"],W⟩
noncomputable instance:CC.FM bF I "Hand" "press" gD 2:=⟨25,7,["self","key"],W⟩
noncomputable instance:CC.FM bF I "Hand" "settle" fM 2:=⟨26,6,["self","key"],W⟩
noncomputable instance:CC.FM bF I "Hand" "lift" iH 2:=⟨27,7,["self","key"],W⟩
noncomputable instance:CC.FM bF I "Hand" "wait_on" fq 1:=⟨28,6,["self"],W⟩
noncomputable instance:CC.Fn bF CC.fdS STP.kE 3:=⟨29,8,"step",["bed","standing","event"],W⟩
noncomputable instance:CC.FM bF P "Places" "enter" bA 4:=⟨30,3,["self","place","back","event"],W⟩
noncomputable instance:CC.FKE bF "Places" cB 3:=⟨31,4,["self","first","most"],W⟩
noncomputable instance:CC.Fn bF (CC.fdD []) iq 2:=⟨32,9,"walked",["bed","most"],W⟩
noncomputable instance:CC.Fn bF (CC.fdD []) cA 2:=⟨33,10,"rooms",["bed","most"],W⟩
noncomputable instance:CC.Fn bF CC.fdS de 1:=⟨34,3,"numbered",["marks"],W⟩
noncomputable instance:CC.FM bF I "Sorting" "mark_of" aY 2:=⟨35,3,["self","room"],W⟩
noncomputable instance:CC.FKE bF "Sorting" cg 3:=⟨36,10,["self","bed","most"],W⟩
noncomputable instance:CC.Fn bF (CC.fdD [(.int 400)]) d4 2:=⟨37,12,"machine",["bed","most"],W⟩
noncomputable instance:CC.Fn bF (CC.fdD []) d4 2:=⟨38,12,"machine",["bed","most"],W⟩
noncomputable instance:CC.Fn bF CC.fdS b6 1:=⟨39,12,"_law_many",["_law_bed_here"],W⟩
noncomputable instance k1:CC.CS bF (CC.so im):=by delta im;infer_instance
def e1:CC.XO bF (CC.so im) jg ["standing"] ["standing"] (top 8) 0 1 I=P:=by left
noncomputable instance k2:CC.CS bF (CC.so gc):=by delta gc;infer_instance
def e2:CC.XO bF (CC.so gc) jg ["bed","layer","key","meaning"] ["bed","layer","key"] (top 11) 0 2 I=P:=by left
noncomputable instance k3:CC.CS bF (CC.so d9):=by delta d9;infer_instance
def e3:CC.XO bF (CC.so d9) jg ["bed","keys"] ["bed","keys"] (top 12) 0 3 I=P:=by left
noncomputable instance k4:CC.CS bF (CC.so fA):=by delta fA;infer_instance
def e4:CC.XO bF (CC.so fA) jg ["bed","keys","chord"] ["bed","keys"] (top 13) 0 4 I=P:=by left
noncomputable instance k5:CC.CS bF (CC.so iy):=by delta iy;infer_instance
def e5:CC.XO bF (CC.so iy) jg ["_law_script","_law_k"] ["_law_script","_law_k"] (top 24) 0 5 I=P:=by left
noncomputable instance k6:CC.CS bF (CC.so eR):=by delta eR;infer_instance
def e6:CC.XO bF (CC.so eR) jg ["_law_cell_here","_law_salt","_law_many_here","_law_turn","_law_number"] ["_law_cell_here","_law_salt","_law_many_here"] (top 25) 0 6 I=P:=by left
noncomputable instance k7:CC.CS bF (CC.so fR):=by delta fR;infer_instance
def e7:CC.XO bF (CC.so fR) jg ["_law_cell_here","_law_salt"] ["_law_cell_here","_law_salt"] (top 26) 1 7 I=P:=by left
noncomputable instance k8:CC.CS bF (CC.so cX):=by delta cX;infer_instance
def e8:CC.XO bF (CC.so cX) jg ["_law_cell_here","_law_layer","_law_many_here","_law_way","_law_level"] ["_law_cell_here","_law_layer","_law_many_here"] (top 27) 2 8 I=P:=by left
noncomputable instance k9:CC.CS bF (CC.so dD):=by delta dD;infer_instance
def e9:CC.XO bF (CC.so dD) jg ["_law_cell_here","_law_keys_here","_law_first","_law_found","_law_mask","_law_some","_law_good"] ["_law_cell_here","_law_keys_here","_law_first"] (top 28) 1 9 I=P:=by left
noncomputable instance k10:CC.CS bF (CC.so fG):=by delta fG;infer_instance
def U7:CC.XO bF (CC.so fG) jg ["_law_script","_law_at","_law_keys_here","_law_cell_here","_law_many_here","_law_layers","_law_layer","_law_cells","_law_chords_here"] ["_law_script","_law_at","_law_keys_here"] (top 29) 3 10 I=P:=by left
noncomputable instance k11:CC.CS bF (CC.so iz):=by delta iz;infer_instance
def VJ:CC.XO bF (CC.so iz) jg ["_law_script"] ["_law_script"] (top 30) 1 11 I=P:=by left
noncomputable instance k12:CC.CS bF (CC.so gb):=by delta gb;infer_instance
def Vc:CC.XO bF (CC.so gb) jg ["bed","downs","ups"] ["bed"] (top 15) 0 12 I=P:=by left
noncomputable instance k13:CC.CS bF (CC.so iE):=by delta iE;infer_instance
def Vh:CC.XO bF (CC.so iE) jg ["_law_found","_law_thing"] ["_law_found"] (top 32) 0 13 I=P:=by left
noncomputable instance k14:CC.CS bF (CC.so fO):=by delta fO;infer_instance
def U5:CC.XO bF (CC.so fO) jg ["_law_found","_law_long","_law_row","_law_state"] ["_law_found","_law_long"] (top 33) 1 14 I=P:=by left
noncomputable instance k15:CC.CS bF (CC.X7 eC):=by delta eC;infer_instance
def Vm:CC.XO bF (CC.X7 eC) jg ["self","bed","standing"] ["self","bed","standing"] (aO (top 10) 0) 2 15 I=P:=by left
noncomputable instance k16:CC.CS bF (CC.X7 fS):=by delta fS;infer_instance
def Vx:CC.XO bF (CC.X7 fS) jg ["self"] ["self"] (aO (top 10) 1) 2 16 I=P:=by left
noncomputable instance k17:CC.CS bF (CC.X7 dJ):=by delta dJ;infer_instance
def Vi:CC.XO bF (CC.X7 dJ) jg ["self","key"] ["self","key"] (aO (top 10) 2) 2 17 I=P:=by left
noncomputable instance k18:CC.CS bF (CC.X7 eV):=by delta eV;infer_instance
def VI:CC.XO bF (CC.X7 eV) jg ["self","act"] ["self","act"] (aO (top 10) 13) 2 18 I=P:=by left
noncomputable instance k19:CC.CS bF (CC.X7 iB):=by delta iB;infer_instance
def Vg:CC.XO bF (CC.X7 iB) jg ["self","key","act"] ["self","key","act"] (aO (top 10) 11) 3 19 I=P:=by left
noncomputable instance k20:CC.CS bF (CC.X7 kM):=by delta kM;infer_instance
def VQ:CC.XO bF (CC.X7 kM) jg ["self","key","act"] ["self","key"] (aO (top 10) 12) 3 20 I=P:=by left
noncomputable instance k21:CC.CS bF (CC.X7 fV):=by delta fV;infer_instance
def VT:CC.XO bF (CC.X7 fV) jg ["self","keys","what","acts","key","act"] ["self"] (aO (top 10) 10) 4 21 I=P:=by left
noncomputable instance k22:CC.CS bF (CC.X7 dg):=by delta dg;infer_instance
def Vb:CC.XO bF (CC.X7 dg) jg ["self","key"] ["self","key"] (aO (top 10) 4) 3 22 I=P:=by left
noncomputable instance k23:CC.CS bF (CC.X7 cU):=by delta cU;infer_instance
def Vd:CC.XO bF (CC.X7 cU) jg ["self","key","keys"] ["self","key"] (aO (top 10) 5) 5 23 I=P:=by left
noncomputable instance k24:CC.CS bF (CC.X7 gC):=by delta gC;infer_instance
def Vo:CC.XO bF (CC.X7 gC) jg ["self","key","layer","meaning","word"] ["self","key"] (aO (top 10) 6) 4 24 I=P:=by left
noncomputable instance k25:CC.CS bF (CC.X7 gI):=by delta gI;infer_instance
def U9:CC.XO bF (CC.X7 gI) jg ["self","key"] ["self","key"] (aO (top 10) 3) 6 25 I=P:=by left
noncomputable instance k26:CC.CS bF (CC.X7 fW):=by delta fW;infer_instance
def Vr:CC.XO bF (CC.X7 fW) jg ["self","key","what"] ["self","key"] (aO (top 10) 8) 5 26 I=P:=by left
noncomputable instance k27:CC.CS bF (CC.X7 iA):=by delta iA;infer_instance
def VP:CC.XO bF (CC.X7 iA) jg ["self","key"] ["self","key"] (aO (top 10) 7) 6 27 I=P:=by left
noncomputable instance k28:CC.CS bF (CC.X7 fy):=by delta fy;infer_instance
def Vu:CC.XO bF (CC.X7 fy) jg ["self","age"] ["self"] (aO (top 10) 9) 5 28 I=P:=by left
noncomputable instance k29:CC.CS bF (CC.X7 STP.vO):=by delta STP.vO;infer_instance
def Va:CC.XO bF (CC.X7 STP.vO) jg ["bed","standing","event","hand"] ["bed","standing","event"] (top 9) 7 29 I=P:=by left
noncomputable instance k30:CC.CS bF (CC.X7 bK):=by delta bK;infer_instance
def Vj:CC.XO bF (CC.X7 bK) jg ["self","place","back","event"] ["self","place","back","event"] (aO (top 18) 1) 2 30 P=P:=by left
noncomputable instance k31:CC.CS bF (CC.X7 bB):=by delta bB;infer_instance
def Vy:CC.XO bF (CC.X7 bB) jg ["self","first","most"] ["self","first","most"] (aO (top 18) 0) 3 31 P=P:=by left
noncomputable instance k32:CC.CS bF (CC.X7 ko):=by delta ko;infer_instance
def Vf:CC.XO bF (CC.X7 ko) jg ["bed","most","events","places","steps","sends","room","standing","answers"] ["bed","most"] (top 17) 8 32 P=P:=by left
noncomputable instance k33:CC.CS bF (CC.X7 mY):=by delta mY;infer_instance
def Vz:CC.XO bF (CC.X7 mY) jg ["bed","most"] ["bed","most"] (top 16) 9 33 P=P:=by left
noncomputable instance k34:CC.CS bF (CC.X7 ic):=by delta ic;infer_instance
def VU:CC.XO bF (CC.X7 ic) jg ["marks","numbers"] ["marks"] (top 22) 2 34 I=P:=by left
noncomputable instance k35:CC.CS bF (CC.X7 dL):=by delta dL;infer_instance
def QQ:CC.XO bF (CC.X7 dL) jg ["self","room","alike"] ["self","room"] (aO (top 21) 1) 2 35 I=P:=by left
noncomputable instance k36:CC.CS bF (CC.X7 dh):=by delta dh;infer_instance
def S4:CC.XO bF (CC.X7 dh) jg ["self","bed","most","walk","finer"] ["self","bed","most"] (aO (top 21) 0) 9 36 P=P:=by left
noncomputable instance k37:CC.CS bF (CC.X7 lc):=by delta lc;infer_instance
def UG:CC.XO bF (CC.X7 lc) jg ["bed","most","sorting","state_of","firsts","steps"] ["bed","most"] (top 20) 11 37 P=P:=by left
noncomputable instance k40:CC.CS bF (CC.X7 A3):=by delta A3;infer_instance
def VH:CC.XO bF (CC.X7 A3) jg ["_law_script","_law_bed_here","_law_many_here","_law_found","_law_come","_law_row","_law_state"] ["_law_script"] (top 34) 12 40 I=P:=by left
end K42
namespace L2
open PySem PySem.Spec PyProof.Rows
section
variable{Z:St}{H:Hp}{Q:VK}{D:Ends}
theorem JB{K:lD}{c b:TE}{f:Str}(h:b Z H λy H1=>c Z H1 λx e=>∃a C d fs,x=.ref a/\e a=M (.ins C d fs)/\Cls K C/\Zl K C f/\fs.length<1000/\D.nx Z (a8 e a (.ins C d (iW f y fs)))):Q8 K c b f D Z H:=h
theorem OH{c:TT}{t u:TE}(h:c Z H λb H1=>if b=P then t Z H1 Q else u Z H1 Q):TZ c t u Z H Q:=h
theorem PH{K:lD}{b:TE}{f:Str}(h:b Z H λx H1=>∃a C c fs v,x=.ref a/\H1 a=M (.ins C c fs)/\Cls K C/\Zl K C f/\fs.lookup f=M v/\Q v H1):OE K b f Z H Q:=h
theorem KF{C:U}{m:Str}{sp:Sp}{E:XK}{b:TE}{t:TA}(h:b Z H λx H1=>∃a d fs,x=.ref a/\H1 a=M (.ins C d fs)/\fs.lookup m=R/\t Z H1 λc e=>sp (x::(c++[])) e Q E):tZ C m sp [] E b t Z H Q:=h
theorem Mi{C:U}{sp:Sp}{E:XK}{t:TA}(h:t Z H λb H1=>∀x a,H1 x=R->H1 a=R->a≠x->sp (.ref x::(b++[])) (a8 (a8 H1 a (.own x)) x (.ins C a [])) (λv c=>v=.Yf/\Q (.ref x) c) E):wT C sp [] E t Z H Q:=h
end
end L2
local macro_rules| `(tactic|ext:7)=> `(tactic|repeat (first
 |specialize L2.Pq ?_
 |specialize L2.Pj ?_
 |specialize L2.JB ?_
 |specialize L2.OH ?_
 |specialize L2.PH ?_
 |specialize L2.KF ?_
 |specialize L2.Mi ?_
 |specialize L2.JA ?_
 |((with_reducible show L2.pQ _ _ _ _);refine⟨_,rfl,?_⟩)
 |specialize L2.Up ?_
 |specialize L2.alx ?_
 |specialize L2.amt ?_
 |specialize L2.al5 ?_
 |specialize L2.aoS ?_
 |((specialize L2.ap1 ?_ ?_);first|exact⟨by decide,by decide⟩|exact⟨by decide,by decide,by decide⟩|exact(show(0:Int)<_ by decide)|exact⟨by decide,by left⟩)
 |((specialize L2.alz ?_ ?_);exact rfl)
 |((specialize L2.amf ?_ ?_);exact rfl)
 |specialize L2.ajH ?_
 |specialize L2.LL ?_
 |specialize L2.ajn ?_
 |specialize L2.aiv ?_
 |specialize L2.ag3 ?_
 |specialize L2.ah6 ?_
 |specialize L2.ahM ?_
 |specialize L2.anx ?_
 |specialize L2.alr ?_
 |specialize L2.ajk ?_
 |specialize L2.amM ?_
 |specialize L2.ajI ?_
 |specialize L2.ahZ ?_
 |specialize L2.aj6 ?_
 |specialize L2.ahN ?_
 |specialize L2.aju ?_
 |specialize L2.aid ?_
 |specialize L2.amw ?_
 |specialize L2.ah0 ?_
 |specialize L2.ajC ?_
 |specialize L2.akO ?_
 |specialize L2.ama ?_
 |specialize L2.alc ?_
 |specialize L2.ags ?_
 |specialize L2.aiL ?_
 |specialize L2.aj0 ?_
 |specialize L2.agP ?_
 |specialize L2.ahA ?_
 |specialize L2.aiM ?_
 |specialize L2.ahR ?_
 |specialize L2.ajo ?_
 |specialize L2.aiy ?_
 |specialize L2.aiu ?_
 |specialize L2.ahu ?_
 |specialize L2.aiB ?_
 |specialize L2.agS ?_
 |specialize L2.aiH ?_
 |specialize L2.aiO ?_))
namespace K42
open PySem L2
section
open L3 L4
variable{P:Ws}{w:WO}{K:lD}{mg:Str->b3 Ld}{base:Heap}{f:V5}{Y:Xf}
theorem lA:Ye ["self","most"] ["self","most"] (au (aO (top 3) 0)):=⟨W,W,W,by left,W,by left,by left⟩
def Du{C B fI:U}(F:Fun K "__init__" "TooMany.__init__" (aO (top 3) 0) f Y)(o:L9.XC K C B fI)(l:mg "BedError"=M (.ref B))(g:aaS K B (.type "type")=V0)(m:aaT K (.ref B) (.type "type") "__init__"=M (.val (.builtin "ValueError.__init__")))
  (b:YG K (.ref B) "__getattribute__"=M (M (.builtin "type.__getattribute__"))) (j:W0 K (.ref C) "most"=M R):FnOk P w K mg base lu 1 f Y ["self","most"] (L9.uY C "most"):=by
 show F.ok lA (λJ H Q E h=>?_) (λu A a s H J Q E t h=>?_)
 .let(_,_,rfl,_):=h;rfl
 let(e,v,rfl,r,n,q):=h;show⟨_,(nF (AQ (L9.Gz W l g m b o (dI (pv 0) (dI (L9.Ko (L9.Ra () (L9.Pt (pv 1) L9.Qn)) ()) gX)))) (mQ (L9.Mh o j (pv 0) (pv 1) W))),?_⟩;ext:7;show⟨V.ref e,W,v,W,r,λy=>⟨e,y,W,n,?_⟩⟩;show⟨v,W,V.ref e,W,e,W,n,λp j i=>q p j i⟩
end
end K42
namespace K42
open PySem L2
section
variable{P:Ws}{w:WO}{K:lD}{mg:Str->b3 Ld}{base:Heap}{f:V5}{fd:Xf}
theorem gF:Ye ["_law_bed_here","_law_many_here"] ["_law_bed_here"] (au (top 31)):=⟨W,W,W,by left,W,by left,by left⟩
def u9{C:V5}{m:bg Ld}(F:Fun K "_law_many" "_law_many" (top 31) f fd)(R:L3.yw P w K mg base (L4.j7 P w) 10 "rooms" ["bed","most"] [] (L10.kh K 2 cA))
  (V:mg "TooMany"=cL (.ref C)) (S:L4.xa K C m) (D:m.contains (.type "BaseException")=V0) (k:WC K Wr "TooMany"=cL (cL (.ref C))) (O:mg "len"=VY):
  FnOk P w K mg base lu 12 f fd ["_law_bed_here"] (L10.kh K 1 b6):=by
 show F.ok gF (λvs H Q E h=>h.1) (λXZ A I s H vs Q E U h=>?_);let hu:=U.units;let(hl,B,α,ω,xs,so,J,g):=h;let ev:∀{E2:XK},L10.cb K E2 (Ax (λxs H Q=>∃x n,xs=[x]/\Mu K x H n/\Q (.int n) H) (d6 (kF (L10.kh K 2 cA) [] E2 (d6 (pQ 0) (d6 (tC (.int 90)) g6))) g6)) (L10.i4 L3.br (L10.ai (L10.Mz cA 2 (L10.ai (L10.am 0) (L10.ai (L10.af (L3.pC (.int 90))) L10.av))) L10.av)):=L10.Gc L3.D5 (L10.nA (L10.HG (L10.nA L10.BC (L10.nA (L10.rC (L3.CD λ_ _=>.int _)) L10.pS))) L10.pS);obtain⟨b,rfl⟩:∃b,xs=[.fz b]:=by
  unfold b6 at g;split at g
  .show⟨_,W⟩
  .show g.elim
 obtain⟨t,rfl,N⟩:∃t,vs=[t]/\L3.DV (L10.ow B α ω) K H t b:=by
  cases J with
  |cons N r0=>ext r0;show⟨_,W,N⟩
 let sl:L10.YB (L10.ow B α ω) K H α [cL t,cL .Yf] [-(b),-(.none)]:=⟨W,λi x h=>by
  match i,h with
  |0,h=>ext h;show⟨t,W,N⟩
  |1,h=>ext h;show⟨.Yf,W,.Yf⟩
  |i+2,h=>ext h⟩
 suffices key:∃E2:XK,(∀c dx o,E2 c dx o->c=Ld.ref C)/\L10.WS K E2 B H α ω (L10.PQ B K Q) (L10.i4 L3.br (L10.ai (L10.Mz cA 2 (L10.ai (L10.am 0) (L10.ai (L10.af (L3.pC (.int 90))) L10.av))) L10.av) [-(b),-(.none)] ω)/\∀c dx o,E2 c dx o->Q .Yf o by
  let(E2,k1,k2,k3):=key;show⟨_,(nF (qA (i:=1) gF.nd W (Or.inl W) y0)
   (nF (L4.Ls (E2:=E2) W W W W V S D
    (λl=>mQ (qA (i:=1) gF.nd W (Or.inl W) (wB (show Yg _ (.builtin "len") (λxs H Q=>∃x n,xs=[x]/\Mu K x H n/\Q (.int n) H)from xP) W O Hf (dI (L3.u7 R U (L4.yM W) (dI (pv 0) (dI Fs gX))) gX))))
    (λl e=>mQ (qA (i:=1) gF.nd W (Or.inl W) y0))
    (λc dx o h=>⟨C,m,k1 c dx o h,S,by rw[aaF,eh,YM]⟩))
   (mQ (Gb (pv 1))))),?_⟩
  ext:7;ext L4.MZ;show⟨?_,λc dx o y r hs=>?_⟩
  .show ev B _ H α ω _ _ so sl (k2.imp λx Y X o e1 u Z v J=>⟨v,W,Z v J⟩)
  .obtain⟨T,u,rfl⟩:∃T u,r=[T,u]:=by
    match r,hs with
    |[a,c],_=>show⟨a,c,W⟩
   show⟨.Yf,W,k3 c dx o y⟩
 unfold b6 at g;dsimp only at g;let ce:L10.i4 L3.br (L10.ai (L10.Mz cA 2 (L10.ai (L10.am 0) (L10.ai (L10.af (L3.pC (.int 90))) L10.av))) L10.av) [-(b),-(.none)] ω=(cA [.fz b,.fz (.int 90)] ω).bind λx q=>L10.sQ L3.br [x] q:=by show(((cA [.fz b,.fz (.int 90)] ω).bind λx q=>(L10.RS.ok [] q).bind λxs z=>L10.RS.ok (x::xs) z).bind λxs q=>L10.sQ L3.br xs q)=_;cases cA [.fz b,.fz (.int 90)] ω<;>rfl
 rw[ce];cases h1:cA [.fz b,.fz (.int 90)] ω with
 |bad=>rw[h1]at g;show g.elim
 |er x j=>
  rw[h1]at g;dsimp only at g;by_cases L:x.cls=("TooMany":Str)
  .rw[ax L]at g;show⟨λc dx o=>∃p,L10.XX α ω H p j o/\L10.WM B K o p j/\c=.ref C,λc dx o ⟨_,_,_,h⟩=>h,?_,λc dx o ⟨p,e1,u,_⟩=>g p o e1 u .Yf .Yf⟩;rintro c dx p H' M G ⟨⟨a',e1,e2⟩,_⟩;rw[L]at e2;let e3:=k.symm.trans e2;ext e3;show⟨p,M,G,e1⟩
  .rw[aE L]at g;show g.elim
 |ok x j=>
  rw[h1]at g;dsimp only at g;cases y:L10.sh j x with
  |none=>rw[y]at g;show g.elim
  |some d=>
   rw[y]at g;cases d with
   |list ds=>
    show⟨λ_ _ _=>False,λ_ _ _ h=>h.elim,?_,λ_ _ _ h=>h.elim⟩;let e4:L10.sQ L3.br [x] j=.ok (.fz (L3.nd ds.length)) j:=by unfold L10.sQ L10.aA L10.aA;rw[y];rfl
    show L10.WS K _ B H α ω _ (L10.sQ L3.br [x] j);rw[e4];show g
   |_=>show g.elim
end
end K42
theorem Ug{α:Type}:∀{l:G α},l.length=1->∃a,l=[a]
 |[a],_=>⟨a,W⟩
theorem T5{α:Type}:∀{l:G α},l.length=2->∃a b,l=[a,b]
 |[a,b],_=>⟨a,b,W⟩
theorem UX{α:Type}:∀{l:G α},l.length=3->∃a b c,l=[a,b,c]
 |[a,b,c],_=>⟨a,b,c,W⟩
theorem Vw{α:Type}:∀{l:G α},l.length=4->∃a b c d,l=[a,b,c,d]
 |[a,b,c,d],_=>⟨a,b,c,d,W⟩
local macro_rules| `(tactic|ext:2)=> `(tactic|(intro _ _ _ _ _ _ us hl;first|(obtain⟨_,h⟩:=Ug hl;subst h;kernel_rfl)|(obtain⟨_,_,h⟩:=T5 hl;subst h;kernel_rfl)|(obtain⟨_,_,_,h⟩:=UX hl;subst h;kernel_rfl)|(obtain⟨_,_,_,_,h⟩:=Vw hl;subst h;kernel_rfl)|(match us,hl with|[_,_,_,_,_],_=>rfl)|(match us,hl with|[_,_,_,_,_,_],_=>rfl)|(match us,hl with|[],_=>rfl)))| `(tactic|ext:8)=> `(tactic|(intro _ _ _ _ _ _ us hl;first|((have h1:us.length=1:=by simpa using hl);obtain⟨_,h⟩:=Ug h1;subst h;exact⟨_,rfl,rfl⟩)|((have h1:us.length=2:=by simpa using hl);obtain⟨_,_,h⟩:=T5 h1;subst h;exact⟨_,rfl,rfl⟩)|((have h1:us.length=3:=by simpa using hl);obtain⟨_,_,_,h⟩:=UX h1;subst h;exact⟨_,rfl,rfl⟩)|((have h1:us.length=4:=by simpa using hl);(match us,h1 with|[_,_,_,_],_=>exact⟨_,rfl,rfl⟩))))| `(tactic|ext:5)=> `(tactic|first|exact List.forall_mem_nil _|(refine List.forall_mem_cons.mpr ⟨?_,?_⟩;(·first|(show W0 _ _ _=_;k_is)|(show WC _ _ _=_;k_is));ext:5))| `(tactic|ext:9)=> `(tactic|first|(refine' L3.NI.mk ?a' ⟨_,L2.DM ?b' ?c' ?d'⟩;(case a'=>k_is);(case b'=>k_is);(case c'=>k_is);(case d'=>k_is))|(refine' L3.MI.mk ?a' ?e' ⟨_,L2.DM ?b' ?c' ?d'⟩;(case a'=>k_is);(case e'=>k_is);(case b'=>k_is);(case c'=>k_is);(case d'=>k_is))|(refine' L3.CI.mk ?a' ?b' ?c' ?d' ?e' ?f' ?g' ?i';(case a'=>k_is);(case b'=>k_is);(case c'=>k_is);(case d'=>k_is);(case e'=>k_is);(case f'=>k_is);(case g'=>k_is);(case i'=>ext:5))|(refine' L3.DI.mk ?a' ⟨_,L3.KG ?b' ?c' ?d' ?e'⟩;(case a'=>k_is);(case b'=>k_is);(case c'=>k_is);(case d'=>k_is);(case e'=>k_is))|k_is|k_exc|rfl|ext:5|left|(rw[<-Array.all_toList];rfl))
namespace K42
open PySem L2 L3 CC
def F_lawH:FN:=L10.Sz F_law
def all_mk{l:adA}{w:WO}{K:lD}{h:Heap}{c:Str->b3 Ld}{fa:V5}
  {adR:Tok}
  {F:V5} {aeV:Nat} {aeU:Array (b3 Ld)}
  {ads:Tok}
  {V:V5} {aeb:Nat} {aea:Array (b3 Ld)}
  {Z2:V5} {abV:Nat} {abK:Array (b3 Ld)}
  {abB:V5} {ac1:Nat} {acK:Array (b3 Ld)}
  {aeI:V5} {acP:Tok}
  {adh:V5} {aaA:Tok}
  {f0 f1 f2 f3 f4 f5 f6 f7 f8 f9 f10 f11 f12 f13 f14 f15 f16 f17 f18 f19 f20 f f22 f23 f24 f25 f26 f27 f28 f29 f30 f31 f32 f33 f34 f35 r f37 f38 q f40 f41 p:V5}
  {j g:V5}
  {nmR qR:Str} {NR:V5} {bsR:bg Ld} {MO:bg Str} {ajy:bg Ld} {abR:Bool} {ai7:b3 Bool} {ddR:b3 V5} {k0R k1R k2R k3R k5R:b3 Ld}
  {ocN:Ld} {odN:b3 V5} {D:Array YW} {nN:Nat} {slN:Array (b3 Ld)} (X:K.In h) (G:h.Ns Wr c) (hfa:c "law"=cL (.ref fa))
  (h0:NI K f0 "layer_of" (top 8))
  (h1:NI K f1 "looked_up" (top 11))
  (h2:NI K f2 "chords_over" (top 12))
  (h3:NI K f3 "chord_acts" (top 13))
  (h4:NI K f4 "_law_cell" (top 24))
  (h5:NI K f5 "_law_take" (top 25))
  (h6:NI K f6 "_law_letter" (top 26))
  (h7:NI K f7 "_law_meaning" (top 27))
  (h8:NI K f8 "_law_chords" (top 28))
  (h9:NI K f9 "_law_bed" (top 29))
  (h10:NI K f10 "_law_keys" (top 30))
  (h11:NI K f11 "events_of" (top 15))
  (h12:NI K f12 "_law_sent" (top 32))
  (h13:NI K f13 "_law_shaped" (top 33))
  (h14:NI K f14 "step" (top 9))
  (h15:NI K f15 "walked" (top 17))
  (h16:DI K f16 aeI "rooms" (top 16) #v[.int 400 acP])
  (h17:NI K f17 "numbered" (top 22))
  (k:DI K f18 adh "machine" (top 20) #v[.int 400 aaA])
  (h19:NI K f19 "_law_many" (top 31))
  (h20:NI K f20 "law" (top 34))
  (b:CI K f "Hand" ["bed","acts","waiting","once","sent"])
  (h22:MI K f f22 "__init__" "Hand.__init__" (aO (top 10) 0))
  (h23:MI K f f23 "stands" "Hand.stands" (aO (top 10) 1))
  (h24:MI K f f24 "is_waiting" "Hand.is_waiting" (aO (top 10) 2))
  (h25:MI K f f25 "has_act" "Hand.has_act" (aO (top 10) 13))
  (h26:MI K f f26 "come" "Hand.come" (aO (top 10) 11))
  (h27:MI K f f27 "go" "Hand.go" (aO (top 10) 12))
  (h28:MI K f f28 "decide" "Hand.decide" (aO (top 10) 10))
  (h29:MI K f f29 "makes_chord" "Hand.makes_chord" (aO (top 10) 4))
  (h30:MI K f f30 "put_to_chord" "Hand.put_to_chord" (aO (top 10) 5))
  (h31:MI K f f31 "begin" "Hand.begin" (aO (top 10) 6))
  (h32:MI K f f32 "press" "Hand.press" (aO (top 10) 3))
  (h33:MI K f f33 "settle" "Hand.settle" (aO (top 10) 8))
  (h34:MI K f f34 "lift" "Hand.lift" (aO (top 10) 7))
  (h35:MI K f f35 "wait_on" "Hand.wait_on" (aO (top 10) 9))
  (o:CI K r "Places" ["most","found","numbers"])
  (h37:MI K r f37 "enter" "Places.enter" (aO (top 18) 1))
  (h38:MI K r f38 "__init__" "Places.__init__" (aO (top 18) 0))
  (n:CI K q "Sorting" ["steps","sends","rounds"])
  (h40:MI K q f40 "mark_of" "Sorting.mark_of" (aO (top 21) 1))
  (h41:MI K q f41 "__init__" "Sorting.__init__" (aO (top 21) 0))
  (t:WC K Wr "TooMany"=cL (cL (.ref j)))
  (aci:WC K Wr "BedError"=cL (cL (.ref g)))
  (xR:K.lookup j=cL (excClassObj nmR qR j NR bsR (.ref g::[.type "ValueError",.type "Exception",.type "BaseException",.type "object"]) V0 MO ajy abR ai7 ddR k0R k1R k2R k3R k5R "ValueError.__new__"))
  (eI:YX K g [.type "ValueError",.type "Exception",.type "BaseException",.type "object"] "ValueError.__new__"=V0)
  (lN:K.lookup NR=cL ⟨ocN,odN,.dict D nN,slN⟩)
  (MV:(D.all λe=>match e.key with|.str _ _=>V0|_=>V4)=V0)
  (inN:WC K NR "__init__"=cL (cL (.ref p)))
  (saR:W0 K (.ref j) "__setattr__"=cL (cL (.builtin "object.__setattr__")))
  (jL:W0 K (.ref j) "most"=cL VY)
  (rdB:aaS K g (.type "type")=V0)
  (fcB:aaT K (.ref g) (.type "type") "__init__"=cL (.val (.builtin "ValueError.__init__")))
  (HD:YG K (.ref g) "__getattribute__"=cL (cL (.builtin "type.__getattribute__")))
  (d:MI K j p "__init__" "TooMany.__init__" (aO (top 3) 0))
  (aeT:WC K Wr "NONE"=cL (cL (.ref F)))
  (adX:WC K Wr "CHORD"=cL (cL (.ref V)))
  (acR:WC K Wr "AT_REST"=cL (cL (.ref abB)))
  (acV:K.lookup abB=cL ⟨.type "tuple",VY,.seq #v[.ref Z2,.none,.none] ac1,acK⟩)
  (abT:K.lookup Z2=cL ⟨.type "tuple",VY,.seq #v[] abV,abK⟩)
  (adT:K.lookup V=cL ⟨.type "tuple",VY,.seq #v[.str "chord" ads] aeb,aea⟩)
  (aeF:K.lookup F=cL ⟨.type "tuple",VY,.seq #v[.str "none" adR] aeV,aeU⟩)
  (yb:∀x∈jg.bl,WC K Wr x=cL VY):
  ∃fd:Xf,(∀(s:V7) (v:Ld),aah s fd ⟨[v],[]⟩ [("_law_script",v)])/\∀base:Heap,K.In base->base.Ns Wr c->FnOk l.prog w K c base lu 13 fa fd ["_law_script"] (L3.CM K 1 F_lawH):=by
 let af4:=LZ (xs:=[.str "none"]) (ds:=[(.str "none")]) aeF (by show 1<=We;decide) (.cons ⟨_,rfl⟩ .nil) λO H=>(.cons (.str _) .nil);let aeS:=LZ (xs:=[.str "chord"]) (ds:=[(.str "chord")]) adT (by show 1<=We;decide) (.cons ⟨_,rfl⟩ .nil) λO H=>(.cons (.str _) .nil);let acn:=LZ (xs:=[]) (ds:=[]) abT (by show 0<=We;decide) .nil λO H=>.nil;let adj:=LZ (xs:=[.ref Z2,.Yf,.Yf]) (ds:=[(.tuple []),.none,.none]) acV (by show 3<=We;decide) (.cons rfl (.cons rfl (.cons rfl .nil))) λO H=>(.cons (acn O H) (.cons .Yf (.cons .Yf .nil)));show h20.law X G hfa (by ext:2) λbase fd afX=>?_;let W:Tp l.prog w K c base h:=⟨X,G⟩;let MV:aa4 K NR=V0:=by ext aa4;rw[lN];show MV
 let XR:L4.xa K j (.ref g::[.type "ValueError",.type "Exception",.type "BaseException",.type "object"]):=⟨_,_,_,_,_,_,_,_,_,_,_,_,_,_,_,_,xR⟩;let abc:L9.XC K j g p:=⟨⟨_,_,_,_,_,_,_,_,_,_,_,_,_,_,xR,MV,inN⟩,eI,saR⟩;let Z8:=XN X G t;let acQ:=XN X G aci;let(fdI,zI):=d.F;let(_,_,_,_,_,_,_,_,_,rfl,ac0,_):=zI.ex;let ac2:=d.i;let acY:=Du (P:=l.prog) (w:=w) (mg:=c) (base:=base) zI abc acQ rdB fcB HD jL;let ac4:=zI.binds (ps:=["self","most"]) (by ext:2);let a:acq K c jg:=⟨λx hx=>PySem.W.mg_none_of X G (yb x hx),CC.exN,(CC.csC (CC.csW (XN X G aeT) af4) (CC.csC (CC.csW (XN X G adX) aeS) (CC.csC (CC.csW (XN X G acR) adj) CC.csN))),(CC.clC b.cf (CC.clC o.cf (CC.clC n.cf CC.clN)))⟩;let s0:=CC.fs0 (T:=bF) (P:=l.prog) (w:=w) (K:=K) (mg:=c) (base:=base);let s1:=CC.ZD s0 rfl (⟨_,_,_,_,_,_,abc,ac0,ac2,acY,ac4,t,Z8⟩);let s2:=CC.ZD s1 rfl (h0.c W λ_ z=>CC.aaz a s1 z e1);let s3:=CC.ZD s2 rfl (h1.c W λ_ z=>CC.aaz a s2 z e2);let s4:=CC.ZD s3 rfl (h2.c W λ_ z=>CC.aaz a s3 z e3);let s5:=CC.ZD s4 rfl (h3.c W λ_ z=>CC.aaz a s4 z e4);let s6:=CC.ZD s5 rfl (h4.c W λ_ z=>CC.aaz a s5 z e5);let s7:=CC.ZD s6 rfl (h5.c W λ_ z=>CC.aaz a s6 z e6);let s8:=CC.ZD s7 rfl (h6.c W λ_ z=>CC.aaz a s7 z e7);let s9:=CC.ZD s8 rfl (h7.c W λ_ z=>CC.aaz a s8 z e8);let s10:=CC.ZD s9 rfl (h8.c W λ_ z=>CC.aaz a s9 z e9);let s11:=CC.ZD s10 rfl (h9.c W λ_ z=>CC.aaz a s10 z U7);let s12:=CC.ZD s11 rfl (h10.c W λ_ z=>CC.aaz a s11 z VJ);let s13:=CC.ZD s12 rfl (h11.c W λ_ z=>CC.aaz a s12 z Vc);let s14:=CC.ZD s13 rfl (h12.c W λ_ z=>CC.aaz a s13 z Vh);let s15:=CC.ZD s14 rfl (h13.c W λ_ z=>CC.aaz a s14 z U5);let s16:=CC.ZD s15 rfl (h22.k b W λ_ z=>CC.ZQ a s15 z Vm);let s17:=CC.ZD s16 rfl (h23.mt b W λ_ z=>CC.ZQ a s16 z Vx);let s18:=CC.ZD s17 rfl (h24.mt b W λ_ z=>CC.ZQ a s17 z Vi);let s19:=CC.ZD s18 rfl (h25.mt b W λ_ z=>CC.ZQ a s18 z VI);let i:=CC.ZD s19 rfl (h26.mt b W λ_ z=>CC.ZQ a s19 z Vg);let Z:=CC.ZD i rfl (h27.mt b W λ_ z=>CC.ZQ a i z VQ);let Y:=CC.ZD Z rfl (h28.mt b W λ_ z=>CC.ZQ a Z z VT);let U:=CC.ZD Y rfl (h29.mt b W λ_ z=>CC.ZQ a Y z Vb);let S:=CC.ZD U rfl (h30.mt b W λ_ z=>CC.ZQ a U z Vd);let R:=CC.ZD S rfl (h31.mt b W λ_ z=>CC.ZQ a S z Vo);let Q:=CC.ZD R rfl (h32.mt b W λ_ z=>CC.ZQ a R z U9);let N:=CC.ZD Q rfl (h33.mt b W λ_ z=>CC.ZQ a Q z Vr);let M:=CC.ZD N rfl (h34.mt b W λ_ z=>CC.ZQ a N z VP);let L:=CC.ZD M rfl (h35.mt b W λ_ z=>CC.ZQ a M z Vu);let J:=CC.ZD L rfl (h14.c W λ_ z=>CC.ZQ a L z Va);let I:=CC.ZD J rfl (h37.mt o W λ_ z=>CC.aeK a J z Vj);let E:=CC.ZD I rfl (h38.k o W λ_ z=>CC.aeK a I z Vy);let C:=CC.ZD E rfl (h15.d W λ_ z=>CC.aeK a E z Vf);let B:=CC.ZD C rfl (h16.c (ds:=[]) W .nil λ_ z=>CC.aed a C z Vz);let A:=CC.ZD B rfl (h17.c W λ_ z=>CC.ZQ a B z VU);let y:=CC.ZD A rfl (h40.mt n W λ_ z=>CC.ZQ a A z QQ);let m:=CC.ZD y rfl (h41.k n W λ_ z=>CC.aeK a y z S4);let s38:=CC.ZD m rfl (k.c (ds:=[.int 400 aaA]) W (.cons ⟨_,rfl⟩ .nil) λ_ z=>CC.aed a m z UG);let u:=CC.ZD s38 rfl (k.c (ds:=[]) W .nil λ_ z=>CC.aed a m z UG);let s40:=CC.ZD u rfl (h19.c W λ_ z=>u9 z (u 33 _ () rfl) Z8 XR rfl t (a.bl "len" (by left)));show(CC.ZQ a s40 afX VH).imp λ_ _ _ _ h=>L10.PY h
end K42
local macro_rules|`(universe $i*)=>do
 let t:=fun (c:Lean.Name)=>`(theorem $(Lean.mkIdent ((`PySem.W.Fast).str ("tw"++toString c.hash))):ident:True:=trivial)
 let b:=`PySem.Challenge.cw_chordbed_k42_states_as_they_come_holds
 let o←(List.range 492).mapM fun n=>t (b.str ("o_"++toString n))
 let l←i.mapM fun j=>t (b++j.getId)
 return Lean.mkNullNode (((o.toArray++l).push (←t `PySem.Challenge.pw_chordbed_k42_states_as_they_come)))
universe heap_492 heap_39 tree_491 view_39 tree_434 tree_382 tree_339 tree_218 sts_435 sts_109 tree_299 sts_303 sts_383 sts_340 sts_71 tree_108 tree_70 sts_49 heap_46 tree_47 env_41
open PySem PySem.W PyProof.Rows
set_option maxRecDepth 100000 in
set_option maxHeartbeats 0 in
theorem PySem.Challenge.cw_chordbed_k42_states_as_they_come_holds : PySem.Challenge.rw_chordbed_k42_states_as_they_come.Holds := by
 w_on;o_law;k_head;(case hw=>w_witness2)
 k_fill
 refine L3.Sq (l:=PySem.Challenge.rw_chordbed_k42_states_as_they_come) (n:=63) (k:=13) (x:= "_law_script") (F:=K42.F_lawH) rfl (by decide) rfl ⟨rfl,by decide,by decide⟩ (λw h Y=>PySem.W.kIn_of Y) ?F K42.main
 case F=>
  intro w e f h b G a
  apply K42.all_mk b G a
  all_goals ext:9
