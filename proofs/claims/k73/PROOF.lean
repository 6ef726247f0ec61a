import PyProof.Rows.All
import Wide.All
import OpenK.AllK
import Wide.FinOn
import Lean
import PyProof.EqAt
import PyProof.EqKinds
import PyProof.TupleCall
import KE.KIntText
import KE.KRevSl
import PyProof.Rows.SeqMore
import PyProof.WalkInts
import PyProof.Rows.MinMaxN
import PyProof.ExcInit
import OpenK.KMake
import PyProof.InstStoreFacts
import PyProof.FString2
import PyProof.Rows.FStr
import PyProof.Rows.SetFrom
import PyProof.SeqRoads2
import PyProof.RangeFor
import PyProof.WalksMore
import PyProof.StrBlock2
import PyProof.Rows.SortShell
import PyProof.TupleOfSeq
import KE.KDictList
import KE.KDictOf
import PyProof.IsiH_tuple
import PyProof.Rows.RuleN_abs
import PyProof.Rows.Range3
import KE.KRevIter
import PyProof.StrLawsRepr
import PyProof.ReprStr
import PyProof.IsiH_list
import PyProof.Rows.TupDisplay
import PyProof.SetKind
import PyProof.SetScanFacts
import PyProof.CollectIter
import PyProof.Rows.SortStr
import PySem.Challenge.RW_chordbed_k73_whole_no_row_is_shorter
set_option compiler.extract_closed false
set_option genSizeOf false
set_option genInjectivity false
set_option Elab.async false
set_option linter.all false
set_option maxRecDepth 100000
abbrev ax:=@if_pos
abbrev a3:=@if_neg
abbrev a4:=@decide_eq_true
abbrev a5:=@decide_eq_false
abbrev a6:=@of_decide_eq_true
abbrev a7:=@absurd
abbrev bb:=@List
abbrev bg:=@Option
abbrev bt:=@PySem.Heap.get?_push_of_some
abbrev b3:=@PySem.Heap.lt_size
abbrev b4:=@PySem.Heap.get?_push_size
abbrev b5:=@PySem.Heap.get?_update_other
abbrev b7:=@PySem.Heap.get?_update_self
abbrev cc:=@PySem.Heap.size_push
abbrev ck:=@PySem.Heap.get?_none_of_le
abbrev cn:=@PySem.Obj.data_mapFields
abbrev cv:=@PySem.Obj.isFreed_of_fields
abbrev da:=@Ne.symm
abbrev dt:=@congrArg
abbrev dw:=@beq_self_eq_true
open Lean in
def cvP:Nat→TSyntax `term→MacroM (TSyntax `rcasesPat)
 |0,_=>Macro.throwUnsupported
 |n+1,t=>let f:=fun (a:Array Term)=>do
   let l←(←a.mapM (cvP n)).mapM fun p=>`(Lean.Parser.Tactic.rcasesPatLo|$p:rcasesPat)
   `(rcasesPat|⟨$l,*⟩)
  match t with
  |`(⟨$a,*⟩)=>f a
  |`(($a,$b,*))=>f (#[a]++b.getElems)
  |`($i:ident)=>`(rcasesPat|$i:ident)
  |`(_)=>`(rcasesPat|_)
  |_=>Macro.throwUnsupported
local macro_rules|`(tactic|let $d:letDecl)=>`(tactic|have $d:letDecl)
local macro_rules|`(tactic|let $p:term:=$e)=>if p.raw.isIdent then Lean.Macro.throwUnsupported else do let q←cvP 99 p;`(tactic|obtain $q:rcasesPat:=$e)
local macro_rules|`(tactic|left)=>`(tactic|decide+kernel)|`(tactic|change $e)=>`(tactic|with_reducible exact $e)|`(tactic|specialize $e)=>`(tactic|with_reducible refine $e)
local macro_rules|`(def $i:declId $s:optDeclSig $v:declVal)=>if v.raw[1].isOfKind ``Lean.Parser.Term.byTactic then `(theorem $i:declId $(⟨Lean.mkNode ``Lean.Parser.Command.declSig #[s.raw[0],s.raw[1][0]]⟩):declSig $v:declVal) else `(noncomputable def $i:declId $s:optDeclSig $v:declVal)|`(abbrev $i:declId $s:optDeclSig $v:declVal)=>`(noncomputable abbrev $i:declId $s:optDeclSig $v:declVal)
local macro_rules|`(tactic|ext)=>`(tactic|decide)
local macro_rules|`(tactic|ext)=>`(tactic|omega)
local macro_rules|`(tactic|ext)=>`(tactic|lia)
local macro_rules|`(tactic|show $e)=>`(tactic|refine $e)
local macro_rules|`(tactic|ext $i:ident)=>`(tactic|cases $i:ident)
local macro_rules|`(tactic|ext $i:ident)=>`(tactic|unfold $i:ident)
local macro_rules|`(#[$a,*])=>`(⟨$a,*⟩)|`(#v[$a,*])=>`(List.toArray [$a,*])
local macro_rules|`(())=>`(by ext)
open Option renaming some->cL,none->lD,bind_eq_some_iff->VI,isSome_iff_exists->Wm,isNone_iff_eq_none->Xh,isSome_map->X9,map_eq_some_iff->Yw,isSome_some->abI,toList_none->abK,getD_none->acd,getD_some->acf
open PySem.W renaming Frag->CL,nsIn->Vj,findIn->VH,emptyDict->Wb,fnOf->Wc,keepIn->Wn,mg_of->Ww,instObj->WG,isFn->WX,specialIn->Xr,cellsFrom_some->Xs,plainGet->Xz,excIn->XG,codeIn->XY,hasDictIn->X7,methodCall_KW->Yz,lookIn->YI,tailIn->YM,plainGet_of->YV,callWith_K->Y5,methodObj->Zg,plainOver->Zh,takerIn->ZE,makesIn->ZF,readsIn->ZH,findCls->ZI,nsOkIn->ZT,pyHash_slot->aa4,tail_of_in->abg,handedIn->abV,OpenLaw->acg,typeIn->acr,clsIn->ac1
open PySem renaming wpAny_bind->Ld,Value->UI,PyData->UM,Addr->UP,Shared->UQ,wpAny_pure->UR,sizeLine->UY,starEach->U7,mainGlobals->U9,Expr->Va,NameKind->Vb,Program->Vc,Around->Vq,World->Vw,bootBuiltins->VP,wpAny_field->VS,FuncData->VT,wpAny_newObj_type->V0,compareOp->V1,wpAny_seqItems->V7,wpAny_holding->Wj,wpAny_truthy_bool->Wk,binaryOp->Wu,mem_of_lookup->Wv,wpAny_callSpecial?_slot->Wx,Stmt->Wz,cellsFrom->WH,wpAny_call_entry->WI,sysModules->WJ,wpAny_Call_Name_kw->WK,Scope->WO,wpAny_standAt->WY,sizeLine_eq->W5,wpAny_setField_rec->W6,wpAny_passesOwn->Xb,swapsWith->Xe,plainId_quiet->Xf,wpAny_letGo->Xl,codeAny_builtin->Xw,wpAny_ite_split->Xx,DictEntry->XD,wpAny_getItem_str_slice->XF,wpAny_typeOf->XQ,wpAny_setField->XS,wpAny_loadPart_at->XT,ExcBaseFacts->XU,builtinLookup_eq_fast->XX,Comprehension->X1,codeAny_call_builtin->X3,wpAny_pyIter_list->Yc,call_meets->Ys,Keyword->YC,wpAny_isInstance->YW,ItemsOf->YX,BindsTo->Y2,wpAny_call->Y3,codeAny_mono->Y4,wpAny_rule->Y6,wpAny_execs_nil->Za,post_val_or_str->Zb,wpAny_specialOf->Zc,typeLookup_type->Zd,wpAny_updateSeq->Ze,wpAny_pyIter_tuple->Zi,GenState->Zt,Result->Zu,IsPart->Zv,ReadsAll->Zw,wpAny_updateSeq_pair->Zx,wpAny_tryCatch->Zy,wpAny_onRaise->ZM,typeIs_int->ZR,tupleKind_room_in1->ZS,ZipApart->Z6,wpAny_Call_ofName->Z7,eqIsQuiet_byValue->Z8,plainObj_wpAny_Assign_Attribute->aag,PassesOwn->aaq,CmpOp->aaF,wpAny_of_eq->aaH,Within->aaL,pushCells_keeps->aaM,Operator->aba,Code->abb,typeIs_str->abc,Reads->abe,IsZip->abf,wpAny_binaryOp_repeat_ref->abJ,wpAny_comprehension_free->abW,JoinOk->acu,wpAny_Assign_Subscript->acv,OsState->acw,wpAny_isTrue_Compare1->acX,Drawn->adb,wpAny_loadName_local->ade,wpAny_loadName_cell->adG,wpAny_isSubtype_exc->adI,wpAny_raiseNew_none->adJ,wpAny_Name->ad4,wpAny_Constant_int->ad5,wpAny_load->ad7,wpAny_getItem_heap->ad8,wpAny_setItem_heap->ad9,wpAny_assign_Name->aeK,wpAny_sequenceKey->aeL,slot_list_getitem->aeM,OwnTail->aeN,wpAny_pyHash_int->afg,wpAny_pyHash_str->afh,wpAny_execs_cons->afi,wpAny_lookBehind->afk,pastItsLine_dict->afl,noFill_tuple_add->afn,call->afp,wpAny_pyIter_zip->afq,beq_builtin_none->afs,wpAny_Compare1->ahw,wpAny_loadPart->ahy,refuseLoop_ref->ahF,isSubtype_type->ahG,callType_codes->ahH,intBits_le_64->ajD,seq_tuple_add->ajE,evalPart_none->ajF,call_list_seq->ajG,wpAny_attempt->ajH,wpAny_in_heap->ajI,strLen_append->ajJ,wpAny_newList->ajK
open Bool renaming and_eq_true->UH,true->UJ,false->UL,false_ne_true->Ve,or_eq_true->Wi,not_eq_true'->WM,and_self->WQ,false_eq_true->WZ,true_and->Yo,true_or->YE,false_and->Y0,false_or->Zj,and_true->Zk,noConfusion->ZN,or_false->aaG,not_true->aaJ,or_true->aa3,or_eq_false_iff->abL,eq_iff_iff->adg,bne_false->adK
open List renaming length_map->UK,getElem?_eq_some_iff->UO,length_append->US,mem_cons_self->UT,replicate->UW,mem_cons_of_mem->UX,getElem?_map->UZ,range->U0,getElem?_append_left->U1,size_toArray->U3,length_cons->U4,map_cons->U5,getElem?_eq_getElem->U6,mem_singleton->U8,mem_cons->Vh,mem_map->Vl,map_append->Vm,getElem?_append_right->Vn,mem_append->Vo,mem_append_right->Vp,mem_of_getElem?->Vr,length_range->Vs,append_assoc->Vy,lookup_cons->VD,isEmpty_iff->VF,find?_cons->VG,map_map->VJ,replicate_succ->VQ,append_nil->VR,mem_append_left->VU,getElem?_set_ne->VV,length_replicate->VY,getElem?_set->VZ,mem_range->V3,length_set->V5,pairwise_cons->V6,length_take->V8,all_eq_true->V9,not_mem_nil->Wa,getElem?_set_self->We,mem_filter->Wg,nodup_cons->Wh,mem_iff_getElem?->Wl,flatten_cons->Ws,drop_eq_nil_of_le->Wy,lookup->WL,getElem?_replicate->WT,pairwise_singleton->WU,length_nil->W2,length_drop->Xj,drop_eq_getElem_cons->Xk,any_cons->Xm,of_mem_zip->Xo,nodup_append->Xy,length_singleton->XI,length_filter_le->XJ,filter_cons->XN,all_cons->XW,map_congr_left->XZ,map_nil->X0,mem_filterMap->X6,mem_of_find?_eq_some->Yd,length->Yf,reverse_cons->Yg,pairwise_map->Yh,filterMap_cons_none->Yp,filterMap_cons_some->Yq,mem_flatMap->Yx,foldl->YD,take_of_length_le->YF,pairwise_lt_range->YG,foldl_cons->YJ,forIn_cons->YL,contains_iff_mem->YS,nodup_nil->Y1,filterMap_cons->Y9,length_reverse->Zf,map_replicate->Zq,mem_replicate->Zr,map_inj_right->Zs,any_eq_true->ZO,nil_append->Z3,forIn_nil->aai,getElem?_cons_succ->aaN,getElem?_cons_zero->aaO,filter_cons_of_pos->aaP,filter_cons_of_neg->aaQ,getElem?_eq_none->abi,pairwise_append->abM,set_cons_zero->ach,set_cons_succ->aci,take_add_one->acx,getElem?_inj->acy,getElem_mem->acY,zipIdx_cons->acZ,take_length->ac0,cons_append->ac2,zipIdx_nil->adh,headD_cons->adi,drop_zero->adH,filterMap->adN,take_nil->aea,Nodup->agt
open Nat renaming le_of_ble_eq_true->UN,le_refl->UU,lt_of_lt_of_le->Vf,ne_of_lt->Vg,zero_le->Vu,le_trans->Vv,ne_of_gt->VW,lt_irrefl->Wd,add_sub_cancel_left->Xu,lt_trans->XA,zero_add->XB,lt_succ_self->XO,le_succ->Yl,le_of_succ_le->Ym,lt_succ_of_lt->Yn,le_of_lt->YH,add_assoc->Zp,min_le_right->ZQ,mul_le_mul->aat,add_comm->abd,lt_of_le_of_lt->acs,min_eq_left->adL,not_lt_zero->adM,le_of_eq->afm,succ_mul->afo,sub_zero->afr,sub_self->aft,max_le->ahJ
open Option.some renaming inj->Vd
open PyProof.Rows renaming envOfC->Vx,slot_tuple_getitem->VX,callWith_type1->Wr,callWith_builtin1->agq,kws_cons->agr,kws_nil->ags
open Array renaming length_toList->VN,getElem?_eq_some_iff->Xd,getElem?_toList->XH,getElem?_setIfInBounds_ne->ZC,getElem?_eq_getElem->aak,toArray_toList->abh,find?_toList->abU,forIn_toList->abX,all_toList->acz,toList->ad6
open Int renaming toNat_natCast->V2,emod_lt_of_pos->W0,emod_nonneg->Xq,le_refl->Y7,ofNat->ZU,fdiv_eq_ediv_of_nonneg->aar,toNat->aa5,toNat_of_nonneg->ace
open PySem.F renaming excBase_ValueError->W7,slot_dict_getitem->Z4,args_tuple_add_2->Z5,slot_dict_values->Z9,slot_list_append->aaa,type_list_append->aab,entry_tuple_add->aah,plainAttrs_dict->aaj,slot_tuple_add->aas,slot_dict_pop->aaI
open List.Pairwise renaming nil->YK,filter->ZW,filterMap->afu
open List.Perm renaming refl->ZG,swap->alo
open PySem.Str renaming join->ZJ
open Int.ofNat renaming inj->ZV
open PySem.W.Looks renaming here->afj
open PySem.StrLaws renaming sliced_plain->afv,strSliceIndices_plain->afw,joinFits->afx,glued_eq_join->afy
open PySem.Within renaming cons->agp
open PySem.SeqAt renaming compareEq_reads->ahz,compareNe_reads->ahA,in_list_reads->ahB,in_tuple_reads->ahC,notIn_list_reads->ahD,notIn_tuple_reads->ahE,eqv_refl->ahK
open List.Nodup renaming sublist->ajL
open PySem.IsL renaming update->aln
open List.cons renaming injEq->alq
abbrev W:=@rfl
abbrev G:=@List
abbrev I:=@Option
open Option renaming some->M,none->P
open Bool renaming true->S,false->R
open PySem renaming Addr->J,Value->U
namespace L2
open PySem PySem.Spec PyProof.Rows
abbrev b9:=Sum Int Str
def rG:b9->U->Bool
 |.inl k,v=>UI.isInt k v
 |.inr x,v=>UI.isStrOf x v
def SZ(w:Vw):b9->Int
 |.inl k=>hashInt k
 |.inr x=>hashStr w x
theorem cy:∀{k:b9} {v:U},rG k v=S->(∃i t,k=Sum.inl i/\v=UI.int i t)\/(∃x t,k=Sum.inr x/\v=UI.str x t)
 |.inl i,v,h=>by let(t,e):=UI.isInt_shape h;show .inl #[i,t,W,e]
 |.inr x,v,h=>by let(t,e):=UI.isStrOf_shape h;show .inr #[x,t,W,e]
def AA(i:Int)(t:Tok):rG (.inl i) (.int i t)=S:=by simp[rG,UI.isInt]
def Ak(x:Str)(t:Tok):rG (.inr x) (.str x t)=S:=by simp[rG,UI.isStrOf]
def LV(a b:Int):decide ((Sum.inl a:b9)=Sum.inl b)=(a==b):=by
 by_cases e:a=b
 .subst e;simp
 .let h:¬(Sum.inl a:b9)=Sum.inl b:=λq=>e (Sum.inl.inj q);rw[a5 h];show(beq_eq_false_iff_ne.mpr e).symm
def N9(a b:Str):decide ((Sum.inr a:b9)=Sum.inr b)=decide (a=b):=by
 by_cases e:a=b
 .subst e;simp
 .let h:¬(Sum.inr a:b9)=Sum.inr b:=λq=>e (Sum.inr.inj q);rw[a5 h,a5 e]
theorem MY(a:Int)(b:Str):decide ((Sum.inl a:b9)=Sum.inr b)=R:=a5 (λq=>nomatch q)
theorem Mo(a:Str)(b:Int):decide ((Sum.inr a:b9)=Sum.inl b)=R:=a5 (λq=>nomatch q)
def cz(prog:Vc)(w:Vw):PySem.KeyKind prog w b9 where
 is:=rG
 hash:=SZ w
 inj:=λv a b m g=>by
  rcases cy m with⟨i,t,rfl,rfl⟩|⟨x,t,rfl,rfl⟩
  .rcases cy g with⟨j,u,rfl,e⟩|⟨y,u,rfl,e⟩
   .injection e with e1 _;rw[e1]
   .show nomatch e
  .rcases cy g with⟨j,u,rfl,e⟩|⟨y,u,rfl,e⟩
   .show nomatch e
   .injection e with e1 _;rw[e1]
 byValue:=λk v h=>by rcases cy h with⟨i,t,rfl,rfl⟩|⟨x,t,rfl,rfl⟩<;>rfl
 pyHash:=λf h=>by
  rcases cy f with⟨i,t,rfl,rfl⟩|⟨x,t,rfl,rfl⟩
  .show afg h
  .show afh h
 eqBool:=λl f h=>by
  rcases cy l with⟨i,t,rfl,rfl⟩|⟨x,t,rfl,rfl⟩
  .rcases cy f with⟨j,u,rfl,rfl⟩|⟨y,u,rfl,rfl⟩
   .rw[LV]at h;show wpAny_eqBool_int h
   .rw[MY]at h;show SeqAt.EqAt.int_str i t y u _ _ _ _ h
  .rcases cy f with⟨j,u,rfl,rfl⟩|⟨y,u,rfl,rfl⟩
   .rw[Mo]at h;show SeqAt.EqAt.str_int x t j u _ _ _ _ h
   .rw[N9]at h;show wpAny_eqBool_str h
 «strs»:=λk x t v h=>by
  rcases cy h with⟨i,u,rfl,e⟩|⟨y,u,rfl,e⟩
  .show nomatch e
  .injection e with e1 _
   subst e1;ext v<;>rfl
theorem wa(prog:Vc)(w:Vw)(i:Int)(t:Tok):(cz prog w).is (.inl i) (.int i t)=S:=AA i t
theorem vv(prog:Vc)(w:Vw)(x:Str)(t:Tok):(cz prog w).is (.inr x) (.str x t)=S:=Ak x t
inductive V where
 |W9|bl (b:Bool)|int (i:Int)|str (x:Str)|byt (b:Array UInt8)|flt (b:UInt64)|ref (a:J)|ty (n:String)
 deriving DecidableEq
def RelV:V->U->Prop
 |.W9,u=>u=UI.none
 |.bl b,u=>u=UI.bool b
 |.int i,u=>∃t,u=UI.int i t
 |.str x,u=>∃t,u=UI.str x t
 |.byt b,u=>∃t,u=UI.bytes b t
 |.flt b,u=>∃t,u=UI.float b t
 |.ref a,u=>u=UI.ref a
 |.ty n,u=>u=UI.type n
abbrev Vals:G V->G U->Prop:=Paired RelV
theorem Vals.length(r:Vals xs us):xs.length=us.length:=Paired.length r
theorem Vals.get:∀{xs:G V} {us:G U} {i:Nat} {x:V},Vals xs us->xs[i]?=M x->∃u,us[i]?=M u/\RelV x u
 |_,_,_,_,.nil,e=>by simp at e
 |_,_,0,_,.cons r _,e=>by simp at e;subst e;show#[_,W,r]
 |_,_,i+1,x,.cons _ t,e=>by let(u,b,a):=Vals.get t (by simpa using e);show#[u,by simpa using b,a]
theorem Vals.append:∀{xs a:G V} {us ws:G U},Vals xs us->Vals a ws->Vals (xs++a) (us++ws)
 |_,_,_,_,.nil,s=>s
 |_,_,_,_,.cons r t,s=>.cons r (Vals.append t s)
theorem Vals.take:∀{xs:G V} {us:G U} (n:Nat),Vals xs us->Vals (xs.take n) (us.take n)
 |_,_,0,_=>.nil
 |_,_,_+1,.nil=>.nil
 |_,_,n+1,.cons r t=>.cons r (Vals.take n t)
theorem Vals.drop:∀{xs:G V} {us:G U} (n:Nat),Vals xs us->Vals (xs.drop n) (us.drop n)
 |_,_,0,r=>r
 |_,_,_+1,.nil=>.nil
 |_,_,n+1,.cons _ t=>Vals.drop n t
def Yi:I V->I U->Prop
 |some v,M u=>RelV v u
 |none,P=>True
 |_,_=>False
def KV:G (o×V)->G (o×U)->Prop:=Paired λ(p:o×V) (q:o×U)=>p.1=q.1/\RelV p.2 q.2
def kV:b9->V
 |.inl i=>.int i
 |.inr x=>.str x
inductive HO where
 |lst (xs:G V)
 |tup (xs:G V)
 |dK (Vi:G (b9×V))|dT (Vi:G (G b9×V))
 |set (S:Int->Bool) (n:Nat)
 |ins (C dx:J) (fs:G (Str×V))
 |own (x:J)
 |xd (fs:G (Str×V))
 |met (f x:J)
 |rng (lo hi:Int)
 |frz (o:Obj) (u:HO)
 |tbl (ps:Array U)
 |ext (φ:Heap->Prop)
 |exw (φ:Vw->Heap->Prop)
abbrev Hp:=J->I HO
def aW(H:Hp)(a:J)(o:HO):Hp:=λb=>if b=a then M o else H b
def aC:aW H a o a=M o:=by ext aW;rw[ax W]
def au(h:b≠a):aW H a o b=H b:=by ext aW;rw[a3 h]
def QH{H:Hp}{a b:J}{o u:HO}(h:H a=M o)(c:H b=M u)(d:o≠u):a≠b:=by intro e;subst e;rw[h]at c;show d (Vd c)
def bB{H:Hp}(h:H a=M o)(c:H b=P):a≠b:=by intro e;subst e;rw[h]at c;ext c
def ZK(h:Heap)(a:J)(items:Array U):Prop:=∃o,h.get? a=M o/\(o.cls=.type "tuple"/\∃n,o.data=.seq items n)/\o.dict=P
theorem ZK.tup(x:ZK h a items):IsTup h a items:=let#[o,e,c,_]:=x;#[o,e,c]
theorem ZK.lt(x:ZK h a items):a<h.objs.size:=let#[_,e,_]:=x;b3 e
theorem ZK.new(h:Heap)(xs:Array U):ZK (h.push {cls:=.type "tuple",data:=.seq xs}) h.objs.size xs:=#[_,b4 _ W,#[W,_,W],W]
section
variable(P:Vc)(w:Vw)
def ObjOk(H:Hp)(h:Heap)(a:J):HO->Prop
 |.lst xs=>xs.length<=UY/\∃(b:G U) (n:Nat),Vals xs b/\h.get? a=M {cls:=.type "list",data:=.seq b.toArray n}
 |.tup xs=>xs.length<=UY/\∃b:G U,Vals xs b/\ZK h a b.toArray
 |.dK l=>l.length<=UY/\(a==WJ)=R/\∃r,KV l r/\h.DictOf (cz P w) a r
 |.dT l=>l.length<=UY/\(a==WJ)=R/\∃xs:G (G b9×J×U),
   Paired (λ(p:G b9×V) (q:G b9×J×U)=>p.1=q.1/\H q.2.1=M (.tup (p.1.map kV))/\RelV p.2 q.2.2) l xs/\
   ∃o es B,h.get? a=M o/\o.ExactDict/\o.data=.dict es B/\es.toList=xs.map (entryOfKey (tupleKind (cz P w)))/\(xs.map (·.1)).Nodup
 |.set e n=>h.SetOf (intKind P w) a e n
 |.ins C m fs=>H m=M (.own a)/\fs.length<=1000/\m≠a/\h.get? a=M (WG C m)/\
   ∃i,h.Ns1 m i/\(∀f,Yi (fs.lookup f) (i f))/\aaL i (fs.map (·.1))
 |.own _=>∃o,h.get? a=M o
 |.xd fs=>∃i,h.Ns1 a i/\∀f,Yi (fs.lookup f) (i f)
 |.rng lo A=>∃t u v,h.get? a=M {cls:=.type "range",data:=.fields #v[.int lo t,.int A u,.int 1 v]}
 |.frz o u=>h.get? a=M o/\ObjOk H h a u
 |.tbl y=>h.get? a=M {cls:=.none,data:=.fields y}
 |.met f x=>h.get? a=M (Zg (.ref f) (.ref x))
 |.ext g=>g h/\(∃o,h.get? a=M o)/\∀h1 j:Heap,g h1->(∀o,h1.get? a=M o->j.get? a=M o)->g j
 |.exw g=>g w h/\(∃o,h.get? a=M o)/\∀h1 j:Heap,g w h1->(∀o,h1.get? a=M o->j.get? a=M o)->g w j
def YT(H:Hp)(h:Heap):Prop:=∀a o,H a=M o->ObjOk P w H h a o
end
section
variable{P:Vc}{w:Vw}{H Z:Hp}{h h':Heap}{a:UP}{o:HO}
def ObjOk.lt(x:ObjOk P w H h a o):a<h.objs.size:=by
 cases o with
 |lst xs=>let(_,_,_,_,e):=x;show b3 e
 |tup xs=>let(_,_,_,p):=x;show p.lt
 |dK i=>let(_,_,_,_,o,_,_,e,_):=x;show b3 e
 |dT i=>let(_,_,_,_,o,_,_,e,_):=x;show b3 e
 |set S n=>let(o,_,_,_,e,_):=x;show b3 e
 |ins C m fs=>let(_,_,_,e,_):=x;show b3 e
 |own y=>let(_,e):=x;show b3 e
 |xd fs=>let(_,(_,_,_,e,_),_):=x;show b3 e
 |rng lo l=>let(_,_,_,e):=x;show b3 e
 |frz b u=>let(e,_):=x;show b3 e
 |tbl j=>show b3 (show h.get? a=M _ from x)
 |met f y=>show b3 (show h.get? a=M _ from x)
 |ext g=>let(_,(_,e),_):=x;show b3 e
 |exw g=>let(_,(_,e),_):=x;show b3 e
theorem Paired.Yb:∀{d:bb α} {c:bb β},Paired F d c->(∀a b,F a b->e a b)->Paired e d c
 |_,_,.nil,_=>.nil
 |_,_,.cons r t,f=>.cons (f _ _ r) (Paired.Yb t f)
def ObjOk.YY(x:ObjOk P w H h a o)(k:∀b u,(b=a\/H b=M (.own a))->h.get? b=M u->h'.get? b=M u)
  (F:∀b,H b=M (.own a)->Z b=M (.own a)) (E:∀b xs,H b=M (.tup xs)->Z b=M (.tup xs)):ObjOk P w Z h' a o:=by
 induction o with
 |lst xs=>let(z,A,n,r,e):=x;show#[z,A,n,r,k _ _ (.inl W) e]
 |tup xs=>let(z,A,r,g,e,c):=x;show#[z,A,r,g,k _ _ (.inl W) e,c]
 |dK O=>let(z,y,N,r,g,es,i,e,c):=x;show#[z,y,N,r,g,es,i,k _ _ (.inl W) e,c]
 |dT O=>let(z,y,xs,r,g,es,i,e,c):=x;show#[z,y,xs,Paired.Yb r λp q z=>#[z.1,E _ _ z.2.1,z.2.2],g,es,i,k _ _ (.inl W) e,c]
 |set S n=>let(g,es,i,t,e,c):=x;show#[g,es,i,t,k _ _ (.inl W) e,c]
 |ins C T fs=>let(d,z,ne,e,m,(l,es,i,e2,c),r):=x;show#[F _ d,z,ne,k _ _ (.inl W) e,m,#[l,es,i,k _ _ (.inr d) e2,c],r]
 |own y=>let(g,e):=x;show#[g,k _ _ (.inl W) e]
 |xd fs=>let(m,(l,es,i,e,c),r):=x;show#[m,#[l,es,i,k _ _ (.inl W) e,c],r]
 |rng lo Q=>let(t,u,v,e):=x;show#[t,u,v,k _ _ (.inl W) e]
 |frz g u B=>let(e,q):=x;show#[k _ _ (.inl W) e,B q]
 |tbl K=>let e:h.get? a=M {cls:=.none,data:=.fields K}:=x;show h'.get? a=M {cls:=.none,data:=.fields K};show k a _ (.inl W) e
 |met f y=>let e:h.get? a=M (Zg (.ref f) (.ref y)):=x;show h'.get? a=M (Zg (.ref f) (.ref y));show k a _ (.inl W) e
 |ext L=>let(p,(o,e),j):=x;show#[j _ _ p λo q=>k _ _ (.inl W) q,#[o,k _ _ (.inl W) e],j]
 |exw L=>let(p,(o,e),j):=x;show#[j _ _ p λo q=>k _ _ (.inl W) q,#[o,k _ _ (.inl W) e],j]
theorem YT.lt(x:YT P w H h)(e:H a=M o):a<h.objs.size:=(x a o e).lt
def YT.fresh(x:YT P w H h)(e:h.objs.size<=a):H a=lD:=by
 cases q:H a with
 |none=>rfl
 |some u=>show a7 (Vf (x.lt q) e) (Wd _)
theorem YT.kept(x:YT P w H h)(k:∀b u,h.get? b=M u->h'.get? b=M u):YT P w H h':=λa o e=>
 (x a o e).YY (λb u _ q=>k b u q) (λ_ q=>q) λ_ _ q=>q
theorem YT.laid(x:YT P w H h)(k:∀b u,h.get? b=M u->h'.get? b=M u)(g:h.objs.size<=a)(new:ObjOk P w (aW H a o) h' a o):YT P w (aW H a o) h':=λb u e=>by
 let i:=x.fresh g;by_cases f:b=a
 .subst f;rw[aC]at e;ext e;show new
 .rw[au f]at e;show(x b u e).YY (λc v _ q=>k c v q) (λc q=>by rw[au (bB q i)];show q) λc xs q=>by rw[au (bB q i)];show q
end
def Rd(H:Hp)(a:J)(u:HO):Prop:=H a=M u\/∃o,H a=M (.frz o u)
def Rd.ok(r:Rd H a u)(x:YT b w H h):ObjOk b w H h a u:=by
 rcases r with r|⟨o,r⟩
 .show x a u r
 .let(_,q):=x a _ r;show q
def QG:I HO->Prop
 |some (.lst _)=>True
 |some (.dK _)=>True
 |some (.dT _)=>True
 |some (.set _ _)=>True
 |some (.ins _ _ _)=>True
 |some (.ext _)=>True
 |some (.exw _)=>True
 |_=>False
section
variable{P:Vc}{w:Vw}{H:Hp}{h h':Heap}{x e:UP}{Z:HO}
theorem YT.write(ok:YT P w H h)(g:QG (H x))(o:e=x\/H e=M (.own x))(k:∀b u,b≠e->h.get? b=M u->h'.get? b=M u)(l:∃u,h'.get? e=M u)
  (new:ObjOk P w (aW H x Z) h' x Z):YT P w (aW H x Z) h':=λb u q=>by
 let f:∀c y,H c=M (.own y)->c≠x:=λc y r z=>by subst z;rw[r]at g;show g
 let m:∀c xs,H c=M (.tup xs)->c≠x:=λc xs r z=>by subst z;rw[r]at g;show g
 by_cases j:b=x
 .subst j;rw[aC]at q;ext q;show new
 .rw[au j]at q
  by_cases a:b=e
  .let n:H b=M (.own x):=by
    rcases o with z|z
    .show a7 (a.trans z) j
    .rw[a];show z
   rw[q]at n;ext n;let(v,p):=l;show#[v,by rw[a];show p]
  .show(ok b u q).YY (λc v i r=>k c v ?_ r) (λc r=>by rw[au (f c b r)];show r) λc xs r=>by rw[au (m c xs r)];show r
   rcases i with rfl|i
   .show a
   .rintro rfl
    rcases o with z|z
    .show f c b i z
    .rw[i]at z;ext z;show j W
end
structure Un(fs ex:G J)(H H':Hp)(h h':Heap):Prop where
 keep:∀b o,h.get? b=M o->H b=P->b∉fs->b∉ex->h'.get? b=M o
 slot:∀b o,h.get? b=M o->H b=P->b∈fs->b∉ex->∃sl,h'.get? b=M {o with slots:=sl}
 free:∀b o,h.get? b=M o->H b=P->b∉ex->H' b=P
 there:∀b o,h.get? b=M o->b∉ex->∃o',h'.get? b=M o'
 aad:∀b xs,H b=M (.tup xs)->H' b=M (.tup xs)
 ZY:∀b o u,H b=M (.frz o u)->H' b=M (.frz o u)
 aaf:∀b ps,H b=M (.tbl ps)->∃more,H' b=M (.tbl (ps++more))
section
variable{fs X Z T:bb UP}{H Q O:Hp}{h Y N h':Heap}{a x e:UP}{o:HO}
def Un.any(u:Un fs Z H Q h Y)(q:h.get? b=M ob)(n:H b=P)(f:b∉Z):∃c,Y.get? b=M {ob with slots:=c}:=by
 by_cases g:b∈fs
 .show u.slot b ob q n g f
 .show#[ob.slots,u.keep b ob q n g f]
theorem Un.kept(k:∀b u,h.get? b=M u->h'.get? b=M u):Un fs Z H H h h':=
 #[λb f q _ _ _=>k b f q,λb f q _ _ _=>#[f.slots,k b f q],λ_ _ _ n _=>n,λb f q _=>#[f,k b f q],λ_ _ q=>q,λ_ _ _ q=>q,λ_ g q=>#[#v[],by rw[q];simp]]
theorem Un.refl:Un fs Z H H h h:=Un.kept λ_ _ q=>q
theorem Un.laid(k:∀b u,h.get? b=M u->h'.get? b=M u)(f:h.objs.size<=a)(c:H a=P):Un fs Z H (aW H a o) h h' where
 keep:=λb u q _ _ _=>k b u q
 slot:=λb u q _ _ _=>#[u.slots,k b u q]
 free:=λb u q n _=>by rw[au (Vg (Vf (b3 q) f))];show n
 there:=λb u q _=>#[u,k b u q]
 aad:=λb xs q=>by rw[au (bB q c)];show q
 ZY:=λb u xs q=>by rw[au (bB q c)];show q
 aaf:=λb g q=>#[#v[],by rw[au (bB q c),q];simp]
def Un.write(g:QG (H x))(p:e=x\/H e=M (.own x))(k:∀b u,b≠e->h.get? b=M u->h'.get? b=M u)(i:∃u,h'.get? e=M u):Un fs Z H (aW H x o) h h':=by
 let j:∀b,H b=P->b≠x:=λb n z=>by subst z;rw[n]at g;show g
 let l:∀b,H b=P->b≠e:=λb n z=>by
  subst z;rcases p with r|r
  .show j b n r
  .rw[n]at r;ext r
 let hm:∀b u,H b=M u->¬QG (M u)->b≠x:=λb u q m z=>by subst z;rw[q]at g;show m g
 show#[λb u q n _ _=>k b u (l b n) q,λb u q n _ _=>#[u.slots,k b u (l b n) q],λb u q n _=>by rw[au (j b n)];show n,λb u q _=>?_,
  λb xs q=>by rw[au (hm b _ q λz=>z)];show q,λb u xs q=>by rw[au (hm b _ q λz=>z)];show q,λb t q=>#[#v[],by rw[au (hm b _ q λz=>z),q];simp]]
 by_cases f:b=e
 .subst f;show i
 .show#[u,k b u f q]
end
def Su(h:Heap)(H:Hp):G J:=(U0 h.objs.size).filter λa=>(H a).isSome
def sC(h:Heap)(H:Hp):Heap:=PySem.W.hideAll h (Su h H)
theorem Bw(h:Heap)(H:Hp):(sC h H).objs.size=h.objs.size:=PySem.W.hideAll_size _ _
theorem Ey(e:h.get? b=M o)(n:H b=P):(sC h H).get? b=M o:=
 PySem.W.hideAll_get _ e λhm=>by let q:=(Wg.mp hm).2;rw[n]at q;simp at q
def Hd(e:(sC h H).get? b=M o):h.get? b=M o/\H b=P:=by
 let a:=PySem.W.of_hideAll (Su h H) e;show#[a,?_];cases q:H b with
 |none=>rfl
 |some x=>let hm:b∈Su h H:=Wg.mpr #[V3.mpr (b3 a),by simp[q]];let z:(sC h H).get? b=P:=PySem.W.hideAll_none (Su h H) hm;rw[z]at e;ext e
structure Mod(K:CL)(mg:Str->I U)(base:Heap):Prop where
 kin:K.In base
 glob:base.Ns U9 mg
 blt:∃mb,base.Ns builtinsNs mb/\∀x:Str,x≠ "__name__"->mb x=VP x
 nolimit:base.NoLimit
structure Cx where
 prog:Vc
 w:Vw
 K:CL
 mg:Str->I U
 base:Heap
 A:Vq
 N:G Str
 s₀:UQ
 H₀:Hp
 env:Env
 outer:G Env
 stack:G Env
 ex:G J
 fn:Str->Bool
 calm:Bool
 pn:G (J×Obj)
 xe:U->UQ->Prop
def xK(l:G Env):G J:=l.filterMap (·.frame)
abbrev Cx.fs(X:Cx):G J:=xK X.outer
def Qg(sc:WO)(x:Str):Prop:=sc.names.lookup x=M .local\/sc.names.lookup x=M .cell\/sc.names.lookup x=M .free
def NX(sc:WO)(x:Str):Prop:=sc.names.lookup x=M .local\/sc.names.lookup x=M .cell
def SQ(env:Env)(h:Heap)(m:Str->I U)(x:Str)(u:U):Prop:=
 (env.kindOf x=M .local/\m x=M u)\/((env.kindOf x=M .cell\/env.kindOf x=M .free)/\∃c,env.cells.lookup x=M c/\h.IsCell c (M u))
structure Cx.Ok(X:Cx):Prop where
 mod:Mod X.K X.mg X.base
 kind:X.env.scope.kind=.function
 glob:X.env.globals=U9
 blt:X.env.builtins=builtinsNs
 above:X.s₀.heap.objs.size<=X.env.locals
 inj:∀x y c,X.env.cells.lookup x=M c->X.env.cells.lookup y=M c->x=y
 has:∀x,(X.env.kindOf x=M .cell\/X.env.kindOf x=M .free)->∃c,X.env.cells.lookup x=M c
 cab:∀x c,X.fn x=S->X.env.cells.lookup x=M c->X.s₀.heap.objs.size<=c
 hd:X.calm=S->X.A.handled=P
 frames:X.A.frames=M X.stack
 stk:X.stack=X.outer\/(X.stack=X.env::X.outer/\X.env.frame=M X.env.locals)
 exf:∀b∈X.ex,b≠X.env.locals/\∀x c,X.env.cells.lookup x=M c->c≠b
 bs:∀b o,X.base.get? b=M o->X.s₀.heap.get? b=M o/\X.H₀ b=P
 bsz:X.base.objs.size<=X.s₀.heap.objs.size
 aca:∀b o,X.base.get? b=M o->b∉X.ex
 abY:∀b∈X.ex,b∉X.fs
 Zz:X.s₀.heap.FunFrames X.base X.outer
 frf:∀b∈X.fs,X.H₀ b=P
structure Inv(X:Cx)(pins:G (J×Obj))(σ:G (I V))(H:Hp)(s:UQ):Prop where
 ok:X.Ok
 os:s.os=X.s₀.os
 bare:AllBare s.gens
 base:Un X.fs X.ex X.H₀ H X.s₀.heap s.heap
 loc:∃m,s.heap.Ns X.env.locals m/\∀(i:Nat) (x:Str) (v:V),X.N[i]?=M x->σ[i]?=M (M v)->Qg X.env.scope x->∃u,RelV v u/\SQ X.env s.heap m x u
 cell:∀x c,X.env.cells.lookup x=M c->∃v,s.heap.IsCell c v
 free:H X.env.locals=P
 YQ:∀x c,X.env.cells.lookup x=M c->H c=P
 pin:∀p∈X.pn++pins,s.heap.get? p.1=M p.2/\H p.1=P/\p.1≠X.env.locals/\p.1∉X.fs/\∀v,p.2.data≠.cell v
 V4:YT X.prog X.w H s.heap
 len:σ.length=X.N.length
section
variable{X:Cx}{Z:bb (UP×Obj)}{Y:bb (bg V)}{H H':Hp}{s:UQ}{h':Heap}
theorem Cx.Ok.ajq(ok:X.Ok)(e:X.base.get? b=M o):b∉X.fs:=λa=>by let:=(ok.Zz.mem a).1;rw[e]at this;ext this
theorem Inv.bs(I:Inv X Z Y H s):∀b o,X.base.get? b=M o->s.heap.get? b=M o/\H b=P:=λb o e=>
 #[I.base.keep b o (I.ok.bs b o e).1 (I.ok.bs b o e).2 (I.ok.ajq e) (I.ok.aca b o e),I.base.free b o (I.ok.bs b o e).1 (I.ok.bs b o e).2 (I.ok.aca b o e)]
theorem Inv.bk(I:Inv X Z Y H s):∀b o,X.base.get? b=M o->s.heap.get? b=M o:=λb o e=>(I.bs b o e).1
theorem Inv.mod(I:Inv X Z Y H s):Mod X.K X.mg X.base:=I.ok.mod
theorem Inv.ZX(I:Inv X Z Y H s):X.K.In s.heap:=I.ok.mod.kin.keeps I.bk
theorem Inv.lt(I:Inv X Z Y H s):X.env.locals<s.heap.objs.size:=let#[_,a,_]:=I.loc;a.lt
theorem Inv.sz(I:Inv X Z Y H s):X.s₀.heap.objs.size<=s.heap.objs.size:=Vv I.ok.above (YH I.lt)
theorem Inv.ajl(I:Inv X Z Y H s)(h:s.heap.objs.size<=a):a∉X.fs:=λe=>by let(_,o,b,_):=I.ok.Zz.mem e;show a7 (Vf (b3 b) (Vv I.sz h)) (Wd _)
theorem Inv.cne(I:Inv X Z Y H s):∀x c,X.env.cells.lookup x=M c->c≠X.env.locals:=λx c e z=>by let(v,o,f,g):=I.cell x c e;let(m,(h,es,i,a,b,_),_):=I.loc;rw[z,a]at f;ext f;rw[b]at g;ext g
def Inv.Zz(I:Inv X Z Y H s):s.heap.FunFrames X.base X.outer:=by
 let all:∀(l:G Env),(∀b∈xK l,b∈X.fs)->X.s₀.heap.FunFrames X.base l->s.heap.FunFrames X.base l:=by
  intro l
  induction l with
  |nil=>intro _ _;trivial
  |cons t r i=>intro h n;let(p,(L,o,a,v,m,q),j):=n;let g:=h L (by ext xK;rw[Y9,a];show UT);let(u,e):=I.base.slot L o m (I.ok.frf L g) g λz=>I.ok.abY L z g;show#[p,#[L,_,a,v,e,q],i (λb f=>h b (by ext xK;rw[Y9,a];show UX _ f)) j]
 show all X.outer (λ_ f=>f) I.ok.Zz
def Inv.stack(I:Inv X Z Y H s):s.heap.FunFrames X.base X.stack:=by
 rcases I.ok.stk with e|⟨e,hf⟩
 .rw[e];show I.Zz
 .rw[e];let(m,a,_):=I.loc;show .cons (by rw[I.ok.kind];decide) hf a ?_ I.Zz;show ck (Vv I.ok.bsz I.ok.above)
theorem Inv.aaE(I:Inv X Z Y H s):∀b∈xK X.stack,b∈X.env.locals::X.fs:=λb a=>by
 rcases I.ok.stk with e|⟨e,hf⟩
 .rw[e]at a;show UX _ a
 .rw[e]at a;unfold xK at a;rw[Y9,hf]at a;show a
theorem Inv.aax(I:Inv X Z Y H s):∀b∈xK X.stack,H b=P:=λb a=>by
 rcases Vh.mp (I.aaE b a)with e|a
 .rw[e];show I.free
 .let(_,o,f,_):=I.ok.Zz.mem a;show I.base.free b o f (I.ok.frf b a) λz=>I.ok.abY b z a
def Inv.step{g':Array Zt}{t':Nat}{d':adb}{ch:bb UP}(I:Inv X Z Y H s)
  (g:∀b∈ch,(b∈X.ex\/X.s₀.heap.objs.size<=b)/\b≠X.env.locals/\(∀x c,X.env.cells.lookup x=cL c->c≠b)/\∀p∈X.pn++Z,p.1≠b)
  (keep:∀b o,b≠X.env.locals->b∉X.fs->b∉ch->s.heap.get? b=cL o->H b=P->h'.get? b=cL o)
  (slot:∀b o,b≠X.env.locals->b∈X.fs->b∉ch->s.heap.get? b=cL o->H b=P->∃O,h'.get? b=cL {o with slots:=O}) (free:∀b o,b∉ch->s.heap.get? b=cL o->H b=P->H' b=P)
  (there:∀b o,b∉ch->s.heap.get? b=cL o->∃w,h'.get? b=cL w)
  (T:∀b xs,H b=cL (.tup xs)->H' b=cL (.tup xs)) (ZY:∀b o u,H b=cL (.frz o u)->H' b=cL (.frz o u)) (Q:∀b D,H b=cL (.tbl D)->∃more,H' b=cL (.tbl (D++more)))
  (J:∀m,s.heap.Ns X.env.locals m->h'.Ns X.env.locals m) (V4:YT X.prog X.w H' h') (N:AllBare g'):
  Inv X Z Y H' {s with heap:=h',gens:=g',drawn:=d',toks:=t'}:=by
 let A:∀b o,X.s₀.heap.get? b=cL o->b≠X.env.locals:=λb o e=>Vg (Vf (b3 e) I.ok.above);let j:∀b o,X.s₀.heap.get? b=cL o->b∉X.ex->b∉ch:=λb o e a t=>by
  rcases(g b t).1 with z|z
  .show a z
  .show a7 (Vf (b3 e) z) (Wd _)
 let h:∀x c,X.env.cells.lookup x=cL c->∀v,s.heap.IsCell c v->h'.IsCell c v:=λx c e v #[o,y,C]=>by
  let f:c∉ch:=λz=>(g c z).2.2.1 x c e W;by_cases G:c∈X.fs
  .let(O,q):=slot c o (I.cne x c e) G f y (I.YQ x c e);show#[_,q,C]
  .show#[o,keep c o (I.cne x c e) G f y (I.YQ x c e),C]
 show#[I.ok,I.os,N,#[λb o e n t a=>?_,λb o e n t a=>?_,λb o e n a=>?_,λb o e a=>?_,λb xs e=>T b xs (I.base.aad b xs e),λb o xs e=>ZY b o xs (I.base.ZY b o xs e),λb D e=>?_],?_,λx c e=>?_,?_,λx c e=>?_,λp F=>?_,V4,I.len]
 .show keep b o (A b o e) t (j b o e a) (I.base.keep b o e n t a) (I.base.free b o e n a)
 .let(O,e1):=I.base.slot b o e n t a;let(B,e2):=slot b _ (A b o e) t (j b o e a) e1 (I.base.free b o e n a);show#[B,e2]
 .let(w,e1):=I.base.there b o e a;show free b w (j b o e a) e1 (I.base.free b o e n a)
 .let(w,e1):=I.base.there b o e a;show there b w (j b o e a) e1
 .let(L,e1):=I.base.aaf b D e;let(K,e2):=Q b _ e1;show#[L++K,by rw[e2,Array.append_assoc]]
 .let(m,hn,M):=I.loc
  show#[m,J m hn,λi x v e1 e2 e3=>?_];let(u,r,l):=M i x v e1 e2 e3;show#[u,r,?_];rcases l with l|⟨k,c,e,z⟩
  .show .inl l
  .show .inr #[k,c,e,h x c e _ z]
 .let(v,z):=I.cell x c e;show#[v,h x c e v z]
 .let(m,(o,_,_,y,_),_):=I.loc;show free _ o (λz=>(g _ z).2.1 W) y I.free
 .let(v,o,y,C):=I.cell x c e;show free c o (λz=>(g c z).2.2.1 x c e W) y (I.YQ x c e)
 .let(e,n,ne,E,d):=I.pin p F;let f:p.1∉ch:=λz=>(g p.1 z).2.2.2 p F W;show#[keep p.1 p.2 ne E f e n,free p.1 p.2 f e n,ne,E,d]
def Inv.un{t':Nat}(I:Inv X Z Y H s)(u:Un X.fs [] H H' s.heap h')(V4:YT X.prog X.w H' h'):Inv X Z Y H' {s with heap:=h',toks:=t'}:=by let(m,(o,es,v,i,r),_):=id I.loc;let(p,l):=u.any i I.free (by simp);show I.step (g':=s.gens) (d':=s.drawn) (ch:=[]) (λ_ z=>nomatch z) (λb o _ f _ e n=>u.keep b o e n f (by simp)) (λb o _ f _ e n=>u.slot b o e n f (by simp)) (λb o _ e n=>u.free b o e n (by simp)) (λb o _ e=>u.there b o e (by simp)) u.aad u.ZY u.aaf (λt hm=>by let(q,g,h,a,j):=hm;rw[i]at a;ext a;show#[_,g,h,l,j]) V4 I.bare
def Inv.call{g':Array Zt}{t':Nat}{d':adb}{ch:G J}(I:Inv X Z Y H s)(u:Un (xK X.stack) ch H H' s.heap h')(V4:YT X.prog X.w H' h')(t:AllBare g')
  (g:∀b∈ch,(b∈X.ex\/X.s₀.heap.objs.size<=b)/\b≠X.env.locals/\(∀x c,X.env.cells.lookup x=M c->c≠b)/\∀p∈X.pn++Z,p.1≠b):
  Inv X Z Y H' {s with heap:=h',gens:=g',drawn:=d',toks:=t'}:=by
 let(m,(o,es,C,l,r),_):=id I.loc;let(y,h):=u.any l I.free λz=>(g _ z).2.1 W;show I.step (ch:=ch) g (λb o h v a e n=>u.keep b o e n (λz=>(Vh.mp (I.aaE b z)).elim h v) a) (λb o _ _ a e n=>u.any e n a) (λb o a e n=>u.free b o e n a) (λb o a e=>u.there b o e a) u.aad u.ZY u.aaf (λB hm=>by let(A,i,j,f,q):=hm;rw[l]at f;ext f;show#[_,i,j,h,q]) V4 t
def Inv.turned{t':Nat}{it:J}(I:Inv X Z Y H s)(k:∀b o,b≠it->s.heap.get? b=M o->h'.get? b=M o)(d:H it=P)(g:it≠X.env.locals)
  (t:it∈X.ex\/X.s₀.heap.objs.size<=it) (l:∀x c,X.env.cells.lookup x=M c->c≠it) (j:∀p∈X.pn++Z,p.1≠it):Inv X Z Y H {s with heap:=h',toks:=t'}:=by
 let f:∀b u,H b=M u->b≠it:=λb u e z=>by rw[z,d]at e;ext e
 show I.step (g':=s.gens) (d':=s.drawn) (ch:=[it]) (λb i=>?_) (λb o _ _ a e _=>k b o (λz=>a (by simp[z])) e) (λb o _ _ a e _=>#[o.slots,k b o (λz=>a (by simp[z])) e]) (λ_ _ _ _ n=>n)
  (λb o a e=>#[o,k b o (λz=>a (by simp[z])) e]) (λ_ _ e=>e) (λ_ _ _ e=>e) (λb y e=>#[#v[],by rw[e];simp]) (λm hm=>?_) (λb u e=>?_) I.bare
 .let e:b=it:=by simpa using i
  subst e;show#[t,g,l,j]
 .let(o,es,w,h,r):=hm;show#[o,es,w,k _ o (da g) h,r]
 .show(I.V4 b u e).YY (λc v a q=>k c v ?_ q) (λ_ q=>q) λ_ _ q=>q
  rcases a with z|z
  .rw[z];show f b u e
  .show f c _ z
theorem Inv.tok(I:Inv X Z Y H s)(t:Nat):Inv X Z Y H {s with toks:=t}:=I.un Un.refl I.V4
theorem Inv.kept{t':Nat}(I:Inv X Z Y H s)(k:∀b u,s.heap.get? b=M u->h'.get? b=M u):Inv X Z Y H {s with heap:=h',toks:=t'}:=I.un (Un.kept k) (I.V4.kept k)
theorem Inv.laid{a:J}{o:HO}{t':Nat}(I:Inv X Z Y H s)(k:∀b u,s.heap.get? b=M u->h'.get? b=M u)(e:s.heap.objs.size<=a)(new:ObjOk X.prog X.w (aW H a o) h' a o):
  Inv X Z Y (aW H a o) {s with heap:=h',toks:=t'}:=I.un (Un.laid k e (I.V4.fresh e)) (I.V4.laid k e new)
theorem Inv.write{x e:J}{o:HO}{t':Nat}(I:Inv X Z Y H s)(f:QG (H x))(g:e=x\/H e=M (.own x))(k:∀b u,b≠e->s.heap.get? b=M u->h'.get? b=M u)(a:∃u,h'.get? e=M u)
  (new:ObjOk X.prog X.w (aW H x o) h' x o):Inv X Z Y (aW H x o) {s with heap:=h',toks:=t'}:=I.un (Un.write f g k a) (I.V4.write f g k a new)
theorem Inv.abO(I:Inv X Z Y H s)(h:∀p∈af4,s.heap.get? p.1=M p.2/\H p.1=P/\p.1≠X.env.locals/\p.1∉X.fs/\∀v,p.2.data≠.cell v):Inv X af4 Y H s:=
 #[I.ok,I.os,I.bare,I.base,I.loc,I.cell,I.free,I.YQ,λp a=>(Vo.mp a).elim (λz=>I.pin p (VU _ z)) (h p),I.V4,I.len]
def vS{N:G Str}(e:N.Nodup){i j:Nat}(a:N[i]?=M x)(b:N[j]?=M x):i=j:=by let(g,e1):=UO.mp a;let(f,e2):=UO.mp b;show(List.getElem_inj e).mp (e1.trans e2.symm)
def rS{M:Model}{A:Vq}{E:U->UQ->Prop}{i:Nat}{x:Str}{v:V}{u:U}{Q:Unit->UQ->Prop}(I:Inv X Z Y H s)(hN:X.N.Nodup)(D:X.N[i]?=cL x)(l:NX X.env.scope x)(r:RelV v u)
  (h:∀F,Inv X Z (Y.set i (cL v)) H F->(∃a,Heap.SameBut a s.heap F.heap/\(a=X.env.locals\/X.env.cells.lookup x=cL a))->Q ⟨⟩ F) (hf:X.fn x=S\/X.env.scope.names.lookup x=cL .local:=by first|show .inl W|show .inr W|assumption):wpAny M A (storeName X.env x u) Q E s:=by
 let(m,hn,hl):=id I.loc;let aip:(X.env.scope.kind==.class||(X.env.scope.kind==.module&&X.env.locals !=X.env.globals))=R:=by rw[I.ok.kind];rfl
 let w:i<Y.length:=by rw[I.len];show(UO.mp D).1
 let cne:=I.cne;let tracked:∀{a:J} {h':Heap},(∃o,s.heap.get? a=cL o/\H a=P)->Heap.SameBut a s.heap h'->YT X.prog X.w H h':=λ{a h'} ha f b ob e=>by
  let(_,_,N):=ha;show(I.V4 b ob e).YY (λc O g q=>(f.2 c ?_).trans q) (λ_ q=>q) λ_ _ q=>q;rintro rfl;rcases g with rfl|g
  .rw[N]at e;ext e
  .rw[N]at g;ext g
 rcases l with t|t
 .show wpAny_storeName_local t hn (λh' hn' f=>?_) aip
  let(oL,_,_,hoL,_):=id hn;show h _ #[I.ok,I.os,I.bare,#[λb o e n C l=>?_,λb o e n C l=>?_,I.base.free,λb o e l=>?_,I.base.aad,I.base.ZY,I.base.aaf],#[_,hn',λj y v' e1 e2 e3=>?_],λy c e=>?_,I.free,I.YQ,λp hp=>?_,tracked #[oL,hoL,I.free] f,by simpa using I.len] #[_,f,.inl W]
  .show(f.2 b (Vg (Vf (b3 e) I.ok.above))).trans (I.base.keep b o e n C l)
  .let(sl,e1):=I.base.slot b o e n C l;show#[sl,(f.2 b (Vg (Vf (b3 e) I.ok.above))).trans e1]
  .let(o',e1):=I.base.there b o e l;show#[o',(f.2 b (Vg (Vf (b3 e) I.ok.above))).trans e1]
  .by_cases hj:j=i
   .subst hj;rw[D]at e1;ext e1;rw[We w]at e2;ext e2;show#[u,r,.inl #[t,by simp]]
   .rw[VV (da hj)]at e2
    let(u',r',q):=hl j y v' e1 e2 e3;show#[u',r',?_];rcases q with⟨k,e⟩|⟨k,c,e,z⟩
    .show .inl #[k,?_];let:y≠x:=λe=>hj (vS hN e1 (e▸D));simp[this,e]
    .show .inr #[k,c,e,z.sameBut f (cne y c e)]
  .let(O,z):=I.cell y c e;show#[O,z.sameBut f (cne y c e)]
  .let(e,n,ne,nf,d):=I.pin p hp;show#[(f.2 p.1 ne).trans e,n,ne,nf,d]
 .let B:X.fn x=S:=by
   rcases hf with z|z
   .show z
   .rw[z]at t;ext t
  let(c,g):=I.ok.has x (.inl t);let(O,z):=I.cell x c g;show wpAny_storeName_cell I.ok.kind t g z (λh' L f=>?_);let(oc,K,aiA):=id z;show h {s with heap:=h'} #[I.ok,I.os,I.bare,#[λb o e n C l=>?_,λb o e n C l=>?_,I.base.free,λb o e l=>?_,I.base.aad,I.base.ZY,I.base.aaf],#[m,hn.sameBut f (da (cne x c g)),λj y v' e1 e2 e3=>?_],λy T e=>?_,I.free,I.YQ,λp hp=>?_,tracked #[oc,K,I.YQ x c g] f,by simpa using I.len] #[c,f,.inr g]
  .show(f.2 b (Vg (Vf (b3 e) (I.ok.cab x c B g)))).trans (I.base.keep b o e n C l)
  .let(sl,e1):=I.base.slot b o e n C l;show#[sl,(f.2 b (Vg (Vf (b3 e) (I.ok.cab x c B g)))).trans e1]
  .let(o',e1):=I.base.there b o e l;show#[o',(f.2 b (Vg (Vf (b3 e) (I.ok.cab x c B g)))).trans e1]
  .by_cases hj:j=i
   .subst hj;rw[D]at e1;ext e1;rw[We w]at e2;ext e2;show#[u,r,.inr #[.inl t,c,g,L]]
   .rw[VV (da hj)]at e2
    let(u',r',q):=hl j y v' e1 e2 e3;show#[u',r',?_];rcases q with q|⟨k,T,e,z'⟩
    .show .inl q
    .show .inr #[k,T,e,z'.sameBut f ?_];rintro rfl;show hj (vS hN e1 (I.ok.inj _ _ _ e g▸D))
  .by_cases hcc:T=c
   .subst hcc;show#[_,L]
   .let(w2,z2):=I.cell y T e;show#[w2,z2.sameBut f hcc]
  .let(e,n,ne,nf,d):=I.pin p hp;show#[(f.2 p.1 ?_).trans e,n,ne,nf,d];intro q;rw[q,K]at e;let q':oc=p.2:=Vd e;show d O (by rw[<-q'];show aiA)
theorem pR{i:Nat}{v:V}{u:U}{Q:Unit->UQ->Prop}(I:Inv X Z Y H s)(e:X.N.Nodup)(d:X.N[i]?=cL x)(c:NX X.env.scope x)(r:RelV v u)
  (h:∀b,Inv X Z (Y.set i (cL v)) H b->Q ⟨⟩ b) (hf:X.fn x=S\/X.env.scope.names.lookup x=cL .local:=by first|show .inl W|show .inr W|assumption):wpAny a A (storeName X.env x u) Q E s:=
 rS I e d c r (λb f _=>h b f) hf
def Inv.adR{a:UQ}{ch:G J}(I:Inv X Z Y H s)(h:a.os=s.os)(u:Un (xK X.stack) ch H H' s.heap a.heap)(V4:YT X.prog X.w H' a.heap)(i:AllBare a.gens)
  (f:∀b∈ch,(b∈X.ex\/X.s₀.heap.objs.size<=b)/\b≠X.env.locals/\(∀x c,X.env.cells.lookup x=M c->c≠b)/\∀p∈X.pn++Z,p.1≠b):Inv X Z Y H' a:=by
 let(h',l,m,j,g):=a;let e:g=s.os:=h;subst e;show I.call (g':=l) (t':=j) (d':=m) u V4 i f
end
abbrev XK:=U->I J->Hp->Prop
abbrev St:=G (I V)
abbrev VK:=V->Hp->Prop
abbrev TE:=St->Hp->VK->Prop
abbrev TT:=St->Hp->(Bool->Hp->Prop)->Prop
abbrev TA:=St->Hp->(G V->Hp->Prop)->Prop
structure Ends where
 nx:St->Hp->Prop
 rt:VK
 bk:St->Hp->Prop:=λ_ _=>False
 ct:St->Hp->Prop:=λ_ _=>False
abbrev TS:=Ends->St->Hp->Prop
def EP(X:Cx)(a:G (J×Obj))(b:St)(Q:VK)(u:U)(e:UQ):Prop:=∃v f,Inv X a b f e/\RelV v u/\Q v f
def TP(X:Cx)(a:G (J×Obj))(e:St)(Q:Bool->Hp->Prop)(b:Bool)(f:UQ):Prop:=∃g,Inv X a e g f/\Q b g
def AP(X:Cx)(a:G (J×Obj))(b:St)(Q:G V->Hp->Prop)(us:G U)(e:UQ):Prop:=∃f g,Inv X a b g e/\Vals f us/\Q f g
def SP(X:Cx)(a:G (J×Obj))(D:Ends)(f:Flow)(b:UQ):Prop:=
 match f with
 |.next=>∃e g,Inv X a e g b/\D.nx e g
 |.brk=>∃e g,Inv X a e g b/\D.bk e g
 |.cont=>∃e g,Inv X a e g b/\D.ct e g
 |.ret u=>∃v e g,Inv X a e g b/\RelV v u/\D.rt v g
def PE(X:Cx)(e:Va)(t:TE):Prop:=
 ∀(a:G (J×Obj)) (s:UQ) (b:St) (H:Hp) (Q:VK),Inv X a b H s->t b H Q->wpAny (model X.prog X.w) X.A (eval e X.env) (EP X a b Q) X.xe s
def PT(X:Cx)(e:Va)(t:TT):Prop:=
 ∀(a:G (J×Obj)) (s:UQ) (b:St) (H:Hp) (Q:Bool->Hp->Prop),Inv X a b H s->t b H Q->wpAny (model X.prog X.w) X.A (isTrue e X.env (eval e X.env)) (TP X a b Q) X.xe s
def PW(X:Cx)(e:Va)(t:TT):Prop:=
 ∀(b:Sem U) (a:G (J×Obj)) (s:UQ) (f:St) (H:Hp) (Q:Bool->Hp->Prop),Inv X a f H s->t f H Q->wpAny (model X.prog X.w) X.A (isTrue e X.env b) (TP X a f Q) X.xe s
theorem PW.pt(h:PW X e t):PT X e t:=h _
def PA(X:Cx)(es:G Va)(t:TA):Prop:=
 ∀(e:Pos) (a:G (J×Obj)) (s:UQ) (b:St) (H:Hp) (Q:G V->Hp->Prop),Inv X a b H s->t b H Q->wpAny (model X.prog X.w) X.A (spliced (backTo e (U7 es X.env))) (AP X a b Q) X.xe s
def PS(X:Cx)(st:Wz)(t:TS):Prop:=
 ∀(a:G (J×Obj)) (s:UQ) (b:St) (H:Hp) (D:Ends),Inv X a b H s->t D b H->wpAny (model X.prog X.w) X.A (exec st X.env) (SP X a D) X.xe s
def PSs(X:Cx)(st:G Wz)(t:TS):Prop:=
 ∀(a:G (J×Obj)) (s:UQ) (b:St) (H:Hp) (D:Ends),Inv X a b H s->t D b H->wpAny (model X.prog X.w) X.A (execs st X.env) (SP X a D) X.xe s
theorem bP{α:Type}{t:Sem α}{Q b:α->UQ->Prop}{M:Model}{A:Vq}{E:U->UQ->Prop}{s:UQ}(h:wpAny M A t Q E s)(e:∀a s,Q a s->b a s):wpAny M A t b E s:=wpAny_mono h e λ_ _ x=>x
section
variable{X:Cx}
def qB(i:Nat):TE:=λa H Q=>∃v,a[i]?=M (M v)/\Q v H
def tC(v:V):TE:=λ_ H Q=>Q v H
def DJ(t:X.N[i]?=M x)(p:Qg X.env.scope x)(hd:(x==("__debug__":Str))=R:=by decide)(j:(x==("__classdict__":Str))=R:=by decide):PE X (.Name x pos) (qB i):=by
 intro f s o H Q I h;let(v,e,h):=h;let(m,w,q):=I.loc;let(u,r,l):=q i x v t e p;let b:EP X f o Q u s:=#[v,H,I,r,h];rcases l with⟨a,hm⟩|⟨a,c,n,g⟩
 .show ad4 (ade I.ok.kind a w hm b) hd
 .rcases a with a|a
  .show ad4 (adG I.ok.kind a n g b) hd
  .show ad4 (wpAny_loadName_free I.ok.kind a n g b j) hd
theorem NW{i j pos}:PE X (.Constant (.int i) j pos) (tC (.int i)):=λ_ _ _ H _ I h=>ad5 #[.int i,H,I.tok _,#[_,W],h]
theorem RL{b j pos}:PE X (.Constant (.bool b) j pos) (tC (.bl b)):=λ_ _ _ H _ I h=>Constant_bool #[.bl b,H,I,W,h]
theorem ON{j pos}:PE X (.Constant .none j pos) (tC .W9):=λ_ _ _ H _ I h=>Constant_none #[.W9,H,I,W,h]
theorem MA{x j pos}:PE X (.Constant (.str x) j pos) (tC (.str x)):=λ_ _ _ H _ I h=>Calls.Constant_str #[.str x,H,I.tok _,#[_,W],h]
def Gl(X:Cx)(x:Str):Prop:=X.env.kindOf x=M .globalImplicit
theorem kO(I:Inv X pins σ H s)(a:Gl X x)(hm:X.mg x=M u)(h:Q u s)
  (hd:(x==("__debug__":Str))=R:=by decide):wpAny (model X.prog X.w) X.A (eval (.Name x pos) X.env) Q E s:=
 Calls.Name_function_global I.ok.kind a (Calls.loadGlobal_global (by rw[I.ok.glob];show I.mod.glob.keeps I.bk) hm h) hd
def kh(I:Inv X pins σ H s)(b:Gl X x)(hm:X.mg x=P)(a:VP x=M u)(h:Q u s)
  (c:x≠ "__name__":=by decide) (hd:(x==("__debug__":Str))=R:=by decide):wpAny (model X.prog X.w) X.A (eval (.Name x pos) X.env) Q E s:=by
 let(g,f,e):=I.mod.blt;show Calls.Name_function_global I.ok.kind b (Calls.loadGlobal_builtin (by rw[I.ok.glob];show I.mod.glob.keeps I.bk) hm (by rw[I.ok.blt];show f.keeps I.bk) ((e x c).trans a) h) hd
theorem JJ{x:Str}{v:V}{u:U}{a:Pos}(b:Gl X x)(hm:X.mg x=M u)(r:RelV v u)(hd:(x==("__debug__":Str))=R:=by decide):PE X (.Name x a) (tC v):=
 λ_ _ _ H _ I h=>kO I b hm #[v,H,I,r,h] hd
variable{a b:Va}{Y Z:TE}{O:Pos}
def PC(X:Cx)(op:aaF)(a b:Va)(t:TE):Prop:=
 ∀(e:G (J×Obj)) (s:UQ) (h:St) (H:Hp) (Q:VK),Inv X e h H s->t h H Q->
  wpAny (model X.prog X.w) X.A (eval a X.env) (λv g=>wpAny (model X.prog X.w) X.A (eval b X.env) (λu f=>wpAny (model X.prog X.w) X.A (V1 op v u) (EP X e h Q) X.xe f) X.xe g) X.xe s
def tB(t:TE):TT:=λe H Q=>t e H λx f=>∃c,x=.bl c/\Q c f
theorem xA(h:PC X op a b t)(i:behindInMarks op b=R:=by first|show o _ () ()|rfl):PE X (.Compare a [op] [b] O) t:=λe s f H Q I g=>ahw (h e s f H Q I g) i
def xH(h:PC X op a b t)(f:behindInMarks op b=R:=by first|show C _ () ()|rfl):PT X (.Compare a [op] [b] O) (tB t):=by intro e s g H Q I l;show acX (bP (h e s g H _ I l) λv w f=>bP f λu r m=>bP m λc p a=>?_) f;let(x,o,n,i,j):=a;let(d,rfl,q):=j;ext i;show Wk #[o,n,q]
def Mb{e:Va}{t:TE}(h:PE X e t)(m:∀whole,isTrue e X.env whole=(do let v<-whole;standAt e.pos;holding [v] (truthy v)):=by intro _;rfl):PT X e (tB t):=by intro f s g H Q I l;show isTrue_plain (bP (h f s g H _ I l) λv p #[x,o,n,i,j]=>?_) (m _);let(d,rfl,q):=j;ext i;show Wk #[o,n,q]
variable{T S:TT}{U:bb Va}
def M4(t u:TT):TT:=λe H Q=>t e H λc f=>if c=UJ then u e f Q else Q R f
def Tv(t u:TT):TT:=λe H Q=>t e H λc f=>if c=UJ then Q UJ f else u e f Q
def GC(t:TT):TT:=λe H Q=>t e H λc f=>Q (!c) f
def yL(d:PT X a T):PW X (.BoolOp .And [a] O) T:=by
 intro i f s g H Q I h;show isTrue_and (bP (d f s g H Q I h) λc j e=>?_);cases c with
 |true=>show isTrue_and_nil e
 |false=>show e
def OW(d:PT X a T):PW X (.BoolOp .Or [a] O) T:=by
 intro i f s g H Q I h;show isTrue_or (bP (d f s g H Q I h) λc j e=>?_);cases c with
 |false=>show isTrue_or_nil e
 |true=>show e
def Dn(d:PT X a T)(n:PW X (.BoolOp .And (b::U) O) S):PW X (.BoolOp .And (a::b::U) O) (M4 T S):=by
 intro l e s f H Q I h;show isTrue_and (bP (d e s f H _ I h) λc m a=>?_);let(j,i,g):=a;cases c with
 |true=>show n l e m f j Q i g
 |false=>show#[j,i,g]
def RG(d:PT X a T)(n:PW X (.BoolOp .Or (b::U) O) S):PW X (.BoolOp .Or (a::b::U) O) (Tv T S):=by
 intro l e s f H Q I h;show isTrue_or (bP (d e s f H _ I h) λc m a=>?_);let(j,i,g):=a;cases c with
 |true=>show#[j,i,g]
 |false=>show n l e m f j Q i g
def NU(d:PT X a T):PT X (.UnaryOp .Not a O) (GC T):=by intro e s f H Q I h;show isTrue_not (d e s f H (λc g=>Q (!c) g) I h)
def DG(Y Z:TE):TE:=λe H Q=>Y e H λx f=>∃c,x=.bl c/\if c=UJ then Z e f Q else Q (.bl R) f
theorem Mx{op}(h:PE X a t):PE X (.BoolOp op [a] O) t:=λe s f H Q I g=>BoolOp_one (h e s f H Q I g)
def Fm(d:PE X a Y)(n:PE X (.BoolOp .And (b::U) O) Z):PE X (.BoolOp .And (a::b::U) O) (DG Y Z):=by
 intro e s g H Q I h;show BoolOp_and (bP (d e s g H _ I h) λv l a=>?_);let(x,j,i,m,f):=a;let(c,rfl,f):=f;ext m;show Wk ?_;cases c with
 |true=>show n e l g j Q i f
 |false=>show#[.bl R,j,i,W,f]
def P6(t:TT)(Y Z:TE):TE:=λe H Q=>t e H λc f=>if c=UJ then Y e f Q else Z e f Q
def Dg(m:PT X c T)(k:PE X a Y)(n:PE X b Z):PE X (.IfExp c a b O) (P6 T Y Z):=by
 intro e s f H Q I h;show wpAny_IfExp (bP (m e s f H _ I h) λd g a=>?_);let(l,j,i):=a;cases d with
 |true=>show k e g f l Q j i
 |false=>show n e g f l Q j i
end
def Yk(K:CL)(H:Hp)(a:J)(xs:G V):Prop:=
 Rd H a (.lst xs)\/
  ∃(o:Obj) (b:Array U) (n:Nat),K.lookup a=M o/\o.cls=.type "list"/\o.dict=P/\o.data=.seq b n/\b.size<=UY/\Vals xs b.toList
def Yr(K:CL)(H:Hp)(a:J)(xs:G V):Prop:=
 Rd H a (.tup xs)\/
  ∃(o:Obj) (b:Array U) (n:Nat),K.lookup a=M o/\(o.cls=.type "tuple"/\o.dict=P)/\o.data=.seq b n/\b.size<=UY/\Vals xs b.toList
def Sy:U->I V
 |.none=>M .W9
 |.bool b=>M (.bl b)
 |.int i _=>M (.int i)
 |.str x _=>M (.str x)
 |.bytes b _=>M (.byt b)
 |.float b _=>M (.flt b)
 |.ref a=>M (.ref a)
 |.type n=>M (.ty n)
 |_=>P
def RelV.abs(r:RelV x u):Sy u=M x:=by
 cases x with
 |W9=>ext r;rfl
 |bl _=>ext r;rfl
 |int _=>let(t,rfl):=r;rfl
 |str _=>let(t,rfl):=r;rfl
 |byt _=>let(t,rfl):=r;rfl
 |flt _=>let(t,rfl):=r;rfl
 |ref _=>ext r;rfl
 |ty _=>ext r;rfl
theorem RelV.inj(r:RelV x u)(q:RelV y u):x=y:=Vd (r.abs.symm.trans q.abs)
theorem Vals.inj:∀{xs a:G V} {us:G U},Vals xs us->Vals a us->xs=a
 |_,_,_,.nil,.nil=>rfl
 |_,_,_,.cons r t,.cons e b=>by rw[r.inj e,Vals.inj t b]
section
variable{X:Cx}{Z:bb (UP×Obj)}{Y:St}{H:Hp}{s:UQ}{a:UP}{T U:bb V}
theorem Yk.of{K:CL}(h:H a=M (.lst T)):Yk K H a T:=.inl (.inl h)
theorem Yr.of{K:CL}(h:H a=M (.tup T)):Yr K H a T:=.inl (.inl h)
def Inv.list(I:Inv X Z Y H s)(h:Yk X.K H a T):∃b:G UI,Vals T b/\PlainL s.heap a b.toArray/\T.length<=UY:=by
 rcases h with h|⟨o,b,n,g,i,hd,f,j,r⟩
 .let(z,b,n,r,e):=h.ok I.V4;show#[b,r,#[_,n,e,W,W,W],z]
 .show#[b.toList,r,#[o,n,I.ZX a o g,i,hd,by simpa using f],?_];let e:=r.length;simp only[VN]at e;ext
def Inv.tuple(I:Inv X Z Y H s)(h:Yr X.K H a T):∃b:G UI,Vals T b/\IsTup s.heap a b.toArray/\T.length<=UY:=by
 rcases h with h|⟨o,b,n,g,i,f,j,r⟩
 .let(z,b,r,p):=h.ok I.V4;show#[b,r,p.tup,z]
 .show#[b.toList,r,#[o,I.ZX a o g,i.1,n,by simpa using f],?_];let e:=r.length;simp only[VN]at e;ext
def Inv.aeF(I:Inv X Z Y H s)(h:Yr X.K H a T):∃b:G UI,Vals T b/\ZK s.heap a b.toArray/\T.length<=UY:=by
 rcases h with h|⟨o,b,n,i,f,g,j,r⟩
 .let(z,b,r,p):=h.ok I.V4;show#[b,r,p,z]
 .show#[b.toList,r,#[o,I.ZX a o i,#[f.1,n,by simpa using g],f.2],?_];let e:=r.length;simp only[VN]at e;ext
def Inv.acV(I:Inv X Z Y H s)(h:Yk X.K H a T)(c:Yk X.K H a U):T=U:=by
 let(j,r,(o,n,e,_,_,d),_):=I.list h;let(b,i,(l,m,f,_,_,g),_):=I.list c;rw[e]at f;ext f;rw[d]at g;injection g with d1 _;let:j=b:=by simpa using dt ad6 d1
 subst this;show r.inj i
def Inv.ab2(I:Inv X Z Y H s)(h:Yr X.K H a T)(c:Yr X.K H a U):T=U:=by
 let(j,r,(o,e,_,n,d),_):=I.tuple h;let(b,i,(l,f,_,m,g),_):=I.tuple c;rw[e]at f;ext f;rw[d]at g;injection g with d1 _;let:j=b:=by simpa using dt ad6 d1
 subst this;show r.inj i
end
abbrev Cx.Zl(X:Cx)(E:U->UQ->Prop):Cx:={X with xe:=E}
abbrev Cx.nox(X:Cx):Cx:=X.Zl λ_ _=>False
theorem Cx.Ok.Zl{X:Cx}(ok:X.Ok)(E:U->UQ->Prop):(X.Zl E).Ok:=
 #[ok.mod,ok.kind,ok.glob,ok.blt,ok.above,ok.inj,ok.has,ok.cab,ok.hd,ok.frames,ok.stk,ok.exf,ok.bs,ok.bsz,ok.aca,ok.abY,ok.Zz,ok.frf]
theorem Cx.Ok.Yv{X:Cx}(ok:(X.Zl E).Ok):X.Ok:=
 #[ok.mod,ok.kind,ok.glob,ok.blt,ok.above,ok.inj,ok.has,ok.cab,ok.hd,ok.frames,ok.stk,ok.exf,ok.bs,ok.bsz,ok.aca,ok.abY,ok.Zz,ok.frf]
section
variable{X:Cx}{Z:bb (UP×Obj)}{Y:St}{H:Hp}{s:UQ}{E:UI->UQ->Prop}
theorem Inv.Zl(I:Inv X Z Y H s)(E:U->UQ->Prop):Inv (X.Zl E) Z Y H s:=#[I.ok.Zl E,I.os,I.bare,I.base,I.loc,I.cell,I.free,I.YQ,I.pin,I.V4,I.len]
theorem Inv.Yv(I:Inv (X.Zl E) Z Y H s):Inv X Z Y H s:=#[I.ok.Yv,I.os,I.bare,I.base,I.loc,I.cell,I.free,I.YQ,I.pin,I.V4,I.len]
def SP.Yv(h:SP (X.Zl E) Z D f s'):SP X Z D f s':=by
 cases f with
 |next=>let(a,b,I,q):=h;show#[a,b,I.Yv,q]
 |brk=>let(a,b,I,q):=h;show#[a,b,I.Yv,q]
 |cont=>let(a,b,I,q):=h;show#[a,b,I.Yv,q]
 |ret u=>let(v,a,b,I,r,q):=h;show#[v,a,b,I.Yv,r,q]
theorem PSs.nox{st:G Wz}(h:PSs X.nox st t):PSs X st t:=λZ s Y H D I a=>
 wpAny_mono (h Z s Y H D (I.Zl _) a) (λ_ _ q=>q.Yv) λ_ _ z=>False.elim z
end
section
variable{X:Cx}{Q:Wz}{Y:bb Wz}{t u:TS}{e:Va}{Z:TE}{T:Pos}
def E7:TS:=λD a H=>D.nx a H
def Cs(t u:TS):TS:=λD a H=>t {D with nx:=u D} a H
theorem yQ:PSs X [] E7:=λ_ _ a H _ I h=>Za #[a,H,I,h]
def vP(l:PS X Q t)(j:PSs X Y u):PSs X (Q::Y) (Cs t u):=by
 intro a s g H D I h;show afi (bP (l a s g H {D with nx:=u D} I h) λf i q=>?_);cases f with
 |next=>let(b,n,m,q):=q;show j a i b n D m q
 |ret v=>show q
 |brk=>show q
 |cont=>show q
def zk(g:PS X Q t):PSs X [Q] t:=by
 intro a s b H D I h;show afi (bP (g a s b H D I h) λf i q=>?_);cases f with
 |next=>show Za q
 |ret v=>show q
 |brk=>show q
 |cont=>show q
def Inv.quiet{a:G (J×Obj)}{b:St}{H:Hp}{s:UQ}(I:Inv X a b H s):interactive X.env=R:=by simp[interactive,I.ok.kind]
def uS(Z:TE):TS:=λD a H=>Z a H λ_ b=>D.nx a b
def zi(i:PE X e Z)(g:Xe e P T.line X.env=pure R:=by rfl):PS X (.Expr e T) (uS Z):=by intro a s b H D I h;show wpAny_Expr_any (bP (i a s b H _ I h) λv m #[x,l,j,n,f]=>#[b,l,j,f]) I.quiet g
def GI(Z:TE):TS:=λD a H=>Z a H D.rt
def OV(i:PE X e Z):PS X (.Return (M e) T) (GI Z):=by intro a s b H D I h;show wpAny_Return_some (bP (i a s b H _ I h) λv m #[x,l,j,f,g]=>#[x,b,l,j,f,g])
def Lb:TS:=λD _ H=>D.rt .W9 H
theorem Ij:PS X (.Return P T) Lb:=λ_ _ a H _ I h=>wpAny_Return_none #[.W9,a,H,I,W,h]
def HC(c:TT)(t u:TS):TS:=λD a H=>c a H λb f=>if b=S then t D a f else u D a f
def Qz(n:PT X c C)(k:PSs X a t)(o:PSs X b u):PS X (.If c a b T) (HC C t u):=by
 intro f s g H D I h;show wpAny_If (bP (n f s g H _ I h) λd i a=>?_);let(m,l,j):=a;cases d with
 |true=>show k f i g m D l j
 |false=>show o f i g m D l j
end
abbrev TG:=V->St->Hp->(St->Hp->Prop)->Prop
abbrev wy:=G V->St->Hp->(St->Hp->Prop)->Prop
def PG(X:Cx)(a:Va)(t:TG):Prop:=
 ∀(b:G (J×Obj)) (s:UQ) (e:St) (H:Hp) (v:V) (u:U) (Q:St->Hp->Prop),Inv X b e H s->RelV v u->t v e H Q->
  wpAny (model X.prog X.w) X.A (assign a X.env u) (λ_ f=>∃g h,Inv X b g h f/\Q g h) X.xe s
def Rt(X:Cx)(f:G Va)(t:wy):Prop:=
 ∀(a:G (J×Obj)) (s:UQ) (b:St) (H:Hp) (i:G V) (e:G U) (Q:St->Hp->Prop),Inv X a b H s->Vals i e->t i b H Q->
  wpAny (model X.prog X.w) X.A (assignInOrder ((assignEach f X.env).map (·.2)) e) (λ_ g=>∃h j,Inv X a h j g/\Q h j) X.xe s
abbrev ST:=V->V->Hp->VK->Prop
def Si(X:Cx)(op:aba)(t:ST):Prop:=
 ∀(a:G (J×Obj)) (s:UQ) (b:St) (H:Hp) (x y:V) (v u:U) (Q:VK),Inv X a b H s->RelV x v->RelV y u->t x y H Q->
  wpAny (model X.prog X.w) X.A (inplaceOp op v u) (EP X a b Q) X.xe s
section
variable{X:Cx}{Z:Pos}
def mx(i:Nat):TG:=λv a H Q=>Q (a.set i (M v)) H
def Ka(c:X.N.Nodup)(b:X.N[i]?=M x)(a:NX X.env.scope x)(hf:X.fn x=S\/X.env.scope.names.lookup x=M .local:=by first|show .inl W|show .inr W|assumption):PG X (.Name x Z) (mx i):=by intro pins s σ H v u Q I r h;show aeK (pR I c b a r (λf e=>#[_,H,e,h]) hf)
def Kf:wy:=λb a H Q=>b=[]/\Q a H
def zC(t:TG)(u:wy):wy:=λf b H Q=>∃v r,f=v::r/\t v b H λa e=>u r a e Q
def JK:Rt X [] Kf:=by intro a s b H g f Q I r h;let(e,h):=h;subst e;ext r;show assignInOrder_nil #[b,H,I,h]
def Gj(n:PG X e t)(m:Rt X es u)
  (l:(assignEach (e::es) X.env).map (·.2)=assign e X.env::(assignEach es X.env).map (·.2):=by rfl):Rt X (e::es) (zC t u):=by
 intro a s f H y w Q I r h;let(v,q,e1,h):=h;subst e1;cases r with
 |cons r i=>rw[l];show assignInOrder_cons (bP (n a s f H _ _ _ I r h) λ_ g a=>?_);let(b,p,o,j):=a;show m a g b p _ _ Q o i j
def Ha(K:CL)(n:Nat)(t:wy):TG:=λv b H Q=>∃a xs,v=.ref a/\Yr K H a xs/\xs.length=n/\t xs b H Q
def OZ(q:X.calm=S)(h:Rt X es t)
  (c:(assignEach es X.env).length=n:=by rfl) (dG:(assignEach es X.env).findIdx? (·.1)=P:=by rfl):PG X (.Tuple es k Z) (Ha X.K n t):=by
 intro f s i H v u Q I r g;let(a,xs,e1,m,p,g):=g;subst e1;ext r;let(B,C,l,y):=I.tuple m;show assign_Tuple_tuple (I.ok.hd q) l (by simp[c,<-p,C.length]) dG λA j=>?_;let w:=I.kept (t':=s.toks) λb o e=>j b o (Vg (b3 e)) e;show h f _ i H xs _ Q w (by simpa using C) g
def u8(b:TE)(g:TG):TS:=λD a H=>b a H λx e=>g x a e D.nx
def Ph(o:PE X e te)(n:PG X C g)(m:swapsWithSole [C] e Z.line X.env=pure R:=by rfl)(l:swappedStores [C] e X.env=pure P:=by rfl)
  (p:(assignEach [C] X.env).map (·.2)=[assign C X.env]:=by rfl):PS X (.Assign [C] e Z) (u8 te g):=by
 intro a s b H D I h;show wpAny_Assign_stores (bP (o a s b H _ I h) λv f a=>?_) m l;let(x,t,r,i,j):=a;rw[p];show bP (n a f b t x v _ r i j) λ_ u q=>q
def B4{i:Nat}{x:Str}{e:Va}{a:TE}{pos':Pos}(j:X.N.Nodup)(g:X.N[i]?=M x)(c:NX X.env.scope x)(he:PE X e a)(d:Xe e (M (.Name x pos')) Z.line X.env=pure R:=by rfl)(hf:X.fn x=S\/X.env.scope.names.lookup x=M .local:=by first|show .inl W|show .inr W|assumption):
  PS X (.Assign [.Name x pos'] e Z) (u8 a (mx i)):=by
 intro pins s σ H D I h;show wpAny_Assign_Name (bP (he pins s σ H _ I h) λv s1 a=>?_) d;let(y,H1,m,b,f):=a;show pR m j g c b (λs2 l=>#[_,H1,l,f]) hf
def Qs(i:Nat)(b:TE)(c:ST):TS:=λD a H=>∃x,a[i]?=M (M x)/\b a H λy f=>c x y f λz e=>D.nx (a.set i (M z)) e
def NM(F:X.N.Nodup)(n:X.N[i]?=M x)(d:NX X.env.scope x)(he:PE X e C)(B:Si X op o)(hf:X.fn x=S\/X.env.scope.names.lookup x=M .local:=by first|show .inl W|show .inr W|assumption):
  PS X (.AugAssign (.Name x pos') op e Z) (Qs i C o):=by
 intro pins s σ H D I h;let(v,e1,h):=h;let(m,E,K):=I.loc;let g:Qg X.env.scope x:=by rcases d with k|k;show .inl k;show .inr (.inl k)
 let(u,r,l):=K i x v n e1 g;show wpAny_AugAssign_Name ?_;let go:wpAny (model X.prog X.w) X.A (eval e X.env) (λw f=>wpAny (model X.prog X.w) X.A (inplaceOp op u w) (λr b=>wpAny (model X.prog X.w) X.A (storeName X.env x r) (λ_=>SP X pins D .next) X.xe b) X.xe f) X.xe s:=by show bP (he pins s σ H _ I h) λw s1 #[y,H1,Q,q,A]=>?_;show bP (B pins s1 σ H1 v y u w _ Q r q A) λz s2 a=>?_;let(Y,T,O,p,t):=a;show pR O F n d p (λs3 N=>#[_,T,N,t]) hf
 rcases l with⟨a,hm⟩|⟨a,c,L,j⟩
 .show ade I.ok.kind a E hm go
 .rcases a with a|a
  .show adG I.ok.kind a L j go
  .rcases d with k|k
   .let:X.env.scope.names.lookup x=M .free:=a;rw[k]at this;ext this
   .let:X.env.scope.names.lookup x=M .free:=a;rw[k]at this;ext this
def TV(f:Int->Int->Int):ST:=λx y H Q=>∃i j,x=.int i/\y=.int j/\Q (.int (f i j)) H
def LX:Si X .Add (TV λi j=>i+j):=by intro a s f H x y v u Q I e b h;let(i,j,e1,e2,q):=h;subst e1;subst e2;let(t,rfl):=e;let(g,rfl):=b;show iadd_int #[.int _,H,I.tok _,#[_,W],q]
end
section
variable{X:Cx}{Z:Pos}
def Gd(c:TT)(d:TS):TS:=λD a H=>∃W:Nat->St->Hp->Prop,(∃m,W m a H)/\∀m a H,W m a H->
 c a H λb e=>if b=S then∃N:St->Hp->Prop,(∀f h,N f h->∃g,g<m/\W g f h)/\d {D with nx:=N,ct:=N,bk:=D.nx} a e else D.nx a e
def Ce(r:aaq (model X.prog X.w) X.A X.env X.xe)(M:PT X c tc)(O:PSs X body tb):PS X (.While c body [] Z) (Gd tc tb):=by
 intro e s C H D I h;let(W,(L,F),turn):=h;show wpAny_While (codeAny_whileLoop (λn K=>∃w A,Inv X e w A K/\W n w A) ?_ L #[C,H,I,F]);rintro n J ⟨g,B,P,E⟩;show Xb r (bP (M e J g B _ P (turn n g B E)) λb G a=>?_);let(y,u,l):=a;cases b with
 |true=>
  let(N,t,l):=l;rw[ax rfl];show Xb r (bP (O e G g y _ u l) λf Q j=>?_);cases f with
  |next=>let(a,i,q,o):=j;let(p,hm,m):=t a i o;show#[p,hm,a,i,q,m]
  |cont=>let(a,i,q,o):=j;let(p,hm,m):=t a i o;show#[p,hm,a,i,q,m]
  |brk=>show j
  |ret v=>show j
 |false=>rw[a3 Ve];show Za #[g,y,u,l]
end
structure It where
 go:Nat->Hp->Prop
 yld:Nat->Hp->V->Hp->Prop
 stop:Nat->Hp->Prop
def kL(X:Cx)(a:G (J×Obj))(H:Hp)(b:J):Prop:=
 H b=P/\b≠X.env.locals/\b∉X.fs/\(b∈X.ex\/X.s₀.heap.objs.size<=b)/\(∀x c,X.env.cells.lookup x=M c->c≠b)/\∀p∈X.pn++a,p.1≠b
def Inv.aa1(I:Inv X pins σ H s)(a:s.heap.objs.size<=b)(d:H' b=P):kL X pins H' b:=by
 show#[d,VW (Vf I.lt a),I.ajl a,.inr (Vv I.sz a),λx c e z=>?_,λp f z=>?_]
 .let(v,q):=I.cell x c e;show a7 (Vf q.lt (by rw[z];show a)) (Wd _)
 .show a7 (Vf (b3 (I.pin p f).1) (by rw[z];show a)) (Wd _)
structure Turn(P:Vc)(w:Vw)(K:CL)(tg:Va)(J:It)(fp:G UP)(it:UP)(tn:Nat->Heap->Prop):Prop where
 mem:it∈fp
 obj:∀i h,tn i h->∀b∈fp,∃o,h.get? b=M o/\∀v,o.data≠.cell v
 keep:∀i h h',tn i h->(∀b∈fp,∀o,h.get? b=M o->h'.get? b=M o)->tn i h'
 item:∀(X:Cx),X.prog=P->X.w=w->X.K=K->X.calm=S->∀(i:Nat) (pins:G (UP×Obj)) (s:UQ) (σ:St) (H:Hp) (E:U->UQ->Prop),Inv X pins σ H s->(∀b∈fp,kL X pins H b)->tn i s.heap->J.go i H->
  wpAny (model P w) X.A (pyNext (.ref it)) (λr s1=>∃u,r=M u/\
   wpAny (model P w) X.A (letOwnedTupleGo tg (.ref it) u) (λ_ s2=>∃x H',Inv X pins σ H' s2/\RelV x u/\J.yld i H x H'/\tn (i+1) s2.heap/\∀b∈fp,H' b=lD) E s1) E s
 done:∀(X:Cx),X.prog=P->X.w=w->X.K=K->X.calm=S->∀(i:Nat) (pins:G (UP×Obj)) (s:UQ) (σ:St) (H:Hp) (E:U->UQ->Prop),Inv X pins σ H s->(∀b∈fp,kL X pins H b)->tn i s.heap->J.stop i H->
  wpAny (model P w) X.A (pyNext (.ref it)) (λr s1=>r=lD/\Inv X pins σ H s1) E s
 self:∀(A:Vq) (i:Nat) (s:UQ) (Q:U->UQ->Prop) (E:U->UQ->Prop),tn i s.heap->Q (.ref it) s->wpAny (model P w) A (pyIter (.ref it)) Q E s
abbrev TI:=St->Hp->(It->Hp->Prop)->Prop
def Tg(X:Cx)(a:G (UP×Obj))(l:St)(m:Va)(R:It->Hp->Prop)(e:U)(h:UQ):Prop:=
 ∃(i:UP) (j:G UP) (g:Nat->Heap->Prop) (J:It) (f:Hp),e=.ref i/\Inv X a l f h/\Turn X.prog X.w X.K m J j i g/\g 0 h.heap/\(∀b∈j,kL X a f b)/\R J f
def PI(X:Cx)(g b:Va)(f:TI):Prop:=
 ∀(a:G (J×Obj)) (s:UQ) (e:St) (H:Hp) (R:It->Hp->Prop),Inv X a e H s->f e H R->
  wpAny (model X.prog X.w) X.A (eval b X.env) (λv h=>wpAny (model X.prog X.w) X.A (pyIter v) (Tg X a e g R) X.xe h) X.xe s
def Ee{M:Model}{A:Vq}{E:U->UQ->Prop}{s:UQ}{b:Va}{it:J}{u:U}{o:Obj}{n:String}{c:Array U}{Q:Unit->UQ->Prop}(e:s.heap.get? it=cL o)(f:o.cls=.type n)(hd:o.data=.fields c)
  (d:["enumerate","zip","dict_itemiterator","dict_reverseitemiterator","odict_iterator","itertools.zip_longest","itertools.pairwise"].contains n=R) (a:Q ⟨⟩ s):wpAny M A (letOwnedTupleGo b (.ref it) u) Q E s:=by
 ext letOwnedTupleGo;ext b<;>first
  |show UR a
  |(ext u<;>first
    |show UR a
    |(show Ld (ad7 e ?_)
      rw[f,hd];show wpAny M A (if(["enumerate","zip","dict_itemiterator","dict_reverseitemiterator","odict_iterator","itertools.zip_longest","itertools.pairwise"].contains n&&c[0]? ==cL (rawInt _))=S then _ else _) Q E s;rw[a3 (by intro h;rw[d,Y0]at h;ext h)];show UR a))
def SK(K:CL)(a:J):It:=
 #[λi H=>∃xs x,Yk K H a xs/\xs[i]?=M x,λi H x b=>b=H/\∀xs,Yk K H a xs->xs[i]?=M x,λi H=>∃xs,Yk K H a xs/\xs.length<=i]
def S3(K:CL)(a:J):It:=
 #[λi H=>∃xs x,Yr K H a xs/\xs[i]?=M x,λi H x b=>b=H/\∀xs,Yr K H a xs->xs[i]?=M x,λi H=>∃xs,Yr K H a xs/\xs.length<=i]
def Sr(lo:Int)(n:Nat):It:=#[λi _=>i<n,λi H x a=>a=H/\x=.int (lo+i),λi _=>n<=i]
theorem A2{K:CL}(a it:UP):Turn Pz0 w K tg (SK K a) [it] it (λi h=>h.IsListIter it a i) where
 mem:=by simp
 obj:=λi h f b g=>by
  let e:b=it:=by simpa using g
  subst e;let(o,e,c,d):=f;show#[o,e,λv z=>by rw[d]at z;ext z]
 keep:=λi h M f k=>f.at λo e=>k it (by simp) o e
 item:=by intro X y r A L i l s N H E I n f t;subst y r A;let(xs,x,m,q):=t;let(Z,rv,p,R):=I.list m;let(u,T,Q):=rv.get q;let(J,G,U,F,C,B):=n it (by simp);show wpAny_pyNext_list_item f p.isList (by simpa using T) λM j O=>?_;let I1:=I.turned (t':=s.toks) (λb o g e=>(O.2 b g).trans e) J G F C B;let(o,e,c,d):=id j;show#[u,W,Ee e c d () #[x,H,I1,Q,#[W,λys S=>by rw[I.acV S m];show q],j,λb g=>(n b g).1]]
 done:=by intro X y r A L i l s N H E I n f t;subst y r A;let(xs,m,q):=t;let(Z,rv,p,R):=I.list m;let(J,G,U,F,C,B):=n it (by simp);let hl:=rv.length;show wpAny_pyNext_list_end (I.ok.hd L) f p.isList (by simp;ext) λM Y=>#[W,I.turned (λb o g e=>Y b o g e) J G F C B]
 self:=λ_ _ _ _ _ f h=>wpAny_pyIter_listiter f h
theorem xG{K:CL}(a it:UP):Turn Pz0 w K tg (S3 K a) [it] it (λi h=>h.IsTupleIter it a i) where
 mem:=by simp
 obj:=λi h f b g=>by
  let e:b=it:=by simpa using g
  subst e;let(o,e,c,d):=f;show#[o,e,λv z=>by rw[d]at z;ext z]
 keep:=λi h N f k=>f.at λo e=>k it (by simp) o e
 item:=by intro X y r A M i l s O H E I n f t;subst y r A;let(xs,x,m,q):=t;let(L,rv,p,S):=I.tuple m;let(u,U,R):=rv.get q;let(J,G,Y,F,C,B):=n it (by simp);show wpAny_pyNext_tuple_item f (show s.heap.IsTuple a L.toArray from p) (by simpa using U) λN j Q=>?_;let I1:=I.turned (t':=s.toks) (λb o g e=>(Q.2 b g).trans e) J G F C B;let(o,e,c,d):=id j;show#[u,W,Ee e c d () #[x,H,I1,R,#[W,λys T=>by rw[I.ab2 T m];show q],j,λb g=>(n b g).1]]
 done:=by intro X y r A M i l s O H E I n f t;subst y r A;let(xs,m,q):=t;let(L,rv,p,S):=I.tuple m;let(J,G,Y,F,C,B):=n it (by simp);let hl:=rv.length;show wpAny_pyNext_tuple_end (I.ok.hd M) f (show s.heap.IsTuple a L.toArray from p) (by simp;ext) λN Z=>#[W,I.turned (λb o g e=>Z b o g e) J G F C B]
 self:=λ_ _ _ _ _ f h=>wpAny_pyIter_tupleiter f h
theorem wH{K:CL}(it:UP)(lo:Int)(n:Nat):Turn T w K tg (Sr lo n) [it] it (λi h=>IsRangeIter h it (lo+(i:Nat)*1) ((n:Int) - (i:Nat)) 1) where
 mem:=by simp
 obj:=λi h a b g=>by
  let e:b=it:=by simpa using g
  subst e;show#[_,a,λv z=>by let L:=z;ext L]
 keep:=λi h y a k=>k it (by simp) _ a
 item:=by intro X r m u q i f s J H E I l a p;subst r m u;let(G,F,Q,C,B,A):=l it (by simp);let W:=Walks.range (prog:=X.prog) (w:=X.w) (I.ok.hd q) it lo 1 n;show W.item i s _ _ p a λv y M O j N=>?_;let(t,rfl):=O;let S:Inv X f J H {s with heap:=y,toks:=M}:=I.turned (λb o g e=>N b o (by simpa using g) e) G F C B A;show#[_,rfl,Ee j rfl rfl () #[.int (lo+i),H,S,#[t,?_],#[rfl,rfl],j,λb g=>(l b g).1]];rw[Int.mul_one]
 done:=by intro X r m u q i f s J H E I l a p;subst r m u;let(G,F,Q,C,B,A):=l it (by simp);show wpAny_pyNext_range_end (I.ok.hd q) a (by let:n<=i:=p;ext) λy R=>#[rfl,I.turned (λb o g e=>R b o g e) G F C B A]
 self:=λ_ _ _ _ _ a h=>wpAny_pyIter_rangeiter a h
section
variable{X:Cx}{Z:Va}
def Gf{a:G (J×Obj)}{f:St}{H:Hp}{s:UQ}{R:It->Hp->Prop}{E:U->UQ->Prop}{lo c:Int}{t u v:Tok}{g:Nat}(I:Inv X a f H s)(n: -(2^62)<=lo)(m:lo<2^62)(l: -(2^62)<=c)(j:c<2^62)
  (q:R (Sr lo (c - lo).toNat) H):wpAny (model X.prog X.w) X.A (pyIter (.ref s.heap.objs.size)) (Tg X a f Z R) E {s with heap:=s.heap.push {cls:=.type "range",data:=.fields #v[.int lo t,.int c u,.int 1 v]},toks:=g}:=by
 show wpAny_pyIter_range (IsRange.new ..) (small_one n m l j) ?_;let h:Inv X a f H {s with heap:=s.heap.push {cls:=.type "range",data:=.fields #v[.int lo t,.int c u,.int 1 v]},toks:=g}:=I.kept λb o e=>bt _ e;show#[(s.heap.push {cls:=.type "range",data:=.fields #v[.int lo t,.int c u,.int 1 v]}).objs.size,[(s.heap.push {cls:=.type "range",data:=.fields #v[.int lo t,.int c u,.int 1 v]}).objs.size],_,_,H,W,
  h.kept (t':=g) λb o e=>bt _ e,wH _ lo (c - lo).toNat,?_,λb i=>?_,q]
 .let e1:lo+((0:Nat):Int)*1=lo:=by simp
  let e2:(((c - lo).toNat:Nat):Int) - ((0:Nat):Int)=Builtin.Range.rangeSize lo c 1:=by rw[rangeSize_one];split<;>ext
  show IsRangeIter _ _ (lo+((0:Nat):Int)*1) ((((c - lo).toNat:Nat):Int) - ((0:Nat):Int)) 1;rw[e1,e2];show b4 _ W
 .let e:b=(s.heap.push {cls:=.type "range",data:=.fields #v[.int lo t,.int c u,.int 1 v]}).objs.size:=by simpa using i
  subst e;show h.aa1 (UU _) (h.V4.fresh (UU _))
def KQ(c:TA):TI:=λa H R=>c a H λe b=>∃j:Int,e=[.int j]/\ -(2^62)<=j/\j<2^62/\R (Sr 0 j.toNat) b
def Bx(o:Gl X "range")(hm:X.mg "range"=P)(c:PA X [a] C)(n:U7 [a] X.env=[(UL,eval a X.env)]:=by rfl):PI X Z (.Call (.Name "range" p) [a] [] pos) (KQ C):=by
 intro b s g H R I h;show Call_ (kh I o hm boot_range (Wr (bP (c pos b s g H _ I h) λv w #[A,y,u,l,f]=>?_) n W));let(j,e,f,m,q):=f;subst e;cases l with
 |cons r i=>ext i;let(t,rfl):=r;show call_range_1 (Gf u () () f m (by simpa using q))
def Ie(e:TI)(g:TG)(c:TS):TS:=λD a H=>e a H λJ h=>∃W:Nat->Nat->St->Hp->Prop,(∃m,W 0 m a h)/\∀i m a H,W i m a H->
 (J.stop i H/\D.nx a H)\/(J.go i H/\∃N:St->Hp->Prop,(∀j l,N j l->∃n,n<m/\W (i+1) n j l)/\∀x l,J.yld i H x l->g x a l λb f=>c {D with nx:=N,ct:=N,bk:=D.nx} b f)
def oJ(a:G J)(h:Heap):G (J×Obj):=a.filterMap λb=>(h.get? b).map λo=>(b,o)
theorem iP(a:b∈C)(e:h.get? b=M o):(b,o)∈oJ C h:=X6.mpr #[b,a,by rw[e];rfl]
def BF(a:p∈oJ C h):p.1∈C/\h.get? p.1=M p.2:=by
 let(b,f,e):=X6.mp a;cases q:h.get? b with
 |none=>rw[q]at e;ext e
 |some o=>rw[q]at e;let g:=Vd e;subst g;show#[f,q]
theorem Inv.pinned(I:Inv X pins σ H s)(i:∀b∈fp,kL X pins H b)(h:∀b∈fp,∃o,s.heap.get? b=M o/\∀v,o.data≠.cell v):Inv X (pins++oJ fp s.heap) σ H s:=
 I.abO λp g=>(Vo.mp g).elim (λz=>I.pin p (Vp _ z)) λz=>by let(a,e):=BF z;let(m,l,j,_):=i p.1 a;let(o,f,d):=h p.1 a;rw[e]at f;ext f;show#[e,m,l,j,d]
theorem Inv.Zm(I:Inv X (pins++pl) σ H s):Inv X pins σ H s:=I.abO λp a=>I.pin p (Vp _ (VU _ a))
def Oq(M:aaq (model X.prog X.w) X.A X.env X.xe)(c:X.calm=UJ)(z:PI X Z iter wi)(V:PG X Z g)(p:PSs X body tb)
  (k:∀x,foldedSetIterable iter X.env x=pure x:=by intro _;rfl):PS X (.For Z iter body [] pos) (Ie wi g tb):=by
 intro j s σ H D I h;show wpAny_For (bP (z j s σ H _ I h) λv s1 h1=>bP h1 λitv s2 h2=>?_) k;let(it,P,tn,J,H2,e,I2,T,S,f2,W,(m0,w0),turn):=h2;subst e;let F:∀{B:Hp},(∀b∈P,B b=lD)->∀b∈P,kL X j B b:=λhn b p=>#[hn b p,(f2 b p).2];show codeAny_forLoop_any (λn s'=>∃i A B,Inv X j A B s'/\tn i s'.heap/\(∀b∈P,B b=lD)/\W i n A B) ?_ m0 #[0,σ,H2,I2,S,λb p=>(f2 b p).1,w0];rintro n s3 ⟨i,l,Q,I3,K,O,w3⟩;rcases turn i n l Q w3 with⟨G,qn⟩|⟨go,N,hN,step⟩
 .show Xb M (bP (T.done X rfl rfl rfl c i j s3 l Q X.xe I3 (F O) K G) λr s4 #[Y,I4]=>?_);subst Y;show Za #[l,Q,I4,qn]
 .show Xb M (bP (T.item X rfl rfl rfl c i j s3 l Q X.xe I3 (F O) K go) λr s4 #[u,Y,h4]=>?_)
  subst Y;show Xb M (bP h4 λ_ s5 a=>?_);let(x,H5,I5,r5,y5,E,fr5):=a;let I5':=I5.pinned (F fr5) (T.obj _ _ E);show Xb M (bP (V _ s5 l H5 x u _ I5' r5 (step x H5 y5)) λ_ s6 a=>?_);let(w,H6,I6,q6):=a;show Xb M (bP (p _ s6 w H6 _ I6 q6) λf U C=>?_);let q:∀{a:St} {y:Hp},Inv X (j++oJ P s5.heap) a y U->N a y->∃m,m<n/\∃i A B,Inv X j A B U/\tn i U.heap/\(∀b∈P,B b=lD)/\W i m A B:=λ{a y} t L=>by let(m',hm,w7):=hN a y L;show#[m',hm,i+1,a,y,t.Zm,T.keep _ _ _ E λb p o e=>(t.pin (b,o) (Vp _ (Vp _ (iP p e)))).1,λb p=>?_,w7];let(o,e,d):=T.obj _ _ E b p;show(t.pin (b,o) (Vp _ (Vp _ (iP p e)))).2.1
  cases f with
  |next=>let(a,y,t,L):=C;show q t L
  |cont=>let(a,y,t,L):=C;show q t L
  |brk=>let(a,y,t,C):=C;show#[a,y,t.Zm,C]
  |ret v=>let(x7,a,y,t,r7,C):=C;show#[x7,a,y,t.Zm,r7,C]
end
abbrev R2:=V->V->Hp->VK->Prop
def OpR(X:Cx)(f:U->U->Sem U)(r:R2):Prop:=
 ∀(a:G (J×Obj)) (s:UQ) (b:St) (H:Hp) (x y:V) (v u:U) (Q:VK),Inv X a b H s->RelV x v->RelV y u->r x y H Q->
  wpAny (model X.prog X.w) X.A (f v u) (EP X a b Q) X.xe s
def Xg(X:Cx)(f:U)(r:G V->Hp->VK->Prop):Prop:=
 ∀(a:G (J×Obj)) (s:UQ) (b:St) (H:Hp) (xs:G V) (e:G U) (Q:VK),Inv X a b H s->Vals xs e->r xs H Q->
  wpAny (model X.prog X.w) X.A (call f e) (EP X a b Q) X.xe s
def Gk(r:R2)(d c:TE):TE:=λa H Q=>d a H λx e=>c a e λy b=>r x y b Q
def rI(C:Int->Int->Prop)(g:Int->Int->V):R2:=λx y H Q=>∃i j,x=.int i/\y=.int j/\C i j/\Q (g i j) H
def ui(g:Int->Int->V):R2:=λx y H Q=>∃i j,x=.int i/\y=.int j/\Q (g i j) H
section
variable{X:Cx}{a b c:Va}{Y Z O:TE}{T:Pos}
def NP(r:PE X a Y)(n:PE X b Z){R:V->V->Hp->Prop}(I:Inv X pins σ H s)
  (h:Y σ H λx H1=>Z σ H1 λy d=>R x y d) {f:U->U->Sem U}
  (m:∀v u s2 x y d,Inv X pins σ d s2->RelV x v->RelV y u->R x y d->wpAny (model X.prog X.w) X.A (f v u) Q X.xe s2):
  wpAny (model X.prog X.w) X.A (eval a X.env) (λv q=>wpAny (model X.prog X.w) X.A (eval b X.env) (λu k=>wpAny (model X.prog X.w) X.A (f v u) Q X.xe k) X.xe q) X.xe s:=by
 show bP (r pins s σ H _ I h) λv e a=>?_;let(x,H1,p,i,l):=a;show bP (n pins e σ H1 _ p l) λu s2 a=>?_;let(y,d,o,g,j):=a;show m v u s2 x y d o i g j
def Sa(l:OpR X (Wu op) r)(d:PE X a Y)(m:PE X b Z):PE X (.BinOp a op b T) (Gk r Y Z):=by intro e s f H Q I h;show wpAny_BinOp (NP d m I h λv u g x y o n j i q=>l e g f o x y v u Q n j i q)
def Q5{g:Int->Int->Int}
  (e:∀(i j:Int) (t u:Tok) (s:UQ) (Q:U->UQ->Prop) (E:U->UQ->Prop),C i j->Q (.int (g i j) s.toks) {s with toks:=s.toks+1}->wpAny (model X.prog X.w) X.A (f (.int i t) (.int j u)) Q E s):
  OpR X f (rI C λi j=>.int (g i j)):=by
 intro l s r H x y v u Q I o n h;let(i,j,rfl,rfl,p,q):=h;let(t,rfl):=o;let(m,rfl):=n;show e i j t m s _ _ p #[.int (g i j),H,I.tok _,#[_,W],q]
def M5{g:Int->Int->Int}
  (e:∀(i j:Int) (t u:Tok) (s:UQ) (Q:U->UQ->Prop) (E:U->UQ->Prop),Q (.int (g i j) s.toks) {s with toks:=s.toks+1}->wpAny (model X.prog X.w) X.A (f (.int i t) (.int j u)) Q E s):
  OpR X f (ui λi j=>.int (g i j)):=by
 intro l s p H x y v u Q I o n h;let(i,j,rfl,rfl,q):=h;let(t,rfl):=o;let(m,rfl):=n;show e i j t m s _ _ #[.int (g i j),H,I.tok _,#[_,W],q]
def Gz{g:Int->Int->Bool}
  (e:∀(i j:Int) (t u:Tok) (s:UQ) (Q:U->UQ->Prop) (E:U->UQ->Prop),Q (.bool (g i j)) s->wpAny (model X.prog X.w) X.A (f (.int i t) (.int j u)) Q E s):
  OpR X f (ui λi j=>.bl (g i j)):=by
 intro l s p H x y v u Q I o n h;let(i,j,rfl,rfl,q):=h;let(t,rfl):=o;let(m,rfl):=n;show e i j t m s _ _ #[.bl (g i j),H,I,W,q]
def Ou(i j:Int):Prop:=0<=j/\j<=1000000/\i.natAbs<2^64
def adF(i j:Int):Prop:=(-(2^64)<i/\i<2^64)\/(-(2^64)<j/\j<2^64)
def adF.ok(h:adF i j):IntMulOk i j:=by
 rcases h with⟨f,e⟩|⟨f,e⟩
 .show .of_left (ajD f e)
 .show .of_right (ajD f e)
def two_pow_nn(k:Nat):(0:Int)<=2^k:=by rw[two_pow_cast];show Int.natCast_nonneg _
theorem OA:OpR X (Wu .Add) (ui λi j=>.int (i+j)):=M5 λ_ _ _ _ _ _ _ q=>add_int q
theorem Pp:OpR X (Wu .Sub) (ui λi j=>.int (i - j)):=M5 λ_ _ _ _ _ _ _ q=>sub_int q
theorem NO:OpR X (Wu .Mult) (rI adF λi j=>.int (i*j)):=Q5 λ_ _ _ _ _ _ _ e q=>mul_int q e.ok
theorem Nl:OpR X (Wu .Mod) (rI (λ_ j=>0<j) λi j=>.int (i % j)):=Q5 λi j _ _ _ _ _ e q=>by let f:(0:Int)<j:=e;show mod_int' () (by rw[Int.fmod_eq_emod_of_nonneg i ()];show q)
theorem M8:OpR X (Wu .Pow) (rI Ou λi j=>.int (i^j.toNat)):=Q5 λ_ _ _ _ _ _ _ e q=>pow_int_small e.1 e.2.1 e.2.2 q
theorem ME:OpR X (Wu .RShift) (rI (λ_ j=>0<=j) λi j=>.int (i/2^j.toNat)):=Q5 λi j _ _ _ _ _ e q=>
 rshift_int e (by rw[aar i (two_pow_nn _)];show q)
theorem MO:OpR X (Wu .BitAnd) (ui λi j=>.int (Builtin.bitAnd i j)):=M5 λ_ _ _ _ _ _ _ q=>and_int q
end
section
variable{X:Cx}{a b c:Va}{Y Z U:TE}{pos:Pos}
def Dl(I:Inv X pins σ H s)(q:Q (.bl k) H)(e:k=o):EP X pins σ Q (.bool o) s:=by subst e;show#[.bl k,H,I,W,q]
theorem Qd:OpR X (V1 .Lt) (ui λi j=>.bl (decide (i<j))):=Gz λ_ _ _ _ _ _ _ q=>lt_int q
theorem RK:OpR X (V1 .LtE) (ui λi j=>.bl (decide (i<=j))):=Gz λ_ _ _ _ _ _ _ q=>le_int q
theorem RF:OpR X (V1 .Gt) (ui λi j=>.bl (decide (j<i))):=Gz λ_ _ _ _ _ _ _ q=>gt_int q
theorem Rx:OpR X (V1 .GtE) (ui λi j=>.bl (decide (j<=i))):=Gz λ_ _ _ _ _ _ _ q=>ge_int q
def MK:OpR X (V1 .Is) (λx y H Q=>y=.W9/\Q (.bl (decide (x=.W9))) H):=by
 intro f s i H x y v u Q I e g h;let(rfl,q):=h;ext g;show is_none_gen (Dl I q ?_);ext x<;>first
  |(ext e;rfl)
  |(let(t,rfl):=e;rfl)
def II:OpR X (V1 .IsNot) (λx y H Q=>y=.W9/\Q (.bl (!decide (x=.W9))) H):=by
 intro f s i H x y v u Q I e g h;let(rfl,q):=h;ext g;show isnot_none_gen (Dl I q ?_);ext x<;>first
  |(ext e;rfl)
  |(let(t,rfl):=e;rfl)
def GH{op:aaF}{r:R2}(l:OpR X (V1 op) r)(d:PE X a Y)(m:PE X b Z)(hm:behindInMarks op b=R):PE X (.Compare a [op] [b] pos) (Gk r Y Z):=by intro e s f H Q I h;show ahw (NP d m I h λv u g x y o n j i q=>l e g f o x y v u Q n j i q) hm
def rN(t:TE):TT:=λe H Q=>t e H λx f=>∃k,x=.bl k/\Q k f
def Hw(t:OpR X (V1 op) r)(d:PE X a Y)(w:PE X b Z)(hm:behindInMarks op b=R):PT X (.Compare a [op] [b] pos) (rN (Gk r Y Z)):=by
 intro f s g H Q I h;show acX (bP (d f s g H _ I h) λv j #[x,G,C,n,q]=>bP (w f j g G _ C q) λu i #[y,F,B,m,p]=>
  bP (t f i g F x y v u _ B n m p) λc J a=>?_) hm;let(z,E,A,l,k,e,o):=a
 subst e;ext l;show Wk #[E,A,o]
def wB(r h:R2)(Y Z U:TE):TE:=λe H Q=>Y e H λx l=>Z e l λy j=>r x y j λz f=>∃k,z=.bl k/\
 (if k=S then U e f λg i=>h y g i Q else Q (.bl R) f)
def CZ(K:OpR X (V1 op) r)(i:OpR X (V1 op') r')(D:PE X a Y)(M:PE X b Z)(L:PE X c U)
  (hm:lastMarks [op,op'] [b,c]=UL:=by with_unfolding_all rfl):PE X (.Compare a [op,op'] [b,c] pos) (wB r r' Y Z U):=by
 intro f s g H Q I h;show Compare_chain (bP (D f s g H _ I h) λv A #[x,T,Pz0,E,J2]=>chain_link (bP (M f A g T _ Pz0 J2) λu w #[y,S1,O,j,G]=>
  bP (K f w g S1 x y v u _ O E j G) λd t a=>?_)) hm;let(z,n,m,C,k,e,l):=a
 subst e;ext C;show Wk ?_;cases k with
 |false=>show ite_ff #[.bl UL,n,m,W,l]
 |true=>show ite_tt (chain_last (bP (L f t g n _ m l) λp q #[o,R1,N,B,F]=>i f q g R1 y o u p Q N j B F))
def DK(N:OpR X (V1 op) r)(i:OpR X (V1 op') r')(D:PE X a Y)(P:PE X b Z)(O:PE X c U)
  (hm:lastMarks [op,op'] [b,c]=UL:=by with_unfolding_all rfl):PT X (.Compare a [op,op'] [b,c] pos) (rN (wB r r' Y Z U)):=by
 intro f s g H Q I h;show isTrue_chain (bP (D f s g H _ I h) λv A #[x,H1,I1,F,L]=>test_link (bP (P f A g H1 _ I1 L) λu w #[y,H2,I2,j,K]=>
  bP (N f w g H2 x y v u _ I2 F j K) λd t a=>?_)) hm;let(z,n,m,E,k,e,l):=a
 subst e;ext E;show Wk ?_;cases k with
 |false=>let(k',R,M):=l;ext R;show ite_ff #[n,m,M]
 |true=>show ite_tt (test_last (bP (O f t g n _ m l) λp q #[o,H4,T,C,J2]=>bP (i f q g H4 y o u p _ T j C J2) λd' s5 a=>?_));let(z2,H5,S1,B,k2,e2,G):=a;subst e2;ext B;show Wk #[H5,S1,G]
def r9:(UY:Nat)<2^63:=by rw[W5];decide
def xT:OpR X (Wu .Add) (λx y H Q=>∃i j,x=.str i/\y=.str j/\i.length+j.length<=UY/\Q (.str (i++j)) H):=by intro e s n H x y v u Q I l g h;let(i,j,rfl,rfl,m,q):=h;let(t,rfl):=l;let(f,rfl):=g;show add_str (λf o=>#[.str (i++j),H,I.tok _,#[_,W],q]) m
def ju(r:Vals [x] us):∃u,us=[u]/\RelV x u:=by
 cases r with
 |cons f e=>ext e;show#[_,W,f]
def D2(r:Vals [x,y] us):∃u d,us=[u,d]/\RelV x u/\RelV y d:=by
 cases r with
 |cons h g=>
  cases g with
  |cons f e=>ext e;show#[_,_,W,h,f]
def BL(g:X.calm=S):Xg X (.builtin "max") (λxs H Q=>∃i j,xs=[.int i,.int j]/\Q (.int (if j>i then j else i)) H):=by
 intro f s l H xs n Q I r h;let(i,j,rfl,q):=h;let(u,m,rfl,(t,rfl),(p,rfl)):=D2 r;show max_two_ints (I.ok.hd g) λv o k=>#[_,H,I.kept k,?_,q];by_cases e:j>i
 .rw[ax e,ax e];show#[_,W]
 .rw[a3 e,a3 e];show#[_,W]
def L5(K:CL)(x:V)(H:Hp)(n:Nat):Prop:=
 match x with
 |.str y=>y.length<=UY/\n=y.length
 |.byt y=>y.size<=UY/\n=y.size
 |.ref p=>(∃xs,Yk K H p xs/\n=xs.length)\/∃xs,Yr K H p xs/\n=xs.length
 |_=>False
def uW:Xg X (.builtin "len") (λxs H Q=>∃x n,xs=[x]/\L5 X.K x H n/\Q (.int n) H):=by
 intro m s A H xs B Q I r h;let(x,n,rfl,e,q):=h;let(u,rfl,i):=ju r;let E:=r9;let C:=W5;cases x with
 |str y=>let(t,rfl):=i;let(v,g):=e;subst g;show len_str () #[.int _,H,I.tok _,#[_,W],q]
 |byt y=>let(t,rfl):=i;let(v,g):=e;subst g;show PySem.W.len_bytes () #[.int _,H,I.tok _,#[_,W],q]
 |ref p=>
  ext i;let g:=e;rcases g with⟨xs,l,g⟩|⟨xs,l,g⟩
  .subst g;let(w,j,pl,o):=I.list l;let f:=j.length;show Calls.call_len_list pl.isList (by simp only[U3];ext) #[.int xs.length,H,I.tok _,#[_,by simp only[U3];rw[f]],q]
  .subst g;let(w,j,pl,o):=I.tuple l;let f:=j.length;show len_tuple pl (by simp only[U3];ext) #[.int xs.length,H,I.tok _,#[_,by simp only[U3];rw[f]],q]
 |_=>show(show False from e).elim
end
structure abz(h:Heap)(x dx C:J)(mA:Str->I U):Prop where
 obj:h.get? x=M (WG C dx)
 ns:h.Ns1 dx mA
 ne:dx≠x
def AR{h:Heap}(n:h.Ns1 dx C):∃c,h.get? dx=M c/\∀name,YI name c=M (C name):=by
 let(o,es,m,g,j,i,_,hm):=n;show#[o,g,λname=>?_];let e:=hm name;unfold nsFind findBy at e;rw[<-abU]at e;ext YI;rw[j];dsimp only;split
 .rename_i y q;rw[q]at e;show dt M e
 .rename_i q
  rw[q]at e;let a:es.toList.any (·.refKey)=R:=by rw[List.any_eq_false];intro y f;let(z,t,b):=i y (Array.mem_toList_iff.mp f);simp[XD.refKey,b]
  let l:¬es.toList.any (·.refKey)=S:=by rw[a];show Ve
  rw[a3 l];show dt M e
theorem abz.look(I:abz h x dx C mA):∃a,PySem.W.InstAt h x (WG C dx) C (M a)/\∀name,YI name a=M (mA name):=
 let#[a,b,e]:=AR I.ns
 #[a,#[I.obj,W,W,b],e]
section
variable{T:Vc}{w:Vw}{A:Vq}{E:UI->UQ->Prop}{s:UQ}{K:CL}{x O C f:UP}{Z:Str->bg UI}{Y:Str}{v:UI}
def G3(X:K.In s.heap)(I:abz s.heap x O C Z)(i:Xz K C Y=S)(g:X7 K C=S)
  (c:VH K (.ref C) Y=M P) (b:Z Y=M v) (a:abV v=S) (h:Q v {s with toks:=s.toks+1}):
  wpAny (model T w) A (getAttr (.ref x) Y expr) Q E s:=by
 let(j,J,e):=I.look;show PySem.W.get_value X J (YV i).1 (PySem.W.findObj_own g c W (by rw[e,b])) a h
def Cp(X:K.In s.heap)(I:abz s.heap x O C Z)(a:Xz K C Y=S)
  (j:VH K (.ref C) Y=M (M (.ref f))) (g:WX K (.ref f)=S) (e:Z Y=P) (h:Q (.ref f,[.ref x]) s):
  wpAny (model T w) A (getMethod (.ref x) Y pl) Q E s:=by
 let(b,J,i):=I.look;show PySem.W.method_fn X J (YV a).1 (YV a).2 j (beq_iff_eq.mp g) (by show(YI Y b).map (·.isSome)=M R;rw[i,e];rfl) h
def Hr(X:K.In s.heap)(I:abz s.heap x O C Z)
  (p:VH K (.ref C) "__setattr__"=M (M (.builtin "object.__setattr__"))) (q:Zh K C=S) (o:ZE K C Y=M P) (r:X7 K C=S)
  (n:aaL Z ns) (d:ns.length<=UY)
  (h:∀c,abz c x O C (λy=>if y=Y then M v else Z y)->Heap.SameBut O s.heap c->Q ⟨⟩ {s with heap:=c,toks:=s.toks+2}):
  wpAny (model T w) A (setAttr (.ref x) Y v) Q E s:=by
 let(F,J,H):=I.look;show PySem.W.set_plain X J p (PySem.W.osa_open X J q o λb=>?_);let(L,t,i):=PySem.W.any_some r;let m:=I.obj;show Ld (UR (Ld (Ld (ahy m (Ld (afj (PySem.W.looks_clsIn X t) ?_))))));rw[i];show UR (Ld (UR (Ld ?_)));show wpAny_nsSet1 I.ns λc a l=>?_;let(G,u,B,e,g,j):=a.count (agp Y v n);show Ld (afk e (by rw[g];show afl (Vv j (by rw[U4];ext))) ?_);show UR (h _ #[(l.2 _ (da I.ne)).trans I.obj,a,I.ne] l)
def Fy{R:Zu->UQ->Prop}{c:G U}{b:G (Str×U)}(X:K.In s.heap)(hm:ZF K C=S)
  (k:VH K (.ref C) "__init__"=M (M (.ref f))) (e:acr K (.ref f)=M (.type "function"))
  (h:codeAny (model T w) (A.under (.builtin "type.__call__" #[.ref C::c,b])) (.call (.ref f) #[.ref (s.heap.objs.size+1)::c,b]) (PySem.W.InitBack (s.heap.objs.size+1) R)
   {s with heap:=(s.heap.push Wb).push (WG C s.heap.objs.size)}):
  codeAny (model T w) A (.call (.ref C) #[c,b]) R s:=by
 let(j,g,d,t,i):=s;show PySem.W.make_core (PySem.W.makes_of X hm) (PySem.W.looks_findIn X k) (λa=>PySem.W.bind_fn X a e) (.inl W) h
end
def g6(f:Str)(v:V):G (Str×V)->G (Str×V)
 |[]=>[(f,v)]
 |(g,x)::r=>if g=f then(g,v)::r else(g,x)::g6 f v r
theorem mI(f g:Str)(v:V):∀fs:G (Str×V),(g6 f v fs).lookup g=if g=f then M v else fs.lookup g
 |[]=>by
  show WL g [(f,v)]=_;by_cases h:g=f
  .let a:=beq_iff_eq.mpr h;simp only[WL,a,ax h]
  .let a:=beq_eq_false_iff_ne.mpr h;simp only[WL,a,a3 h]
 |(k,x)::r=>by
  let i:=mI f g v r;rw[show g6 f v ((k,x)::r)=(if k=f then(k,v)::r else(k,x)::g6 f v r)from rfl];by_cases b:k=f
  .rw[ax b]
   by_cases h:g=k
   .let a:=beq_iff_eq.mpr h;simp only[WL,a,ax (h.trans b)]
   .let a:=beq_eq_false_iff_ne.mpr h;simp only[WL,a,a3 (λe:g=f=>h (e.trans b.symm))]
  .rw[a3 b]
   by_cases h:g=k
   .let a:=beq_iff_eq.mpr h;simp only[WL,a,a3 (λe:g=f=>b (h.symm.trans e))]
   .let a:=beq_eq_false_iff_ne.mpr h;simp only[WL,a];show i
theorem lJ(f:Str)(v:V):∀fs:G (Str×V),f∈(g6 f v fs).map (·.1)/\∀g,g∈fs.map (·.1)->g∈(g6 f v fs).map (·.1)
 |[]=>#[by simp[g6],λg h=>by simp at h]
 |(k,x)::r=>by
  let(i,b):=lJ f v r;rw[show g6 f v ((k,x)::r)=(if k=f then(k,v)::r else(k,x)::g6 f v r)from rfl];by_cases a:k=f
  .rw[ax a];subst a;show#[by simp,λg h=>by simpa using h]
  .rw[a3 a]
   show#[?_,λg h=>?_]
   .rw[U5];show UX _ i
   .rw[U5]at h⊢
    rcases Vh.mp h with e|e
    .show Vh.mpr (.inl e)
    .show UX _ (b g e)
theorem mE(f:Str)(v:V):∀fs:G (Str×V),(g6 f v fs).length<=fs.length+1
 |[]=>by simp[g6]
 |(k,x)::r=>by
  let b:=mE f v r;rw[show g6 f v ((k,x)::r)=(if k=f then(k,v)::r else(k,x)::g6 f v r)from rfl];by_cases a:k=f
  .rw[ax a,U4,U4];ext
  .rw[a3 a,U4,U4];ext
def Yi.some_of(r:Yi (M v) o):∃u,o=M u/\RelV v u:=by
 cases o with
 |none=>show(show False from r).elim
 |some u=>show#[u,W,r]
def Yi.none_of(r:Yi P o):o=P:=by
 cases o with
 |none=>rfl
 |some u=>show(show False from r).elim
def Aw(r:RelV v u):abV u=S:=by
 cases v with
 |W9=>cases(show u=UI.none from r);rfl
 |bl b=>cases(show u=UI.bool b from r);rfl
 |int i=>let(t,e):=(show∃t,u=UI.int i t from r);ext e;rfl
 |str x=>let(t,e):=(show∃t,u=UI.str x t from r);ext e;rfl
 |byt b=>let(t,e):=(show∃t,u=UI.bytes b t from r);ext e;rfl
 |flt b=>let(t,e):=(show∃t,u=UI.float b t from r);ext e;rfl
 |ref a=>cases(show u=UI.ref a from r);rfl
 |ty n=>cases(show u=UI.type n from r);rfl
section
variable{P:Vc}{w:Vw}{H X:Hp}{h T:Heap}{a C Z:UP}{fs Y:bb (Str×V)}
def sD(V4:YT P w H h)(e:H a=M (.ins C Z fs)):∃c,abz h a Z C c/\(∀f,Yi (fs.lookup f) (c f))/\aaL c (fs.map (·.1))/\fs.length<=1000/\H Z=M (.own a):=by let(d,z,ne,b,c,n,r,q):=(show ObjOk P w H h a (.ins C Z fs)from V4 a _ e);show#[c,#[b,n,ne],r,q,z,d]
end
structure Cls(K:CL)(C:J):Prop where
 pg:Xz K C Str.empty=S
 hd:X7 K C=S
 po:Zh K C=S
 sa:VH K (.ref C) "__setattr__"=M (M (.builtin "object.__setattr__"))
theorem Cls.get{K:CL}(c:Cls K C)(f:Str):Xz K C f=S:=c.pg
def Ya(K:CL)(C:J)(f:Str):Prop:=VH K (.ref C) f=M P
def Ya.agb{K:CL}(n:Ya K C f):ZE K C f=M P:=by ext ZE;rw[show VH K (.ref C) f=M P from n];rfl
structure Con(K:CL)(C:J)(f:Str)(v:V)(u:U):Prop where
 at_:VH K (.ref C) f=M (M u)
 rel:RelV v u
 get:Xr K u "__get__"=M P
 cp:PySem.W.copiedNames.contains f=R
structure Meth(K:CL)(C:J)(m:Str)(f:J):Prop where
 at_:VH K (.ref C) m=M (M (.ref f))
 fn:WX K (.ref f)=S
 kp:Wn K (.ref f)=S
section
variable{X:Cx}{Z:bb (UP×Obj)}{Y:St}{H:Hp}{s:UQ}{a C T:UP}{fs:bb (Str×V)}{f:Str}{v:V}{A:Vq}{E:UI->UQ->Prop}
def yd(I:Inv X Z Y H s)(e:H a=M (.ins C T fs))(c:Cls X.K C)(n:Ya X.K C f)(l:fs.lookup f=M v)
  (h:∀u d,Inv X Z Y H d->RelV v u->Q u d):wpAny (model X.prog X.w) A (getAttr (.ref a) f b) Q E s:=by
 let(j,O,r,_,_,_):=sD I.V4 e;let(u,i,g):=Yi.some_of (by rw[<-l];show r f);show G3 I.ZX O (c.get f) c.hd n i (Aw g) (h u _ (I.tok _) g)
def oQ(I:Inv X Z Y H s)(e:H a=M (.ins C T fs))(c:Cls X.K C)(k:Meth X.K C m g)(l:fs.lookup m=P)
  (h:Q (.ref g,[.ref a]) s):wpAny (model X.prog X.w) A (getMethod (.ref a) m pl) Q E s:=by
 let(b,O,r,_,_,_):=sD I.V4 e;let i:=Yi.none_of (by rw[<-l];show r m);show Cp I.ZX O (c.get m) k.at_ k.fn i h
def x8(I:Inv X Z Y H s)(e:H a=cL (.ins C T fs))(c:Cls X.K C)(n:Ya X.K C f)(M:fs.length<1000)(t:RelV y u)
  (h:∀d,Inv X Z Y (aW H a (.ins C T (g6 f y fs))) d->Q ⟨⟩ d):wpAny (model X.prog X.w) A (setAttr (.ref a) f u) Q E s:=by
 let(l,O,r,j,_,m):=sD I.V4 e;let B:(fs.map (·.1)).length<=UY:=by rw[UK,W5];ext
 show Hr I.ZX O c.sa c.po n.agb c.hd j B λL i p=>h _ ?_;let G:∃o,L.get? T=cL o:=let#[o,_,_,w,_]:=i.ns;#[o,w]
 show I.write (by rw[e];show True.intro) (.inr m) (λb q J z=>(p.2 b J).trans z) G ?_;show#[by rw[au O.ne];show m,?_,O.ne,i.obj,_,i.ns,λg=>?_,λg F=>?_]
 .let:=mE f y fs;ext
 .show Yi ((g6 f y fs).lookup g) (if g=f then cL u else l g)
  rw[mI];by_cases q:g=f
  .rw[ax q,ax q];show t
  .rw[a3 q,a3 q];show r g
 .by_cases q:g=f
  .rw[q];show(lJ f y fs).1
  .show(lJ f y fs).2 g (j g λz=>F ?_);show(if g=f then cL u else l g)=P;rw[a3 q];show z
def Inv.made(I:Inv X Z Y H s):Inv X Z Y (aW (aW H s.heap.objs.size (.own (s.heap.objs.size+1))) (s.heap.objs.size+1) (.ins C s.heap.objs.size []))
  {s with heap:=(s.heap.push Wb).push (WG C s.heap.objs.size)}:=by
 let e1:(s.heap.push Wb).get? s.heap.objs.size=M Wb:=b4 s.heap W;let e2:((s.heap.push Wb).push (WG C s.heap.objs.size)).get? (s.heap.objs.size+1)=M (WG C s.heap.objs.size):=by let:=b4 (s.heap.push Wb) (o:=WG C s.heap.objs.size) W;rwa [cc]at this
 let e3:(s.heap.push Wb).Ns s.heap.objs.size (λ_=>P):=#[Wb,#v[],_,e1,W,(λe h=>a7 h (by simp)),λ_=>W];let i:=I.laid (a:=s.heap.objs.size) (o:=.own (s.heap.objs.size+1)) (h':=s.heap.push Wb) (t':=s.toks) (λb u q=>bt _ q) (UU _) #[_,e1];show i.laid (a:=s.heap.objs.size+1) (o:=.ins C s.heap.objs.size []) (t':=s.toks) (λb u q=>bt _ q) (afm (cc _ _)) ?_;let ne:s.heap.objs.size≠s.heap.objs.size+1:=Vg (XO _);show#[by rw[au ne,aC],Vu _,ne,e2,λ_=>P,(Heap.Ns1.of_empty e3).at λo q=>bt _ q,λ_=>True.intro,λy g=>a7 W g]
theorem Jq{prog:Vc}{w:Vw}{env:Env}{e:Va}{f:Str}{b:Pos}{s:UQ}{Q:U->UQ->Prop}(g:attributeBase e f env (eval e env)=eval e env)
  (h:wpAny (model prog w) A (eval e env) (λo c=>wpAny (model prog w) A (getAttr o f S) Q E c) E s):wpAny (model prog w) A (eval (.Attribute e f b) env) Q E s:=
 Attribute_any_ h (by rw[arm_eval_Attribute,g])
end
def OC(K:CL)(c:TE)(f:Str):TE:=λe H Q=>c e H λx b=>∃a C g fs v,x=.ref a/\b a=M (.ins C g fs)/\Cls K C/\Ya K C f/\fs.lookup f=M v/\Q v b
def Od(K:CL)(c g:TE)(f:Str):TS:=λD b H=>g b H λy h=>c b h λx e=>∃a C i fs,x=.ref a/\e a=M (.ins C i fs)/\Cls K C/\Ya K C f/\fs.length<1000/\
 D.nx b (aW e a (.ins C i (g6 f y fs)))
section
variable{X:Cx}{o e Z:Va}{f:Str}{T Y N:Pos}{U O:TE}
def MG(m:PE X e U)(p:attributeBase e f X.env (eval e X.env)=eval e X.env):PE X (.Attribute e f T) (OC X.K U f):=by intro b s g H Q I h;show Jq p (bP (m b s g H _ I h) λu F a=>?_);let(x,A,y,i,a,C,K,fs,v,r,t,c,n,l,q):=a;subst r;obtain rfl:=i;show yd y t c n l λB E w j=>#[v,A,w,j,q]
def Nb(d:PE X o U)(r:PE X Z O)(t:Xe Z (cL (.Attribute o f Y)) T.line X.env=pure R):PS X (.Assign [.Attribute o f Y] Z T) (Od X.K U O f):=by intro b s g H D I h;show aag (bP (r b s g H _ I h) λu i #[y,F,E,j,q]=>bP (d b i g F _ E q) λL J a=>?_) t;let(x,K,B,m,a,C,Q,fs,v,w,c,n,l,p):=a;subst v;obtain rfl:=m;show x8 B w c n l j λG A=>#[g,_,A,p]
end
section
variable{X:Cx}{Z:bb (UP×Obj)}{Y:St}{H:Hp}{s:UQ}{A:Vq}{E:UI->UQ->Prop}{Q:UI->UQ->Prop}{c:UI}{b:Bool}
inductive Z2(K:CL)(H:Hp):V->U->Prop where
 |W9:Z2 K H .W9 (.type "NoneType")
 |bl (x:Bool):Z2 K H (.bl x) (.type "bool")
 |int (i:Int):Z2 K H (.int i) (.type "int")
 |str (x:Str):Z2 K H (.str x) (.type "str")
 |flt (x:UInt64):Z2 K H (.flt x) (.type "float")
 |lst {a:J} {xs:G V} (e:H a=M (.lst xs)):Z2 K H (.ref a) (.type "list")
 |frz {a:J} {o:Obj} {xs:G V} (e:H a=M (.frz o (.lst xs))):Z2 K H (.ref a) (.type "list")
 |tup {a:J} {xs:G V} (e:H a=M (.tup xs)):Z2 K H (.ref a) (.type "tuple")
 |dK {a:J} {Vi:G (b9×V)} (e:H a=M (.dK Vi)):Z2 K H (.ref a) (.type "dict")
 |dT {a:J} {Vi:G (G b9×V)} (e:H a=M (.dT Vi)):Z2 K H (.ref a) (.type "dict")
 |ins {a C dx:J} {fs:G (Str×V)} (e:H a=M (.ins C dx fs)) (cl:Cls K C) (ha:VH K (.ref C) "__class__"=M (M (.builtin "object.__class__")))
   (hn:Xr K (.builtin "object.__class__") "__get__"=M (M (.builtin "getset_descriptor.__get__"))) (htk:PySem.W.takesIn K (.builtin "object.__class__")=M S)
   (hm:PySem.W.mroIn K C (.type "object")=M S):Z2 K H (.ref a) (.ref C)
end
structure WC(k:Nat)(A:Vq):Prop where
 hd:A.handled=P
 dp:A.depth+3*k+5<recursionLimit
 un:A.units+16*k+200<cLine
theorem WC.mono(r:WC k A)(h:j<=k):WC j A:=#[r.hd,by let:=r.dp;ext,by let:=r.un;ext]
theorem WC.deeper(r:WC (k+1) A)(env:Env):WC k (A.deeper env):=
 #[r.hd,by let:=r.dp;show A.depth+1+3*k+5<_;ext,by let:=r.un;show A.units+3+16*k+200<_;ext]
def xy{A:Vq}:(A.under (.builtin "type.__call__" #[.ref C::us,kw])).depth=A.depth+1:=by
 first|rfl|simp[Vq.under,abb.weight,abb.isCreation,abb.isGuard,abb.isCaller,abb.frames,abb.isFrame,guardIds]
def xm{A:Vq}:(A.under (.builtin "type.__call__" #[.ref C::us,kw])).units=A.units+1:=by
 first|rfl|simp[Vq.under,abb.cUnits,abb.frames,abb.isFrame]
theorem WC.make(r:WC (k+1) A)(C:J)(us:G U)(a:G (Str×U)):WC k (A.under (.builtin "type.__call__" #[.ref C::us,a])):=
 #[r.hd,by let:=r.dp;rw[xy];ext,by let:=r.un;rw[xm];ext]
def WC.depth(r:WC k A):A.depth<recursionLimit:=by let:=r.dp;ext
def WC.units(r:WC k A):A.units+64<cLine:=by let:=r.un;ext
def jU:TA:=λ_ H Q=>Q [] H
def im(c:TE)(b:TA):TA:=λa H Q=>c a H λx f=>b a f λxs e=>Q (x::xs) e
section
variable{X:Cx}{e:Va}{es:bb Va}{Y:TE}{t:TA}{Z:Pos}
theorem lM:PA X [] jU:=λ_ _ _ _ H Q I h=>Calls.spliced_nil #[[],H,I,.nil,h]
def iG(c:PE X e Y)(n:PA X es t)(m:U7 (e::es) X.env=(R,eval e X.env)::U7 es X.env:=by rfl):PA X (e::es) (im Y t):=by intro Z a s b H Q I h;rw[m];show Calls.spliced_cons (bP (c a s b H _ I h) λu f a=>?_);let(x,r,p,i,l):=a;show bP (n Z a f b r _ p l) λv w #[xs,q,o,g,j]=>#[x::xs,q,o,.cons i g,j]
def GM(t:TA):TE:=λb H Q=>t b H λxs a=>xs.length<=UY/\∀p,a p=P->Q (.ref p) (aW a p (.tup xs))
def O8(t:TA):TE:=λb H Q=>t b H λxs a=>xs.length<=UY/\∀p,a p=P->Q (.ref p) (aW a p (.lst xs))
def Mf{c}(h:PA X es t):PE X (.Tuple es c Z) (GM t):=by intro a s i H Q I l;show wpAny_Tuple_spliced (bP (h Z a s i H _ I l) λj f #[xs,n,g,r,z,q]=>#[by rw[<-r.length];show z,?_]);let m:=g.V4.fresh (UU _);show#[.ref f.heap.objs.size,aW n f.heap.objs.size (.tup xs),g.laid (λb u e=>bt _ e) (UU _) ?_,W,q _ m];show#[z,j,r,#[_,b4 _ W,#[W,_,W],W]]
def Oc(h:PA X es t):PE X (.List es Z) (O8 t):=by intro a s i H Q I l;show wpAny_List_spliced (bP (h Z a s i H _ I l) λj f #[xs,n,g,r,z,q]=>#[by rw[<-r.length];show z,?_]);let m:=g.V4.fresh (UU _);show#[.ref f.heap.objs.size,aW n f.heap.objs.size (.lst xs),g.laid (λb u e=>bt _ e) (UU _) ?_,W,q _ m];show#[z,j,0,r,b4 _ W]
end
abbrev Sp:=G V->Hp->VK->XK->Prop
abbrev tE:=G Env->Hp->UQ->XK->U->UQ->Prop
structure Env0(P:Vc)(w:Vw)(K:CL)(mg:Str->I U)(base:Heap)(A:Vq)(outer:G Env)(s:UQ)(H:Hp):Prop where
 frames:A.frames=M outer
 mod:Mod K mg base
 bs:∀b o,base.get? b=M o->s.heap.get? b=M o/\H b=lD
 bsz:base.objs.size<=s.heap.objs.size
 Zz:s.heap.FunFrames base outer
 frf:∀b∈xK outer,H b=lD
 V4:YT P w H s.heap
 bare:AllBare s.gens
def CE(outer:G Env)(P:Vc)(w:Vw)(H:Hp)(s:UQ)(Q:VK)(u:U)(a:UQ):Prop:=
 ∃v b,a.os=s.os/\AllBare a.gens/\Un (xK outer) [] H b s.heap a.heap/\YT P w b a.heap/\RelV v u/\Q v b
def CR(b:tE)(outer:G Env)(P:Vc)(w:Vw)(H:Hp)(s:UQ)(Q:VK)(E:XK)(r:Zu)(a:UQ):Prop:=
 match r with
 |.ok (.ret u)=>CE outer P w H s Q u a
 |.ok _=>False
 |.error e=>b outer H s E e a
structure FnOk(P:Vc)(w:Vw)(K:CL)(mg:Str->I U)(base:Heap)(CX:tE)(k:Nat)(f:J)(fd:VT)(ps:G Str)(sp:Sp):Prop where
 len:∀vs H Q E,sp vs H Q E->vs.length=ps.length
 run:∀(A:Vq) (outer:G Env) (s:UQ) (H:Hp) (args:Args) (us:G U) (vs:G V) (Q:VK) (E:XK),WC k A->Env0 P w K mg base A outer s H->Y2 s fd args (ps.zip us)->Vals vs us->sp vs H Q E->
  codeAny (model P w) A (.call (.ref f) args) (CR CX outer P w H s Q E) s
theorem FnOk.imp{P:Vc}{w:Vw}{K:CL}{p:Str->I U}{base:Heap}{g:tE}{k:Nat}{f:J}{fd:VT}{d:G Str}{sp b:Sp}(F:FnOk P w K p base g k f fd d sp)
  (h:∀c H Q E,b c H Q E->sp c H Q E):FnOk P w K p base g k f fd d b:=
 #[λc H Q E q=>F.len c H Q E (h _ _ _ _ q),λA a s H e i c Q E m n o j l=>F.run A a s H e i c Q E m n o j (h _ _ _ _ l)]
theorem Env0.make{K:CL}(e:Env0 b w K mg base A outer s H)(C:J)(us:G U)(a:G (Str×U)):
  Env0 b w K mg base (A.under (.builtin "type.__call__" #[.ref C::us,a])) outer s H:=#[by first|show e.frames|(simpa [Vq.under,abb.envs,abb.isFrame,pushEnvs]using e.frames),e.mod,e.bs,e.bsz,e.Zz,e.frf,e.V4,e.bare]
section
variable{X:Cx}{Z:bb (UP×Obj)}{Y:St}{H:Hp}{s U:UQ}
theorem Inv.aeg(I:Inv X Z Y H s):Env0 X.prog X.w X.K X.mg X.base X.A X.stack s H:=
 #[I.ok.frames,I.ok.mod,I.bs,Vv I.ok.bsz I.sz,I.stack,I.aax,I.V4,I.bare]
def Inv.after{Q:VK}{u:UI}(I:Inv X Z Y H s)(h:CE X.stack X.prog X.w H s Q u U):EP X Z Y Q u U:=by let(v,j,f,a,un,V4,r,q):=h;let(i,g,d,t,e):=U;obtain rfl:e=s.os:=f;show#[v,j,I.call (h':=i) (g':=g) (d':=d) (t':=t) (ch:=[]) un V4 a (λb z=>a7 z (by simp)),r,q]
end
def lg(sp:Sp)(b:G V)(E:XK)(t:TA):TE:=λa H Q=>t a H λf e=>sp (f++b) e Q E
def rE(C:J)(m:Str)(sp:Sp)(f:G V)(E:XK)(c:TE)(t:TA):TE:=λb H Q=>c b H λx e=>∃a i fs,x=.ref a/\e a=M (.ins C i fs)/\fs.lookup m=P/\
 t b e λh g=>sp (x::(h++f)) g Q E
def uX(C:J)(sp:Sp)(e:G V)(E:XK)(t:TA):TE:=λb H Q=>t b H λh a=>∀x g,a x=P->a g=P->g≠x->
 sp (.ref x::(h++e)) (aW (aW a g (.own x)) x (.ins C g [])) (λv f=>v=.W9/\Q (.ref x) f) E
def Binds(K:CL)(fd:VT)(b:G Str)(ds:G U):Prop:=
 ∀(s:UQ) (a:G U),K.In s.heap->(a++ds).length=b.length->Y2 s fd #[a,[]] (b.zip (a++ds))
theorem Binds.all{K:CL}{fd:VT}{b:G Str}(h:∀us:G U,us.length=b.length->bindArgs fd #[us,[]]=pure (b.zip us)):Binds K fd b []:=λs us _ a=>by rw[VR]at a⊢;show .of_eq (h us a)
def d9(g:tE)(X:Cx)(E:XK):Prop:=∀(a:G (J×Obj)) (f:St) (H:Hp) (s:UQ) (e:U) (b:UQ),Inv X a f H s->g X.stack H s E e b->X.xe e b
section
variable{X:Cx}{U:tE}{k:Nat}{f C:UP}{fd:VT}{ps:bb Str}{sp:Sp}{Y:bb V}{ds:bb UI}{E:XK}{x m:Str}{p pos Z:Pos}{e o:Va}{es:bb Va}{T:TE}{t:TA}
def xw{a:G (J×Obj)}{g:St}{H:Hp}{s:UQ}{Q:VK}{us:G UI}{vs:G V}(F:FnOk X.prog X.w X.K X.mg X.base U k f fd ps sp)(n:WC k X.A)(v:Binds X.K fd ps ds)(hd:Vals Y ds)(l:d9 U X E)
  (I:Inv X a g H s) (r:Vals vs us) (h:sp (vs++Y) H Q E):wpAny (model X.prog X.w) X.A (call (.ref f) us) (EP X a g Q) X.xe s:=by
 let i:Vals (vs++Y) (us++ds):=r.append hd;let q:(us++ds).length=ps.length:=by rw[<-i.length];show F.len _ _ _ _ h
 show Y3 (Y4 (F.run X.A X.stack s H #[us,[]] (us++ds) (vs++Y) Q E n I.aeg (v s us I.ZX q) i h) λr j b=>?_);cases r with
 |error e=>show l a g H s e j I b
 |ok y=>
  cases y with
  |ret u=>show I.after b
  |next=>show False.elim b
  |brk=>show False.elim b
  |cont=>show False.elim b
def zb(F:FnOk X.prog X.w X.K X.mg X.base U k f fd ps sp)(l:WC k X.A)(u:Gl X x)(hm:X.mg x=M (.ref f))(n:Wn X.K (.ref f)=S)(y:Binds X.K fd ps ds)(hd:Vals Y ds)(j:d9 U X E)
  (c:PA X (e::es) t) (b:(x==("__debug__":Str))=R:=by decide) (v:U7 (e::es) X.env=(R,eval e X.env)::U7 es X.env:=by rfl) (B:(backTo pos (U7 es X.env)).any (·.1)=R:=by rfl):
  PE X (.Call (.Name x p) (e::es) [] pos) (lg sp Y E t):=by
 intro a s i H Q I h;show WK (kO I u hm ?_ b);show Y5 I.ok.mod.kin n (bP (c pos a s i H _ I h) λG J #[w,L,g,r,q]=>#[g.ZX,?_]) v B;show xw F l y hd j g r q
def IY{pl:Sem Bool}(L:PE X o T)(c:Cls X.K C)(hm:Meth X.K C m f)(F:FnOk X.prog X.w X.K X.mg X.base U k f fd ps sp)(J:WC k X.A)(M:Binds X.K fd ps ds)(hd:Vals Y ds)(B:d9 U X E)(d:PA X (e::es) t)
  (dG:U7 (e::es) X.env=(UL,eval e X.env)::U7 es X.env:=by rfl) (P:(backTo pos (U7 es X.env)).any (·.1)=UL:=by rfl)
  (G:eval (.Call (.Attribute o m Z) (e::es) [] pos) X.env=(do
   let ov<-eval o X.env
   standAt Z.atName
   let(f,first)<-holding [ov] (getMethod ov m pl)
   callWith pos f first (backTo pos (U7 (e::es) X.env)) (backToKw pos (keywordEach [] X.env))):=by rfl):
  PE X (.Call (.Attribute o m Z) (e::es) [] pos) (rE C m sp Y E T t):=by
 intro b s g H Q I h;show Yz (pl:=pl) (bP (L b s g H _ I h) λu n a=>?_) G;let(x,w,j,v,a,K,fs,N,O,l,q):=a;subst N;obtain rfl:u=UI.ref a:=v;show oQ j O c hm l ?_;show Y5 (first:=[.ref a]) (h₀:=X.base) I.ok.mod.kin hm.kp (bP (d pos b n g w _ j q) λus S #[A,H2,i,r,y]=>#[i.ZX,?_]) dG P;show xw (us:=.ref a::us) (vs:=.ref a::A) F J M hd B i (.cons W r) y
def B6{pl:Sem Bool}(y:PE X o T)(c:Cls X.K C)(hm:Meth X.K C m f)(F:FnOk X.prog X.w X.K X.mg X.base U k f fd ps sp)(v:WC k X.A)(B:Binds X.K fd ps ds)(hd:Vals Y ds)(n:d9 U X E)
  (r:eval (.Call (.Attribute o m Z) [] [] pos) X.env=(do
   let ov<-eval o X.env
   standAt Z.atName
   let(f,first)<-holding [ov] (getMethod ov m pl)
   callWith pos f first (backTo pos (U7 [] X.env)) (backToKw pos (keywordEach [] X.env))):=by rfl):
  PE X (.Call (.Attribute o m Z) [] [] pos) (rE C m sp Y E T jU):=by
 intro b s i H Q I h;show Yz (pl:=pl) (bP (y b s i H _ I h) λu L a=>?_) r;let(x,A,g,j,a,K,fs,G,w,l,q):=a;subst G;obtain rfl:u=UI.ref a:=j;show oQ g w c hm l ?_;show PySem.W.callWith_K0 (first:=[.ref a]) g.ZX hm.kp (xw (us:=[.ref a]) (vs:=[.ref a]) F v B hd n g (.cons W .nil) q)
structure Mk(K:CL)(C f:J):Prop where
 makes:ZF K C=S
 init:VH K (.ref C) "__init__"=M (M (.ref f))
 fn:WX K (.ref f)=S
 kp:Wn K (.ref C)=S
def EZ(M:Mk X.K C f)(F:FnOk X.prog X.w X.K X.mg X.base U k f fd ps sp)(q:WC (k+1) X.A)(B:Binds X.K fd ps ds)(hd:Vals Y ds)
  (n:d9 U X E) (I:Inv X pins σ H s) (r:Vals vs us)
  (h:∀x c,H x=P->H c=P->c≠x->sp (.ref x::(vs++Y)) (aW (aW H c (.own x)) x (.ins C c [])) (λv d=>v=.W9/\Q (.ref x) d) E):
  wpAny (model X.prog X.w) X.A (call (.ref C) us) (EP X pins σ Q) X.xe s:=by
 let i:=h (s.heap.objs.size+1) s.heap.objs.size (I.V4.fresh (Yl _)) (I.V4.fresh (UU _)) (Vg (XO _));let b:=Inv.made (C:=C) I;let g:Vals (V.ref (s.heap.objs.size+1)::(vs++Y)) (UI.ref (s.heap.objs.size+1)::(us++ds)):=.cons W (r.append hd);let y:(UI.ref (s.heap.objs.size+1)::us++ds).length=ps.length:=by let e:=g.length;rw[F.len _ _ _ _ i]at e;show e.symm
 show Y3 (Fy I.ZX M.makes M.init (beq_iff_eq.mp M.fn) (Y4 (F.run _ X.stack _ _ #[UI.ref (s.heap.objs.size+1)::us,[]] (UI.ref (s.heap.objs.size+1)::(us++ds)) _ _ E (q.make C us [])
  (b.aeg.make C us []) (B _ (UI.ref (s.heap.objs.size+1)::us) b.ZX y) g i) λr j a=>?_))
 cases r with
 |error e=>show n pins σ _ _ e j b a
 |ok G=>
  cases G with
  |ret u=>let(v,L,J,w,ev,l):=b.after a;subst ev;show#[w,#[V.ref (s.heap.objs.size+1),L,J,W,l]]
  |next=>show False.elim a
  |brk=>show False.elim a
  |cont=>show False.elim a
def G8(M:Mk X.K C f)(F:FnOk X.prog X.w X.K X.mg X.base U k f fd ps sp)(l:WC (k+1) X.A)(n:Gl X x)(hm:X.mg x=cL (.ref C))(v:Binds X.K fd ps ds)(hd:Vals Y ds)(j:d9 U X E)
  (c:PA X (e::es) t) (b:(x==("__debug__":Str))=R:=by decide) (u:U7 (e::es) X.env=(R,eval e X.env)::U7 es X.env:=by rfl) (y:(backTo pos (U7 es X.env)).any (·.1)=R:=by rfl):
  PE X (.Call (.Name x p) (e::es) [] pos) (uX C sp Y E t):=by
 intro a s i H Q I h;show WK (kO I n hm ?_ b);show Y5 I.ok.mod.kin M.kp (bP (c pos a s i H _ I h) λB G #[A,w,g,r,q]=>#[g.ZX,?_]) u y;show EZ M F l v hd j g r q
end
section
variable{X:Cx}{O:tE}{k:Nat}{f C:UP}{fd:VT}{ps ks:bb Str}{N:Sp}{E:XK}{x m:Str}{p Y Z T:Pos}{e o:Va}{es:bb Va}{Q:bb YC}{L H:TE}{t B:TA}{A:bg Str}
structure aiz(K:CL)(fd:VT)(ps ks:G Str)(g:G U->G U->G U)(gV:G V->G V->G V):Prop where
 to:∀(s:UQ) (us ws:G U),K.In s.heap->(g us ws).length=ps.length->Y2 s fd #[us,ks.zip ws] (ps.zip (g us ws))
 rel:∀{vs:G V} {us:G U} {zs:G V} {ws:G U},Vals vs us->Vals zs ws->Vals (gV vs zs) (g us ws)
variable{g:bb UI->bb UI->bb UI}{K:bb V->bb V->bb V}
end
structure W3(N P:G Str)(sc:WO):Prop where
 kind:sc.kind=.function
 co:sc.isCoroutine=R
 gen:sc.isGenerator=R
 nd:N.Nodup
 pre:N.take P.length=P
 par:∀x∈P,sc.names.lookup x=M .local\/sc.names.lookup x=M .cell
 aev:∀y∈sc.names,y.2≠.free
theorem rO{a:Str->I Vb}:∀{binds:G (Str×U)} {m:Str->I U},(∀v,(x,v)∉binds)->bindL a binds m x=m x
 |[],_,_=>rfl
 |(n,v)::r,m,h=>by
  ext bindL;rw[rO λw b=>h w (UX _ b)];split
  .let:x≠n:=by rintro rfl;show h v UT
   simp[this]
  .rfl
theorem rD{a:Str->I Vb}:∀{binds:G (Str×U)} {m:Str->I U},(∀v,(x,v)∉binds)->bindC a binds m x=m x
 |[],_,_=>rfl
 |(n,v)::r,m,h=>by
  ext bindC;rw[rD λw b=>h w (UX _ b)];split
  .rfl
  .let:x≠n:=by rintro rfl;show h v UT
   simp[this]
theorem rB{kindOf:Str->I Vb}:∀{a:G Str} {b:G U} {i:Nat} {m:Str->I U},a.Nodup->a[i]?=M x->b[i]?=M v->kindOf x=M .local->
  bindL kindOf (a.zip b) m x=M v
 |[],_,_,_,_,h,_,_=>by simp at h
 |_::_,[],_,_,_,_,h,_=>by simp at h
 |p::a,w::b,0,m,nd,h1,e,f=>by simp at h1 e;subst h1;subst e;show bindL kindOf ((p,w)::a.zip b) m p=_;ext bindL;rw[rO λv g=>(Wh.mp nd).1 (Xo g).1,ax f];simp
 |p::a,w::b,i+1,m,nd,h1,e,f=>by ext bindL;show rB (Wh.mp nd).2 (by simpa using h1) (by simpa using e) f
theorem rH{kindOf:Str->I Vb}:∀{a:G Str} {b:G U} {i:Nat} {m:Str->I U},a.Nodup->a[i]?=M x->b[i]?=M v->kindOf x≠M .local->
  bindC kindOf (a.zip b) m x=M v
 |[],_,_,_,_,h,_,_=>by simp at h
 |_::_,[],_,_,_,_,h,_=>by simp at h
 |p::a,w::b,0,m,nd,h1,e,f=>by simp at h1 e;subst h1;subst e;show bindC kindOf ((p,w)::a.zip b) m p=_;ext bindC;rw[rD λv g=>(Wh.mp nd).1 (Xo g).1,a3 f];simp
 |p::a,w::b,i+1,m,nd,h1,e,f=>by ext bindC;show rH (Wh.mp nd).2 (by simpa using h1) (by simpa using e) f
def start(N:G Str)(a:G V):St:=a.map M++UW (N.length - a.length) P
def eZ(i:tE)(P:Vc)(w:Vw)(K:CL)(c:Str->I U)(base:Heap)(N:G Str)(b:Str)(a:WO)(f:J)(h:U)(A:Vq)(outer:G Env)(s:UQ)(H:Hp)(E:XK):Cx where
 prog:=P
 w:=w
 K:=K
 mg:=c
 base:=base
 A:=A.deeper (envOfC b a s.heap.objs.size f h)
 N:=N
 s₀:=s
 H₀:=H
 env:=envOfC b a s.heap.objs.size f h
 outer:=outer
 stack:=envOfC b a s.heap.objs.size f h::outer
 ex:=[]
 calm:=S
 fn:=λ_=>S
 pn:=[]
 xe:=λe j=>wpAny (model P w) (A.deeper (envOfC b a s.heap.objs.size f h)) (leaving (envOfC b a s.heap.objs.size f h) e) (λ_ g=>i outer H s E e g) (λl g=>i outer H s E l g) j
def vo{sc:WO}(h:sc.names.lookup x=M .cell):∃c,(WH n sc.names []).lookup x=M c:=by let q:=Xs sc.names n [] (.inl h);show Wm.mp q
def Ao{K:CL}
  (S:W3 N ps scope) (hd:A.handled=lD) (e0:Env0 L w K mg base A outer s H) (F:vs.length=ps.length) (r:Vals vs us)
  (x:InCallC s s.heap.objs.size (bindL (envOfC qual scope s.heap.objs.size f cd).kindOf (ps.zip us) λ_=>lD) (WH (s.heap.objs.size+1) scope.names []) (bindC (envOfC qual scope s.heap.objs.size f cd).kindOf (ps.zip us) λ_=>lD) s1):
  Inv (eZ CX L w K mg base N qual scope f cd A outer s H E) [] (start N vs) H s1:=by
 let I:ps.length<=N.length:=by let:=dt Yf S.pre;rw[V8]at this;ext
 let(o,C,rfl,B):=x.done;let j:∀b:J,b∉(eZ CX L w K mg base N qual scope f cd A outer s H E).ex:=λb z=>a7 (show b∈([]:bb J)from z) (by simp);show#[#[e0.mod,S.kind,W,W,UU _,λy z c o g=>?_,λy l=>?_,λy c _ h=>?_,λ_=>hd,Vq.frames_deeper e0.frames,.inr #[W,W],λb z=>a7 z (j b),e0.bs,e0.bsz,λb _ _=>j b,λb z=>a7 z (j b),e0.Zz,e0.frf],
  W,e0.bare,Un.kept B,#[_,x.toInCall.ns,λi y v o g G=>?_],λy c h=>#[_,x.cell y c h],e0.V4.fresh (UU _),λy c h=>?_,λp n=>a7 (show p∈([]:bb (J×Obj))from n) (by simp),e0.V4.kept B,?_]
 .show name_of_addr x.apart (Wv o) (Wv g)
 .let l:=l
  rcases l with l|l
  .show vo l
  .show a7 W (S.aev _ (Wv l))
 .show YH (x.above y c (Wv h))
 .let O:i<vs.length:=by
   unfold start at g;by_cases O:i<vs.length
   .show O
   .rw[Vn (by simpa using O)]at g;rw[WT]at g;split at g<;>ext g
  let T:vs[i]?=M v:=by
   unfold start at g;rw[U1 (by simpa using O),UZ]at g;cases e:vs[i]? with
   |none=>rw[e]at g;ext g
   |some a=>rw[e]at g;ext g;rfl
  let(u,t,Q):=r.get T;let n:ps[i]?=M y:=by rw[<-S.pre,List.getElem?_take_of_lt ()];show o
  let m:ps.Nodup:=by rw[<-S.pre];show S.nd.sublist (List.take_sublist _ _)
  show#[u,Q,?_];rcases S.par y (Vr n)with k|k
  .show .inl #[k,rB m n t k]
  .let(c,e):=vo k;show .inr #[.inl k,c,e,?_];let q:=x.cell y c e;rw[rH m n t (by show scope.names.lookup y≠_;rw[k];decide)]at q;show q
 .show e0.V4.fresh (YH (x.above y c (Wv h)))
 .ext start;show _=N.length;rw[US,UK,VY];ext
def Dp{m:tE}{P:Vc}{w:Vw}{K:CL}{l:Str->bg U}{base:Heap}{k:Nat}{f:UP}{name qual:Str}{params:Arguments}{body:G Wz}{scope:WO}{F kV doc pm g ct T:U}{an O:bg UP}
  {z:Array (bg U)} {N j:G Str} {sp:Sp} (X:K.lookup f=M #[T,O,.func (Wc name qual params body scope F kV doc pm an g ct),z]) (D:XY K g qual=UJ) (S:W3 N j scope)
  (len:∀c H Q E,sp c H Q E->c.length=j.length)
  (XM:∀(A:Vq) (outer:G Env) (s:UQ) (H:Hp) (c:G V) (Q:VK) (E:XK),WC k (A.deeper (envOfC qual scope s.heap.objs.size f g))->sp c H Q E->
   ∃t,PSs (eZ m P w K l base N qual scope f g A outer s H E) body t/\t {nx:=λ_ d=>Q .W9 d,rt:=Q} (start N c) H):
  FnOk P w K l base m (k+1) f (Wc name qual params body scope F kV doc pm an g ct) j sp:=by
 show#[len,λA outer s H args us c Q E C e0 hb r i=>?_];let hl:=len _ _ _ _ i;let L:K.In s.heap:=e0.mod.kin.keeps λb o e=>(e0.bs b o e).1;let lim:s.heap.NoLimit:=e0.mod.nolimit.keeps λb o e=>(e0.bs b o e).1;let X8:∀y∈j.zip us,scope.names.lookup y.1=M .local\/(scope.names.lookup y.1=M .cell/\((WH (s.heap.objs.size+1) scope.names []).lookup y.1).isSome=UJ):=λ#[n,v] Y=>by
  rcases S.par n (Xo Y).1 with q|q
  .show .inl q
  .show .inr #[q,Xs _ _ _ (.inl q)]
 show codeAny_call_function C.depth (L _ _ X) W S.co S.gen W (PySem.W.codeRec_of L D) (hb _ _ _ _ ?_);show wpAny_newFunctionEnv_cells S.kind X8 λenv he s1 x=>?_;subst he;show#[lim.keeps x.toInCall.keep,codeAny_func ?_];let(t,Z,hq):=XM A outer s H c Q E (C.deeper _) i;let I:Inv (eZ m P w K l base N qual scope f g A outer s H E) [] (start N c) H s1:=Ao S C.hd e0 hl r x;show wpAny_mono (Z [] s1 (start N c) H _ I hq) (λfl p h=>?_) λe p h=>h
 let fin:∀{a:St} {d:Hp} {v:V} {u:U},Inv (eZ m P w K l base N qual scope f g A outer s H E) [] a d p->RelV v u->Q v d->CE outer P w H s Q u p:=
  λ{a d v u} J B q=>#[v,d,J.os,J.bare,J.base,J.V4,B,q]
 cases fl with
 |ret u=>let(v,a,d,J,B,q):=h;show fin J B q
 |next=>let(a,d,J,q):=h;show fin (v:=V.W9) (u:=UI.none) J W q
 |brk=>let(_,_,_,q):=h;show False.elim q
 |cont=>let(_,_,_,q):=h;show False.elim q
section
variable{X:Cx}{x:Str}{p Z:Pos}{e:Va}{es:bb Va}{t:TA}{Y T:String}{r:bb V->Hp->VK->Prop}
def Fu(r:G V->Hp->VK->Prop)(t:TA):TE:=λa H Q=>t a H λf b=>r f b Q
def DU(q:Xg X (.builtin Y) r)(n:Gl X x)(hm:X.mg x=P)(m:VP x=M (.builtin Y))(d:PA X (e::es) t)(c:x≠ "__name__":=by decide)(b:(x==("__debug__":Str))=R:=by decide)
  (o:U7 (e::es) X.env=(R,eval e X.env)::U7 es X.env:=by rfl) (u:(backTo Z (U7 es X.env)).any (·.1)=R:=by rfl):PE X (.Call (.Name x p) (e::es) [] Z) (Fu r t):=by
 intro a s f H Q I h;show WK (kh I n hm m ?_ c b);show agq (bP (d Z a s f H _ I h) λg i #[y,w,v,j,l]=>q a i f w y g Q v j l) o u
def Aq(q:Xg X (.type T) r)(n:Gl X x)(hm:X.mg x=P)(m:VP x=M (.type T))(d:PA X (e::es) t)(c:x≠ "__name__":=by decide)(b:(x==("__debug__":Str))=R:=by decide)
  (o:U7 (e::es) X.env=(R,eval e X.env)::U7 es X.env:=by rfl) (u:(backTo Z (U7 es X.env)).any (·.1)=R:=by rfl):PE X (.Call (.Name x p) (e::es) [] Z) (Fu r t):=by
 intro a s f H Q I h;show WK (kh I n hm m ?_ c b);show Wr (bP (d Z a s f H _ I h) λg i #[y,w,v,j,l]=>q a i f w y g Q v j l) o u
end
end L2
namespace HT
open PySem PyProof.Rows
section
open PySem.SeqAt
open PySem.AutoSeq1 (wpAny_loadPart')
open PySem.MeetsSeq PySem.MeetsSeq2 PySem.MeetsSeq3
end
section
variable{Z:Vc}{w:Vw}{A:Vq}{E:UI->UQ->Prop}{s:UQ}
def cat_tup{t b:J}{c ws:G U}{Q:U->UQ->Prop}(v:IsTup s.heap t c.toArray)(y:IsTup s.heap b ws.toArray)(q:c≠[])
  (C:ws=[]->Q (.ref t) s) (B:ws≠[]->Q (.ref s.heap.objs.size) {s with heap:=s.heap.push {cls:=.type "tuple",data:=.seq (c++ws).toArray}})
  (d:c.length+ws.length<=UY):wpAny (model Z w) A (Wu .Add (.ref t) (.ref b)) Q E s:=by
 let((cls,dd,data,o),l,u,n,r):=id v;let((F,i,m,f),a,h,p,g):=id y;simp only at u r h g;subst u r h g;let e:c.toArray++ws.toArray=(c++ws).toArray:=by simp
 by_cases j:ws=[]
 .show concat_meets #[_,l,W] #[_,a,W] afn ajE aas aah (Z5 _ _)
   (tuple_addW1 t b c.toArray ws.toArray n p dd i o f (by simpa using q) (by simp[j])) #[l,a,C j]
 .show concat_meets #[_,l,W] #[_,a,W] afn ajE aas aah (Z5 _ _)
   (tuple_addW2 t b c.toArray ws.toArray n p dd i o f (by simpa using q) (by simpa using j) (by rw[U3,U3];show d)) #[l,a,?_]
  rw[e];show B j
def sIx(n d:Nat):I Int->Nat
 |none=>d
 |some v=>if v<0 then(v+(n:Int)).toNat else min v.toNat n
theorem sIx_none(n d:Nat):sIx n d P=d:=W
def sIx_nat(n d k:Nat):sIx n d (M (k:Int))=min k n:=by show(if(k:Int)<0 then((k:Int)+(n:Int)).toNat else min (k:Int).toNat n)=min k n;rw[a3 (),V2]
def OE(n d:Nat)(hd:d<=n)(o:I Int):sIx n d o<=n:=by
 cases o with
 |none=>show hd
 |some v=>
  show(if v<0 then(v+(n:Int)).toNat else min v.toNat n)<=n;by_cases a:v<0
  .rw[ax a];ext
  .rw[a3 a];show ZQ _ _
def yZ(v:Int)(n d:Nat):(if v<0 then max (v+(n:Int)) 0 else min v (n:Int))=((sIx n d (M v):Nat):Int):=by
 show(if v<0 then max (v+(n:Int)) 0 else min v (n:Int))=(((if v<0 then(v+(n:Int)).toNat else min v.toNat n):Nat):Int);by_cases a:v<0
 .simp only[ax a];ext
 .simp only[a3 a];ext
def xO(lo b:I Int)(n:Nat):Builtin.Slice.sliceAdjust lo b 1 (n:Int)=(((sIx n 0 lo:Nat):Int),((sIx n n b:Nat):Int)):=by
 let a:¬((1:Int)<0):=by ext
 ext Builtin.Slice.sliceAdjust;simp only[a,if_false];show Prod.ext ?_ ?_
 .cases lo with
  |none=>rfl
  |some v=>show yZ v n 0
 .cases b with
  |none=>rfl
  |some v=>show yZ v n n
def xP(i j:Nat):Builtin.Slice.slicePlaces (i:Int) (j:Int) 1=j - i:=by
 ext Builtin.Slice.slicePlaces;let a:(1:Int)>0:=by ext
 simp only[a,if_true,Int.ediv_one];split<;>ext
def p9(p:Zv v o)(h:Q o s):wpAny (model Z w) A (Builtin.Slice.slicePartIndex v) Q E s:=by
 cases p with
 |none=>show slicePart_none h
 |int i t=>show slicePart_int h
def iy{lo c:I Int}{Q:Int×Int×Nat->UQ->Prop}(f:s.heap.IsSliceOf sl C o .none)(pl:Zv C lo)(e:Zv o c)
  (h:Q (((sIx n 0 lo:Nat):Int),1,sIx n n c - sIx n 0 lo) s):wpAny (model Z w) A (Builtin.Slice.sliceApplied (.ref sl) (pure (n:Int))) Q E s:=by
 let(i,a,g,b):=id f;unfold Builtin.Slice.sliceApplied Builtin.Slice.sliceFields;show Ld (Ld (VS a b W (Ld (VS a b W (Ld (VS a b W (UR ?_)))))));show Ld (slicePart_none ?_);rw[a3 ()];show Ld (p9 pl (Ld (p9 e (Ld (UR ?_)))));show wpAny _ _ (match Builtin.Slice.sliceAdjust lo c 1 (n:Int)with|(lo,c)=>pure (lo,(1:Int),Builtin.Slice.slicePlaces lo c 1)) _ _ s;rw[xO lo c n];show wpAny _ _ (pure (((sIx n 0 lo:Nat):Int),(1:Int),Builtin.Slice.slicePlaces ((sIx n 0 lo:Nat):Int) ((sIx n n c:Nat):Int) 1)) _ _ s;rw[xP];show UR h
def Eu(xs:Array U)(i k:Nat):((U0 k).filterMap λ(m:Nat)=>xs[((i:Int)+(m:Int)*1).toNat]?).toArray=((xs.toList.drop i).take k).toArray:=by
 let e:(λ(m:Nat)=>xs[((i:Int)+(m:Int)*1).toNat]?)=λm=>xs[i+m]? :=by
  funext m;let:((i:Int)+(m:Int)*1).toNat=i+m:=by ext
  rw[this]
 rw[e];let:=pick_run xs i k;rw[List.filterMap_map]at this;let e2:((λx=>xs[x]?)∘λx=>i+x)=λm=>xs[i+m]? :=W;rw[e2]at this;rw[this]
def getItem_tuple_cut{lo c:I Int}(b:IsTup s.heap t items)(j:s.heap.IsSliceOf C vl vu .none)(pl:Zv vl lo)(l:Zv vu c)
  (n:¬(sIx items.size 0 lo=0/\sIx items.size items.size c=items.size))
  (h:Q (.ref s.heap.objs.size) {s with heap:=s.heap.push {cls:=.type "tuple",data:=.seq ((items.toList.drop (sIx items.size 0 lo)).take (sIx items.size items.size c - sIx items.size 0 lo)).toArray}})
  (d:items.size<=UY):wpAny (model Z w) A (getItem (.ref t) (.ref C)) Q E s:=by
 let a:sizeOk (.seq ((items.toList.drop (sIx items.size 0 lo)).take (sIx items.size items.size c - sIx items.size 0 lo)).toArray):=by show((items.toList.drop (sIx items.size 0 lo)).take (sIx items.size items.size c - sIx items.size 0 lo)).toArray.size<=UY;rw[U3,V8,Xj,VN];ext
 let u:sIx items.size items.size c<=items.size:=OE _ _ (UU _) c;let(m,e,g,o):=id j;let i:s.TypeIs (.ref C) "slice":=#[m,e,g];ext getItem
 try specialize Wj ?_
 first|show Ld (UR ?_)|skip
 show Ld (aeL b.typeIs () ?_);show Ld (Wx b.typeIs VX
  (WI VX b.typeIs entry_tuple_getitem ?_ (args_tuple_getitem _ _)))
 show wpAny _ _ (Builtin.Tuple.tupleItemsOf (.ref t)>>=_) _ _ s;show Ld (tupleItemsOf_ b ?_);show Ld (XQ i ?_);rw[ax ()];show Ld (iy j pl l ?_);let f:¬((((sIx items.size 0 lo:Nat):Int)==0&&(1:Int)==1&&(sIx items.size items.size c - sIx items.size 0 lo)==items.size)=S):=by intro q;rw[UH,UH]at q;let r:=eq_of_beq q.1.1;let p:=eq_of_beq q.2;show n #[by ext,by ext]
 show wpAny _ _ (if(((sIx items.size 0 lo:Nat):Int)==0&&(1:Int)==1&&(sIx items.size items.size c - sIx items.size 0 lo)==items.size)=S then _ else _) _ _ s;rw[a3 f,Eu]
 first
  |show Ld (V0 (UR #[_,W,UR h]) a)
  |show Ld (V0 (Ld (UR (UR #[_,W,UR h]))) a)
  |show Ld (Ld (V0 (UR (UR #[_,W,UR h])) a))
  |show Ld (Ld (V0 (UR #[_,W,UR h]) a))
end
end HT
namespace L2
open PySem PySem.Spec PyProof.Rows
abbrev TO:=St->Hp->(I Int->Hp->Prop)->Prop
def PO(X:Cx)(e:I Va)(t:TO):Prop:=
 ∀(a:G (J×Obj)) (s:UQ) (b:St) (H:Hp) (Q:I Int->Hp->Prop),Inv X a b H s->t b H Q->
  wpAny (model X.prog X.w) X.A (evalPart e X.env) (λu f=>∃o g,Inv X a b g f/\Zv u o/\Q o g) X.xe s
def yf:TO:=λ_ H Q=>Q P H
def KC(t:TE):TO:=λa H Q=>t a H λx b=>∃i,x=.int i/\Q (M i) b
def ku:∀{us:G U},Vals (ns.map V.int) us->IntsAre us ns:=by
 induction ns with
 |nil=>intro us r;rw[X0]at r;ext r;show .nil
 |cons n ns f=>
  intro us r;rw[U5]at r;cases r with
  |cons b a=>let(t,e):=b;subst e;show .cons n t (f a)
section
variable{X:Cx}{e:Va}{U:TE}{Z Y:bg Va}{S R:TO}{pos P:Pos}
def Ig:PO X lD yf:=by intro a s b H Q I h;rw[ajF];show UR #[lD,H,I,.none,h]
def Jz(h:PE X e U):PO X (M e) (KC U):=by intro a s b H Q I j;rw[evalPart_some];show bP (h a s b H _ I j) λu n a=>?_;let(x,m,l,f,g):=a;let(i,rfl,q):=g;let(t,rfl):=f;show#[M i,m,l,.int i t,q]
def KG(X:Cx)(r:V->I Int->I Int->Hp->VK->Prop):Prop:=
 ∀(a:G (J×Obj)) (s:UQ) (b:St) (H:Hp) (x:V) (v g f:UI) (Z Y:I Int) (h:J) (Q:VK),Inv X a b H s->RelV x v->s.heap.IsSliceOf h g f .none->Zv g Z->Zv f Y->r x Z Y H Q->
  ∃T id,typeLookup (.type T) "__getitem__"=pure (M (.builtin id))/\s.TypeIs v T/\wpAny (model X.prog X.w) X.A (getItem v (.ref h)) (EP X a b Q) X.xe s
def Tw(r:V->I Int->I Int->Hp->VK->Prop)(U:TE)(S R:TO):TE:=λa H Q=>U a H λx g=>S a g λl f=>R a f λu b=>r x l u b Q
def B3{r:V->bg Int->bg Int->Hp->VK->Prop}(G:KG X r)(L:PE X e U)(J:PO X Z S)(E:PO X Y R):PE X (.Subscript e (.Slice Z Y lD P) pos) (Tw r U S R):=by intro a s g H Q I h;show Subscript_ (bP (L a s g H _ I h) λv o a=>?_);let(x,H1,A,p,B):=a;show wpAny_Slice (bP (J a o g H1 _ A B) λj n #[l,H2,w,pl,y]=>bP (E a n g H2 _ w y) λi f a=>?_);let(u,m,O,C,t):=a;rw[ajF];show UR ?_;let N:Inv X a g m {f with heap:=f.heap.push {cls:=.type "slice",data:=.fields #v[j,i,.none]}}:=O.kept (t':=f.toks) λb ob q=>bt _ q;let(T,id,M,F,K):=G a {f with heap:=f.heap.push {cls:=.type "slice",data:=.fields #v[j,i,.none]}} g m x v j i l u f.heap.objs.size Q N p (Heap.IsSliceOf.new ..) pl C t;show wpAny (model X.prog X.w) X.A (subscriptTail e (.Slice Z Y lD P) v (.ref f.heap.objs.size)) (EP X a g Q) X.xe {f with heap:=f.heap.push {cls:=.type "slice",data:=.fields #v[j,i,.none]}};show tail_any (ops:=[.ref f.heap.objs.size,v]) F M K (by with_unfolding_all rfl)
def BG(xs:G V)(Z Y:I Int):G V:=(xs.drop (HT.sIx xs.length 0 Z)).take (HT.sIx xs.length xs.length Y - HT.sIx xs.length 0 Z)
def mJ(xs:G V)(Z Y:I Int):(BG xs Z Y).length<=xs.length:=by ext BG;rw[V8,Xj];ext
def RJ(K:CL):V->I Int->I Int->Hp->VK->Prop:=λx Z Y H Q=>∃a xs,x=.ref a/\Yr K H a xs/\
 ¬(HT.sIx xs.length 0 Z=0/\HT.sIx xs.length xs.length Y=xs.length)/\∀p,H p=lD->Q (.ref p) (aW H p (.tup (BG xs Z Y)))
def ND:KG X (RJ X.K):=by
 intro g s u H x v y w Z Y A Q I l p pl m h;let(a,xs,rfl,n,o,q):=h;ext l;let(t,r,j,i):=I.tuple n;let f:t.toArray.size=xs.length:=by rw[U3];show r.length.symm
 show#["tuple",_,VX.lookup,j.typeIs,?_];show HT.getItem_tuple_cut j p pl m (by rw[f];show o) ?_ (by rw[f];show i);rw[f];show#[.ref s.heap.objs.size,_,I.laid (λb B q=>bt _ q) (UU _) ?_,W,q _ (I.V4.fresh (UU _))];show#[Vv (mJ xs Z Y) i,_,(r.drop (HT.sIx xs.length 0 Z)).take (HT.sIx xs.length xs.length Y - HT.sIx xs.length 0 Z),ZK.new _ _]
def LP(K:CL):R2:=λx y H Q=>∃a b xs ys,x=.ref a/\y=.ref b/\Yr K H a xs/\Yr K H b ys/\xs≠[]/\xs.length+ys.length<=UY/\
 (ys=[]->Q (.ref a) H)/\(ys≠[]->∀p,H p=lD->Q (.ref p) (aW H p (.tup (xs++ys))))
def Vals.aaA(r:Vals xs us):us=[]↔xs=[]:=by
 cases r with
 |nil=>simp
 |cons _ _=>simp
def Ht:OpR X (Wu .Add) (LP X.K):=by intro i s B H x y v u Q I m l h;let(a,b,xs,C,rfl,rfl,K,t,r,j,o,n):=h;ext m;ext l;let(F,g,p,_):=I.tuple K;let(A,f,P,_):=I.tuple t;show HT.cat_tup p P (λz=>r (g.aaA.mp z)) (λz=>#[.ref a,H,I,W,o (f.aaA.mp z)]) (λz=>?_) (by rw[<-g.length,<-f.length];show j);show#[.ref s.heap.objs.size,_,I.laid (λb E q=>bt _ q) (UU _) ?_,W,n (λw=>z (f.aaA.mpr w)) _ (I.V4.fresh (UU _))];show#[by rw[US];show j,_,g.append f,ZK.new _ _]
end
def K7(n:Nat)(i:Int):I Nat:=if 0<=i then(if i<n then M i.toNat else P)else if -(n:Int)<=i then M (i+n).toNat else P
def ki(xs:G α)(i:Int):I α:=(K7 xs.length i).bind λj=>xs[j]?
def Iv(h:K7 n i=M j):seqIndex? i n=M j/\j<n/\ -(n:Int)<=i/\i<n:=by
 unfold K7 at h;by_cases b:0<=i
 .rw[ax b]at h
  by_cases a:i<n
  .rw[ax a]at h;let e:=Vd h;show#[by rw[seqIndex_of b a,e],by ext,by ext,a]
  .rw[a3 a]at h;ext h
 .rw[a3 b]at h
  by_cases a: -(n:Int)<=i
  .rw[ax a]at h;let e:=Vd h;show#[by rw[seqIndex_neg () a,e],by ext,a,by ext]
  .rw[a3 a]at h;ext h
def sT(h:ki xs i=M v):∃j,seqIndex? i xs.length=M j/\xs[j]?=M v/\j<xs.length/\ -(xs.length:Int)<=i/\i<xs.length:=by
 unfold ki at h;cases e:K7 xs.length i with
 |none=>rw[e]at h;ext h
 |some j=>rw[e]at h;let(g,f,b,a):=Iv e;show#[j,g,h,f,b,a]
def zq{j:Nat}(h:xs[j]?=M v):ki xs (j:Int)=M v:=by
 let a:=(UO.mp h).1;let e:K7 xs.length (j:Int)=M j:=by ext K7;rw[ax (),ax ()];simp
 ext ki;rw[e];show h
def Ad(b:Va):Prop:=∀o i,subscripted b R o i=operate [o,i] (getItem o i)
def IxR(X:Cx)(r:R2):Prop:=
 ∀(e a:Va) (b:G (J×Obj)) (s:UQ) (f:St) (H:Hp) (x y:V) (v u:U) (Q:VK),Inv X b f H s->RelV x v->RelV y u->r x y H Q->
  subscripted a R v u=operate [v,u] (getItem v u)->wpAny (model X.prog X.w) X.A (subscriptTail e a v u) (EP X b f Q) X.xe s
def PN(X:Cx)(id:String)(r:V->G V->Hp->VK->Prop):Prop:=
 ∀(a:G (J×Obj)) (s:UQ) (b:St) (H:Hp) (x:V) (xs:G V) (v:U) (e:G U) (Q:VK),Inv X a b H s->RelV x v->Vals xs e->r x xs H Q->
  wpAny (model X.prog X.w) X.A (call (.builtin id) (v::e)) (EP X a b Q) X.xe s
section
variable{X:Cx}{a b:Va}{ta tb:TE}{pos:Pos}
def IxR.or(h:IxR X r)(c:IxR X r'):IxR X (λx y H Q=>r x y H Q\/r' x y H Q):=by
 intro e f g s i H x y v u Q I l j q m;rcases q with q|q
 .show h e f g s i H x y v u Q I l j q m
 .show c e f g s i H x y v u Q I l j q m
def Kn{r:R2}(m:IxR X r)(c:PE X a ta)(n:PE X b tb)(l:Ad b):PE X (.Subscript a b pos) (Gk r ta tb):=by intro e s f H Q I h;show Subscript_ (NP c n I h λv u g x y p o j i q=>m a b e g f p x y v u Q o j i q (l _ _))
def QJ(K:CL):R2:=λx y H Q=>∃p xs i v,x=.ref p/\y=.int i/\Yk K H p xs/\ki xs i=M v/\Q v H
def Q8(K:CL):R2:=λx y H Q=>∃p xs i v,x=.ref p/\y=.int i/\Yr K H p xs/\ki xs i=M v/\Q v H
def QU:R2:=λx y H Q=>∃z i c,x=.str z/\y=.int i/\z.length<=UY/\ki z.cps.toList i=M c/\Q (.str #[#v[c]]) H
def G4:IxR X (QJ X.K):=by
 intro l m e s E H x y v u Q I G F h A;let(p,xs,i,z,rfl,rfl,J,M,q):=h;ext G;let(t,rfl):=F;let(R,r,pl,S):=I.list J;let(j,g,P,T,O,N):=sT M;let(w,C,n):=r.get P;let L:=r.length;let K:=r9;let f:EP X e E Q w s:=#[z,H,I,n,q];by_cases B:0<=i
 .let o:i.toNat=j:=by
   rw[seqIndex_of B N]at g;show Vd g
  show item_listR pl.isList B () (by rw[o];simpa using C) f A
 .let o:(i+(R.toArray.size:Int)).toNat=j:=by
   rw[seqIndex_neg () O]at g;rw[U3,<-L];show Vd g
  show subscriptTail_builtinR pl.isList.typeIs aeM.lookup
   (wpAny_getItem_list_neg pl.isList () (by rw[U3]<;>ext) () (by rw[o];simpa using C) #[W,f]) A
def Nd:IxR X (Q8 X.K):=by
 intro f g e s n H x y v u Q I A o h B;let(p,xs,i,z,rfl,rfl,C,F,q):=h;ext A;let(t,rfl):=o;let(R,r,pl,M):=I.tuple C;let(j,J,G,P,O,N):=sT F;let(w,L,l):=r.get G;let E:=r.length;let K:=r9;let m:EP X e n Q w s:=#[z,H,I,l,q];show subscriptTail_builtinR pl.typeIs slot_tuple_getitem.lookup
  (getItem_tuple pl () () (by rw[U3,<-E];show J) (by simpa using L) #[W,m]) B
def Pv:IxR X QU:=by
 intro e f g s C H x y v u Q I n m h o;let(z,i,c,rfl,rfl,F,r,q):=h;let(t,rfl):=n;let(E,rfl):=m;let(j,l,B,G,A,w):=sT r;let p:z.cps.toList.length=z.length:=by simp[Str.length]
 rw[p]at l A w;let K:=r9;show tail_any (abc s z t) slot_str_getitem.lookup (getItem_str (by let e1:decide (i< -(2^63:Int))=R:=a5 ();let e2:decide (i≥2^63)=R:=a5 ();rw[e1,e2,aaG]) (by rw[l];simpa using B) #[.str #[#v[c]],H,I.tok _,#[_,W],q]) o
def QI(K:CL):R2:=λx y H Q=>QJ K x y H Q\/Q8 K x y H Q\/QU x y H Q
theorem Dm:IxR X (QI X.K):=G4.or (Nd.or Pv)
def tm(lo c:I Int)(n:Nat):(sliceBounds lo c P n).1=((HT.sIx n 0 lo:Nat):Int)/\(sliceBounds lo c P n).2.1=((HT.sIx n n c:Nat):Int)/\(sliceBounds lo c P n).2.2=1:=by
 show#[?_,?_,W]
 .cases lo with
  |none=>simp[sliceBounds,HT.sIx]
  |some i=>
   simp only[sliceBounds,HT.sIx,acd,show(1:Int)>0 by decide,if_true];by_cases h:i<0
   .simp only[h,if_true]<;>ext
   .simp only[h,if_false]<;>ext
 .cases c with
  |none=>simp[sliceBounds,HT.sIx]
  |some i=>
   simp only[sliceBounds,HT.sIx,acd,show(1:Int)>0 by decide,if_true];by_cases h:i<0
   .simp only[h,if_true]<;>ext
   .simp only[h,if_false]<;>ext
def qH(e:G U)(lo c:I Int):slicePick e.toArray lo c P=((e.drop (HT.sIx e.length 0 lo)).take (HT.sIx e.length e.length c - HT.sIx e.length 0 lo)).toArray:=by let(h,g,f):=tm lo c e.toArray.size;ext slicePick;rw[h,g,f];simp only[sliceRange_one,pick_run,U3]<;>rfl
def P7(K:CL):V->I Int->I Int->Hp->VK->Prop:=λx lo e H Q=>∃a xs,x=.ref a/\Yk K H a xs/\∀p,H p=P->Q (.ref p) (aW H p (.lst (BG xs lo e)))
def Hk:KG X (P7 X.K):=by intro f s o H x v t p lo A u Q I i n pl j h;let(a,xs,rfl,m,q):=h;ext i;let(y,r,g,l):=I.list m;let e:=r.length;show#["list",_,aeM.lookup,g.isList.typeIs,?_];show wpAny_getItem_list_slice g.isList n pl j .none (by simp) ?_ (by rw[U3]<;>ext);rw[qH,<-e];show#[.ref s.heap.objs.size,_,I.laid (λb w q=>bt _ q) (UU _) ?_,W,q _ (I.V4.fresh (UU _))];show#[Vv (mJ xs lo A) l,_,0,(r.drop (HT.sIx xs.length 0 lo)).take (HT.sIx xs.length xs.length A - HT.sIx xs.length 0 lo),b4 _ W]
def Xg.or(h:Xg X f r)(c:Xg X f r'):Xg X f (λxs H Q=>r xs H Q\/r' xs H Q):=by
 intro e s g H xs i Q I j q;rcases q with q|q
 .show h e s g H xs i Q I j q
 .show c e s g H xs i Q I j q
def sg:Xg X (.type "list") (λxs H Q=>∃p ys,xs=[.ref p]/\(Yk X.K H p ys\/Yr X.K H p ys)/\∀l,H l=P->Q (.ref l) (aW H l (.lst ys))):=by
 intro m s G H xs L Q I r h;let(p,ys,rfl,y,q):=h;let(u,rfl,J):=ju r;ext J
 let B:∀(g:bb U),Vals ys g->ys.length<=UY->∀(f:Heap) (j:Nat),(∀b w,s.heap.get? b=M w->f.get? b=M w)->
   f.get? s.heap.objs.size=M {cls:=.type "list",dict:=P,data:=.seq g.toArray j,slots:= #v[]}->EP X m G Q (.ref s.heap.objs.size) {s with heap:=f}:=λg i v f j t e=>
  #[.ref s.heap.objs.size,_,I.laid t (UU _) (show ObjOk X.prog X.w _ f _ (.lst ys)from#[v,g,j,i,e]),W,q _ (I.V4.fresh (UU _))]
 rcases y with y|y
 .let(g,i,pl,v):=I.list y;let A:=i.length;let(o,C,F,n,E):=pl.isList;show ajG p (.inl W) C F E (λf j t e=>B g i v f j t e) (by simp only[U3]<;>ext)
 .let(g,i,pl,v):=I.tuple y;let A:=i.length;let(o,C,F,n,E):=pl;show ajG p (.inr W) C F E (λf j t e=>B g i v f j t e) (by simp only[U3]<;>ext)
def qJ:Xg X (.type "tuple") (λxs H Q=>∃p ys,xs=[.ref p]/\((Yk X.K H p ys/\∀l,H l=P->Q (.ref l) (aW H l (.tup ys)))\/(Yr X.K H p ys/\Q (.ref p) H))):=by
 intro i s C H xs E Q I r h;let(p,ys,rfl,h):=h;let(u,rfl,v):=ju r;ext v;rcases h with⟨g,q⟩|⟨g,q⟩
 .let(n,f,pl,j):=I.list g
  let m:=f.length;show call_tuple_list pl.isList (λA y=>?_) (by simp only[U3]<;>ext);let t:=I.kept (t':=s.toks) y
  let B:=
   t.laid (t':=s.toks) (λb o e=>bt _ e) (UU _) (show ObjOk X.prog X.w _ _ _ (.tup ys)from#[j,n,f,ZK.new _ _])
  show#[.ref A.objs.size,_,B,W,q _ (t.V4.fresh (UU _))]
 .let(n,f,pl,j):=I.tuple g;show call_tuple_same pl #[.ref p,H,I,W,q]
def S6(K:CL)(T:String)(x:V)(H:Hp):Prop:=match x with
 |.str _=>T= "str"
 |.int _=>T= "int"
 |.ref p=>(T= "list"/\∃xs,Yk K H p xs)\/(T= "tuple"/\∃o,K.lookup p=M o/\o.cls=.type "tuple"/\o.dict=P)\/
   (T= "dict"/\((∃e,H p=M (.dK e))\/∃e,H p=M (.dT e)))\/(T= "set"/\∃S n,H p=M (.set S n))
 |_=>False
def Cj(I:Inv X pins σ H s)(r:RelV x v)(ty:S6 X.K T x H):
  s.TypeIs v T/\∀a,v=.ref a->∃d,s.heap.get? a=M d/\d.dict=P:=by
 cases x with
 |str z=>let(t,rfl):=r;cases(show T= "str" from ty);show#[abc s z t,λ_ e=>nomatch e]
 |int i=>let(t,rfl):=r;cases(show T= "int" from ty);show#[ZR s i t,λ_ e=>nomatch e]
 |ref p=>
  ext r;rcases ty with⟨rfl,xs,j⟩|⟨rfl,o,f,l,h⟩|⟨rfl,f⟩|⟨rfl,S,n,f⟩
  .let(m,_,pl,_):=I.list j;show#[pl.isList.typeIs,λa e=>?_];ext e;let(o,n,e,c,h,_):=pl;show#[o,e,h]
  .show#[#[o,I.ZX p o f,l],λa e=>?_];ext e;show#[o,I.ZX _ o f,h]
  .let z:∃o,s.heap.get? p=M o/\o.ExactDict:=by
    rcases f with⟨q,f⟩|⟨q,f⟩
    .let(_,_,_,_,o,_,_,e,g,_):=I.V4 p _ f;show#[o,e,g]
    .let(_,_,_,_,o,_,_,e,g,_):=I.V4 p _ f;show#[o,e,g]
   let(o,e,g):=z;show#[#[o,e,g.1],λa e2=>?_];ext e2;show#[o,e,g.2.1]
  .let(o,_,_,_,e,g,_):=I.V4 p _ f;show#[#[o,e,g.1],λa e2=>?_];ext e2;show#[o,e,g.2.1]
 |_=>show False.elim ty
def Ra(K:CL)(T:String)(r:V->G V->Hp->VK->Prop)(to:TE):TE:=λf H Q=>to f H λx e=>S6 K T x e/\r x [] e Q
def P4(K:CL)(T:String)(r:V->G V->Hp->VK->Prop)(to:TE)(t:TA):TE:=λe H Q=>to e H λx f=>S6 K T x f/\t e f λxs g=>r x xs g Q
variable{o e:Va}{es:bb Va}{to:TE}{t:TA}{name:Str}{Z Y:Pos}{T U:String}{r:V->bb V->Hp->VK->Prop}
def Oz(c:PlainAttrs T)(slot:Slot T name U)(g:typeOf (.builtin U)=pure (.type "method_descriptor"))(hm:PN X U r)(q:PE X o to)
  (y:attributeBase o name X.env (eval o X.env)=eval o X.env:=by rfl) (i:(Z.endLine==Y.line)=S:=by rfl):PE X (.Call (.Attribute o name Z) [] [] Y) (Ra X.K T r to):=by
 intro f s j H Q I h;show wpAny_Call_method0_late y i (bP (q f s j H _ I h) λv n a=>?_);let(x,A,m,l,ty,p):=a;let(w,u):=Cj m l ty;show#[T,U,c,slot,g,w,u,Calls.callWith_builtin W (PySem.evalArgs_none (hm f n j A x [] v [] Q m l .nil p))]
def Lp(c:PlainAttrs T)(slot:Slot T name U)(i:typeOf (.builtin U)=pure (.type "method_descriptor"))(hm:PN X U r)(F:PE X o to)(d:PA X (e::es) t)
  (L:attributeBase o name X.env (eval o X.env)=eval o X.env:=by rfl)
  (j:((backTo Y (U7 (e::es) X.env)).all (λx=> !x.1)&&(backToKw Y (keywordEach [] X.env)).all (λx=>x.1.isSome)
   &&decide ((e::es).length+([]:bb YC).length+(if([]:bb YC).isEmpty then 0 else 1)<30))=S:=by rfl)
  (l:(Z.endLine==Y.line)=S:=by rfl) (E:U7 (e::es) X.env=(R,eval e X.env)::U7 es X.env:=by rfl) (m:(backTo Y (U7 es X.env)).any (·.1)=R:=by rfl):
  PE X (.Call (.Attribute o name Z) (e::es) [] Y) (P4 X.K T r to t):=by
 intro f s g H Q I h;show wpAny_Call_method_late L j l W (bP (F f s g H _ I h) λv y a=>?_);let(x,O,q,n,ty,C):=a;let(J,G):=Cj q n ty;show#[T,U,c,slot,i,J,G,?_];let p:=d Y f y g O _ q C;rw[E]at p⊢;show Calls.callWith_builtin (by show(R||(backTo Y (U7 es X.env)).any (·.1))=R;rw[m]<;>rfl) (Calls.evalArgs_plain ?_);show bP p λu w #[vs,N,K,A,B]=>hm f w g N x vs v u Q K n A B
end
def Ue(X:Cx)(id:String)(r:V->G V->Hp->VK->Prop):Prop:=
 ∀(a:G (J×Obj)) (s:UQ) (b:St) (H:Hp) (x:V) (xs:G V) (v:U) (e:G U) (Q:VK),Inv X a b H s->RelV x v->Vals xs e->r x xs H Q->
  wpAny (model X.prog X.w) X.A (call (.builtin id) (v::e)) (EP X a b Q) X.xe s
theorem Vals.one:∀{x:V} {us:G U},Vals [x] us->∃u,us=[u]/\RelV x u
 |_,_,.cons r .nil=>#[_,W,r]
theorem Vals.rep(h:Vals xs us):∀k:Nat,Vals (UW k xs).flatten (UW k us).flatten
 |0=>.nil
 |k+1=>by rw[VQ,VQ,Ws,Ws];show Vals.append h (Vals.rep h k)
theorem mw(a:G U):∀(k:Nat) (acc:G U),
  YD (λc b=>c++b) acc.toArray (UW k a.toArray)=(acc++(UW k a).flatten).toArray
 |0,acc=>by simp
 |k+1,acc=>by
  let e:acc.toArray++a.toArray=(acc++a).toArray:=by simp
  let e2:(acc++a)++(UW k a).flatten=acc++(UW (k+1) a).flatten:=by rw[VQ,Ws,Vy]
  rw[<-e2,<-mw a k (acc++a),<-e,VQ,YJ]
section
variable{X:Cx}{Z:bb (UP×Obj)}{Y:St}{H:Hp}{s:UQ}{l b:UP}{T U Q:bb V}
def Inv.ahM{g a:G UI}(I:Inv X Z Y H s)(o:H l=M (.lst T))
  (e:s.heap.get? l=M {cls:=.type "list",data:=.seq g.toArray n}) (j:f g.toArray=a.toArray) (h:Vals U a) (c:U.length<=UY):
  Inv X Z Y (aW H l (.lst U)) {s with heap:=s.heap.update l (Obj.mapSeq f),toks:=t'}:=by
 let q:=aln e f;rw[j]at q;show I.write (by rw[o];show trivial) (.inl W) (λp u m i=>(b5 s.heap (Obj.mapSeq f) (da m)).trans i) #[_,q] ?_;show#[c,a,_,h,q]
theorem Inv.agi(I:Inv X Z Y H s)(a:Vals U Vz)(c:U.length<=UY):
  Inv X Z Y (aW H s.heap.objs.size (.lst U)) {s with heap:=s.heap.push {cls:=.type "list",data:=.seq Vz.toArray},toks:=t'}:=
 I.laid (λ_ _ q=>bt _ q) (UU _) #[c,Vz,0,a,b4 _ W]
theorem Inv.fresh(I:Inv X Z Y H s):H s.heap.objs.size=P:=I.V4.fresh (UU _)
def Inv.afD(I:Inv X Z Y H s)(f:H l=M (.lst T)):T.length<=UY/\∃(a:G UI) (n:Nat),Vals T a/\T.length=a.length/\s.heap.get? l=M {cls:=.type "list",data:=.seq a.toArray n}:=by let(z,a,n,r,e):=I.V4 l _ f;show#[z,a,n,r,r.length,e]
def DL(h:n<=UY):Builtin.List.listTooLong n=R:=by ext Builtin.List.listTooLong;show a5 ()
end
section
variable{X:Cx}
def sE:V->G V->Hp->VK->Prop:=λx a H Q=>∃l xs y,x=.ref l/\a=[y]/\H l=M (.lst xs)/\xs.length<UY/\Q .W9 (aW H l (.lst (xs++[y])))
def mf:Ue X "list.append" sE:=by intro a s j H x w v m Q I f t h;let(l,xs,y,rfl,rfl,b,o,q):=h;ext f;let(u,rfl,g):=t.one;let(z,i,n,r,p,e):=I.afD b;show Ys F.slot_list_append #[_,e,W] F.entry_list_append (F.args_list_append_2 _ _) (PySem.list_append l i.toArray n u (by rw[U3];ext)) #[e,?_];show#[.W9,_,I.ahM b e (by simp) (r.append (.cons g .nil)) ?_,W,q];rw[US,XI];ext
def yN(xs:G α)(k:Nat):(UW k xs).flatten.length=k*xs.length:=by
 induction k with
 |zero=>simp
 |succ k a=>rw[VQ,Ws,US,a,afo,abd]
end
section
variable{Z:Vc}{w:Vw}{A:Vq}{E:UI->UQ->Prop}{s:UQ}
set_option maxRecDepth 100000 in
end
end L2
namespace Att
open PySem PySem.W PySem.Calls PyProof.Rows
def mU:∀(e:G Int) (c:G U),WellAll g h c (e.map WData.int)->IntsAre c e:=by
 intro e
 induction e with
 |nil=>intro c w;rw[X0]at w;ext w;show .nil
 |cons n e f=>
  intro c w;rw[U5]at w;cases w with
  |cons a b=>ext a;show .cons _ _ (f _ b)
def Bs{l:OpenLaw}(k:l.most=M n)
  (e:l.row.toRowW.claim.pre args=S) (i:WellAll B h vals args):
  ∃a c ns,vals=[UI.ref a]/\args=[WData.list (ns.map WData.int)]/\h.get? a=M {cls:=.type "list",data:=.seq c.toArray}/\IntsAre c ns/\ns.length<=n:=by
 let j:=(pre_splitW e).1;let o:l.pre.holds [] {args:=args}=S:=(pre_splitW e).2;let(d,r,rfl,A,y):=hasAllW_cons j;obtain rfl:=hasAllW_nil y;let(xs,rfl,w):=hasW_list A;let(ns,rfl):=items_int w;let b:ns.length<=n:=by
  unfold OpenLaw.pre at o;let g:(WTm.not (.lt (.lit (.int (n:Int))) (.len (.arg 0)))).holds [] {args:=[.list (ns.map .int)]}=S:=by let g:=(holds_andW o).1;rw[k]at g;show g
  let f:=condW_of g (w_not (w_lt w_lit (w_len_list (w_arg W))));rw[UK]at f;show Nat.le_of_not_lt λq=>?_;let u:(n:Int)<((ns.length:Nat):Int):=by ext
  first
   |(rw[a4 u]at f;show a7 f ())
   |(simp at f;ext)
 cases i with
 |cons t p=>
  ext p;cases t with
  |list v m=>show#[_,_,ns,W,W,v,mU ns _ m,b]
theorem BM(l:OpenLaw)(args:G WData):l.row.toRowW.claim.post args (.bool S) args=S:=
 postW_of
  (show WShape.has [] (.bool S) .bool=S by first|rfl|decide|simp[WShape.has,WShape.arms,WShape.armsAll])
  (show(WTm.eq .res (.lit (.bool S))).value [] {args:=args,res:=M (.bool S),after:=args}=M (.bool (S==S))from w_eq_bool (w_res W) w_lit) W
def attach_call{l:OpenLaw}{n:Nat}{q:Vc}{e:bb Str}{J:(Str->bg UI)->Heap->Prop}{I:Vw->Heap->Prop}{d:DefRec}
  (D:l.most=cL n) (y:d.params.defaults=[])
  (call:∀(w:Vw) (c b:UQ) (z t:Str->bg UI) (s:UP) (o:Obj) (p m h:UI) (a:UP) (k:bb UI) (j:bb Int),
   Ground q e [] J w c z t b.heap->I w b.heap->
   b.heap.get? s=cL o->o.data=.func (docDef d.name d.params d.body d.scope p m h)->b.heap.CodeRec m d.name->z d.name=cL (.ref s)->
   b.heap.get? a=cL {cls:=.type "list",data:=.seq k.toArray}->IntsAre k j->j.length<=n->b.gens= #v[]->
   codeAny (model l.prog w) callerA (.call (.ref s) #[[.ref a],[]]) (λr x=>r=.ok (.ret (.bool UJ))/\OldK b.heap x.heap/\x.os=b.os/\AllBare x.gens) b):
  WalkO q e J I l.row.toRowW d [] (λf k=>afp f k):=by
 intro w c b z t G Y s o p m h T kV M P A F v O H E as C U K u N;obtain rfl:T=.none:=Dflts.none F y;obtain rfl:kV=.none:=Dflts.noKw F;let(a,k,j,rfl,rfl,B,g,i):=Bs D C u;show enter_call (Y4 (call w c b z t s o p m h a k j G Y M (fd_plain P) A v B g i O) λr x L=>?_);let(rfl,S,R,Q):=L;show#[.inl #[.bool UJ,.bool UJ,[],W,λ_=>W,.bool UJ,BM l _,λ_=>#[YK,λ_ hm=>(nomatch hm)]],S,R,Q]
end Att
namespace L2
open PySem PySem.Spec PyProof.Rows
theorem ip:∀{b:G U} {a:G Int},IntsAre b a->Vals (a.map V.int) b
 |_,_,.nil=>.nil
 |_,_,.cons n t h=>.cons #[t,W] (ip h)
def QK(H:Hp):Prop:=∀b,H b=P\/∃o xs,H b=M (.frz o (.lst xs))
def FB{P:Vc}{w:Vw}{K:CL}{mg E:Str->bg UI}{X:tE}{k:Nat}{fa a:UP}{fd:VT}{x:Str}{sp:Sp}{f:UQ}{D:bb UI}{p:bb Int}
  (U:K.In f.heap) (t:f.heap.Ns U9 mg) (g:f.heap.Ns builtinsNs E) (I:∀x:Str,x≠ "__name__"->E x=VP x) (O:f.heap.NoLimit) (hg:f.gens= #v[])
  (ha:f.heap.get? a=cL {cls:=.type "list",data:=.seq D.toArray}) (hi:IntsAre D p) (R:p.length<=UY) (hr:WC k callerA)
  (F:∀base:Heap,K.In base->base.Ns U9 mg->FnOk P w K mg base X k fa fd [x] sp) (Q:∀(s:UQ) (u:UI),Y2 s fd #[[u],[]] [(x,u)])
  (G:∀H:Hp,QK H->Yk K H a (p.map V.int)->sp [.ref a] H (λv _=>v=.bl UJ) λ_ _ _=>False)
  (J:∀H e c,X [] H f (λ_ _ _=>False) e c->False):
  codeAny (model P w) callerA (.call (.ref fa) #[[.ref a],[]]) (λr c=>r=.ok (.ret (.bool UJ))/\OldK f.heap c.heap/\c.os=f.os/\AllBare c.gens) f:=by
 let rv:=ip hi;let N:=hi.length
 let j:∀H:Hp,QK H->Yk K H a (p.map V.int)->YT P w H f.heap->(∀b,H b≠lD->b=a)->(H a≠lD->K.lookup a=lD)->
   codeAny (model P w) callerA (.call (.ref fa) #[[.ref a],[]]) (λr c=>r=.ok (.ret (.bool UJ))/\OldK f.heap c.heap/\c.os=f.os/\AllBare c.gens) f:=by
  intro H S hS V4 T hK;let gu:∀{b:UP} {o:Obj},f.heap.get? b=cL o->H b=lD->(sC f.heap H).get? b=cL o:=λe n=>Ey e n;let C:∀{b:UP} {o:Obj} {es:Array XD} {A:Nat},f.heap.get? b=cL o->o.data=.dict es A->H b=lD:=λ{b o es A} e d=>by
   cases q:H b with
   |none=>rfl
   |some u=>let L:b=a:=T b (by rw[q];simp);subst L;rw[ha]at e;ext e;let d':Data.seq D.toArray _=Data.dict es A:=d;ext d'
  let i:∀{b:UP} {m:Str->bg UI},f.heap.Ns b m->(sC f.heap H).Ns b m:=λ{b m} #[o,es,A,e,d,r]=>#[o,es,A,gu e (C e d),d,r];let y:K.In (sC f.heap H):=λb o e=>gu (U b o e) (by
   cases q:H b with
   |none=>rfl
   |some u=>let L:b=a:=T b (by rw[q];simp);subst L;rw[hK (by rw[q];simp)]at e;ext e)
  let hM:Mod K mg (sC f.heap H):=#[y,i t,#[E,i g,I],let#[mc,h1,h2]:=O;#[mc,i h1,h2]];let e0:Env0 P w K mg (sC f.heap H) callerA [] f H:=#[W,hM,λb o e=>Hd e,afm (Bw _ _),trivial,λb g=>a7 (show b∈([]:bb UP)from g) (by simp),V4,.of_eq hg];show Y4 ((F _ y (i t)).run callerA [] f H #[[.ref a],[]] [.ref a] [.ref a] _ _ hr e0 (Q f (.ref a)) (.cons W .nil) (G H S hS)) λr c h=>?_;cases r with
  |error e=>show(J H e c h).elim
  |ok fl=>
   cases fl with
   |next=>show False.elim h
   |brk=>show False.elim h
   |cont=>show False.elim h
   |ret u=>
    let(v,H',os,B,un,M,Z,q):=h;let q':v=.bl UJ:=q;subst q';obtain rfl:u=UI.bool UJ:=Z;show#[W,OldK.of_keep λb o e=>?_,os,B];cases q:H b with
    |none=>show un.keep b o e q (by intro z;show a7 (show b∈([]:bb UP)from z) (by simp)) (by simp)
    |some u=>
     rcases S b with z|⟨ob,xs,z⟩
     .rw[q]at z;ext z
     .let Y:=un.ZY b ob _ z;let(e1,_):=V4 b _ z;let(e2,_):=M b _ Y;rw[e]at e1;ext e1;show e2
 cases hk:K.lookup a with
 |some o=>let e:=U a o hk;rw[ha]at e;ext e;show j (λ_=>lD) (λ_=>.inl W) (.inr #[_,D.toArray,_,hk,W,W,W,by rw[U3,N];show R,by simpa using rv]) (λb u z=>by let l:(lD:bg HO)=cL u:=z;ext l) (λb z=>a7 W z) λz=>a7 W z
 |none=>
  show j (λb=>if b=a then cL (.frz {cls:=.type "list",data:=.seq D.toArray} (.lst (p.map V.int)))else lD) (λb=>?_) (.inl (.inr #[{cls:=.type "list",data:=.seq D.toArray},ax W])) (λb u z=>?_) (λb z=>?_) λ_=>hk
  .by_cases g:b=a
   .show .inr #[_,_,ax g]
   .show .inl (a3 g)
  .by_cases g:b=a
   .let l:=(ax g).symm.trans z;ext l;subst g;show#[ha,by rw[UK];show R,D,_,rv,ha]
   .let l:=(a3 g).symm.trans z;ext l
  .by_cases g:b=a
   .show g
   .show a7 (a3 g) z
def aJ(s:Wz)(j:Nat):Wz:=match s with
 |.ClassDef _ _ _ body _ _ _ _ _ _ _=>body.getD j (.Pass #[0,0,0,0])
 |_=>.Pass #[0,0,0,0]
def eP(s:Wz):Arguments:=match s with
 |.FunctionDef _ a _ _ _ _ _ _ _ _=>a
 |_=>{posonlyargs:=[],args:=[],vararg:=P,kwonlyargs:=[],kw_defaults:=[],kwarg:=P,defaults:=[]}
def bT(s:Wz):G Wz:=match s with
 |.FunctionDef _ _ b _ _ _ _ _ _ _=>b
 |_=>[]
def aw(s:Wz):WO:=match s with
 |.FunctionDef _ _ _ _ _ _ sc _ _ _=>sc
 |_=>{kind:=.function,names:=[],isGenerator:=R,isCoroutine:=R}
abbrev j0:tE:=λ_ _ _ _ _ _=>False
abbrev E0:XK:=λ_ _ _=>False
theorem BU:d9 j0 X E0:=λ_ _ _ _ _ _ _ h=>h.elim
structure ZD(K:CL)(x qual:Str)(st:Wz)(f:J)(fd:VT):Prop where
 ex:∃(oc:U) (od:I J) (kV doc pm:U) (an:I J) (WB ct:U) (osl:Array (I U)),
  fd=Wc x qual (eP st) (bT st) (aw st) .none kV doc pm an WB ct/\K.lookup f=M #[oc,od,.func fd,osl]/\XY K WB qual=S
 kp:Wn K (.ref f)=S
section
variable{P:Vc}{w:Vw}{K:CL}{Z:Str->bg UI}{base:Heap}
def ZD.ok{x a:Str}{st:Wz}{f:J}{fd:VT}{N d:G Str}{k:Nat}{sp:Sp}(F:ZD K x a st f fd)(S:W3 N d (aw st))(len:∀c H Q E,sp c H Q E->c.length=d.length)
  (n:∀(b:U) (A:Vq) (outer:G Env) (s:UQ) (H:Hp) (c:G V) (Q:VK) (E:XK),WC k (A.deeper (envOfC a (aw st) s.heap.objs.size f b))->sp c H Q E->
   ∃t,PSs (eZ j0 P w K Z base N a (aw st) f b A outer s H E).nox (bT st) t/\t {nx:=λ_ v=>Q .W9 v,rt:=Q} (start N c) H):FnOk P w K Z base j0 (k+1) f fd d sp:=by
 let(r,p,kV,m,o,u,b,ct,i,rfl,j,g):=F.ex;show Dp j g S len λA outer s H c Q E l e=>?_;let(t,h,q):=n b A outer s H c Q E l e;show#[t,h.nox,q]
def ZD.binds{x a:Str}{st:Wz}{f:J}{fd:VT}{ps:G Str}(F:ZD K x a st f fd)
  (h:∀(kV b e:U) (g:I J) (i ct:U) (us:G U),us.length=ps.length->bindArgs (Wc x a (eP st) (bT st) (aw st) .none kV b e g i ct) #[us,[]]=pure (ps.zip us)):Binds K fd ps []:=by
 let(n,m,kV,b,e,g,i,ct,j,rfl,o,l):=F.ex;show .all (h kV b e g i ct)
theorem B7{st:Wz}{kV a e b ct:U}(l:K.lookup f=M #[oc,C,.func (Wc x qual (eP st) (bT st) (aw st) .none kV a e an b ct),o])
  (c:XY K b qual=S) (k:Wn K (.ref f)=S):ZD K x qual st f (Wc x qual (eP st) (bT st) (aw st) .none kV a e an b ct):=#[#[oc,C,kV,a,e,an,b,ct,o,W,l,c],k]
end
theorem ED(a:WC k A):A.units+1<cLine:=acs (Nat.add_le_add_left (by decide:1<=64) _) a.units
section
variable{X:Cx}
theorem pv(i:Nat)(e:X.N[i]?=M x:=by rfl)(b:Qg X.env.scope x:=by first|show Or.inl W|show Or.inr (Or.inl W)|show Or.inr (Or.inr W))(hd:(x==("__debug__":Str))=R:=by decide)
  (a:(x==("__classdict__":Str))=R:=by decide):PE X (.Name x pos) (qB i):=DJ e b hd a
end
def Wt(H a:Hp):Prop:=∀b o,H b=M o->a b=M o
theorem Wt.refl(H:Hp):Wt H H:=λ_ _ h=>h
theorem Wt.trans(a:Wt H H1)(b:Wt H1 H2):Wt H H2:=λc o h=>b c o (a c o h)
def Wt.free(e:Wt H H')(h:H' l=P):H l=P:=by
 cases q:H l with
 |none=>rfl
 |some o=>rw[e l o q]at h;ext h
end L2
set_option maxHeartbeats 4000000
namespace L2
open PySem PySem.Spec PyProof.Rows
section
variable{X:Cx}{Z:bb (UP×Obj)}{T:St}{H:Hp}{s:UQ}{Y:Heap}
def Inv.aby{ch:G J}(I:Inv X Z T H s)(i:∀b∈ch,kL X Z H b)
  (k:∀b u,b∉ch->s.heap.get? b=M u->Y.get? b=M u) (l:s.heap.objs.size<=p)
  (new:ObjOk X.prog X.w (aW H p o) Y p o):Inv X Z T (aW H p o) {s with heap:=Y,toks:=t'}:=by
 let w:=I.V4.fresh l;let f:∀b u,H b=M u->b∉ch:=λb u e z=>by rw[(i b z).1]at e;ext e
 let h:∀b u,s.heap.get? b=M u->b≠p:=λb u e=>Vg (Vf (b3 e) l);show I.step (λb g=>?_) (λb u _ _ a e _=>k b u a e) (λb u _ _ a e _=>#[u.slots,k b u a e])
  (λb u _ e n=>by rw[au (h b u e)];show n) (λb u a e=>#[u,k b u a e]) (λb xs e=>by rw[au (bB e w)];show e)
  (λb u xs e=>by rw[au (bB e w)];show e) (λb K e=>#[#v[],by rw[au (bB e w),e];simp]) (λm hm=>?_) (λb u e=>?_) I.bare
 .let(_,C,_,B,A,y):=i b g;show#[B,C,A,y]
 .let(j,es,E,t,r):=hm;show#[j,es,E,k _ j (λz=>(i _ z).2.1 W) t,r]
 .by_cases g:b=p
  .subst g;rw[aC]at e;ext e;show new
  .rw[au g]at e
   show(I.V4 b u e).YY (λc v a q=>k c v ?_ q) (λc q=>by rw[au (bB q w)];show q) λc xs q=>by rw[au (bB q w)];show q
   rcases a with z|z
   .rw[z];show f b u e
   .show f c _ z
end
mutual
inductive DV(K:CL)(H:Hp):V->UM->Prop
 |W9:DV K H .W9 .none
 |bl (b:Bool):DV K H (.bl b) (.bool b)
 |int (i:Int):DV K H (.int i) (.int i)
 |str (x:Str):DV K H (.str x) (.str x)
 |tup {a:UP} {xs:bb V} {ds:bb UM}:Yr K H a xs->Wo K H xs ds->DV K H (.ref a) (.tuple ds)
 |lst {a:UP} {xs:bb V} {ds:bb UM}:Yk K H a xs->Wo K H xs ds->DV K H (.ref a) (.list ds)
inductive Wo(K:CL)(H:Hp):bb V->bb UM->Prop
 |nil:Wo K H [] []
 |cons {v:V} {vs:bb V} {d:UM} {ds:bb UM}:DV K H v d->Wo K H vs ds->Wo K H (v::vs) (d::ds)
end
section
variable{X:Cx}{Z:bb (UP×Obj)}{σ:St}{H:Hp}{s:UQ}
mutual
theorem DV.reads(I:Inv X Z σ H s):∀{v:V} {d:UM} {u:UI},DV X.K H v d->RelV v u->∃as,abe s.heap u d as
 |_,_,_,.W9,r=>by cases r;exact⟨_,.none⟩
 |_,_,_,.bl b,r=>by cases r;exact⟨_,.bool b⟩
 |_,_,_,.int i,r=>by obtain⟨t,rfl⟩:=r;exact⟨_,.int i t⟩
 |_,_,_,.str x,r=>by obtain⟨t,rfl⟩:=r;exact⟨_,.str x t⟩
 |_,_,_,.tup h hs,r=>by cases r;obtain⟨a,rv,⟨o,e,c,n,d⟩,_⟩:=I.tuple h;obtain⟨as,q⟩:=Wo.reads I hs rv;exact⟨_,.tuple e c d (by simpa using q)⟩
 |_,_,_,.lst h hs,r=>by cases r;obtain⟨a,rv,⟨o,n,e,c,_,d⟩,_⟩:=I.list h;obtain⟨as,q⟩:=Wo.reads I hs rv;exact⟨_,.list e c d (by simpa using q)⟩
theorem Wo.reads(I:Inv X Z σ H s):∀{vs:bb V} {ds:bb UM} {us:bb UI},Wo X.K H vs ds->Vals vs us->∃as,Zw s.heap us ds as
 |_,_,_,.nil,r=>by cases r;exact⟨_,.nil⟩
 |_,_,_,.cons h hs,r=>by
  cases r with
  |cons b a=>obtain⟨as,q⟩:=DV.reads I h b;obtain⟨bs,e⟩:=Wo.reads I hs a;exact⟨_,.cons q e⟩
end
end
def Ir(K:CL)(neg:Bool):R2:=λx y H Q=>∃a b,DV K H x a/\DV K H y b/\a.canLay0=S/\b.canLay0=S/\a.depth<=64/\Q (.bl (if neg then !UM.eqv a b else UM.eqv a b)) H
section
variable{X:Cx}
def On(o:X.A.units+64<cLine):OpR X (V1 .Eq) (Ir X.K R):=by intro a s n H x y v u Q I e b h;let(t,r,m,l,j,i,p,q):=h;let(as,g):=m.reads I e;let(bs,f):=l.reads I b;show ahz g f j i () #[.bl _,H,I,W,q]
def Pj(o:X.A.units+64<cLine):OpR X (V1 .NotEq) (Ir X.K S):=by intro a s n H x y v u Q I e b h;let(t,r,m,l,j,i,p,q):=h;let(as,g):=m.reads I e;let(bs,f):=l.reads I b;show ahA g f j i () #[.bl _,H,I,W,q]
theorem Co:OpR X (Wu .FloorDiv) (rI (λ_ j=>0<j/\j.natAbs.log2<9000) λi j=>.int (i/j)):=Q5 λi j _ _ _ _ _ a q=>by let b:(0:Int)<j:=a.1;show floordiv_int () (by rw[aar i ()];show q) (.inl (PyProof.noPylong_of_log2 a.2))
end
def fY(env:Env):G (Str×Vb)->G (Str×J)->G (Str×J)
 |[],acc=>acc
 |(n,k)::r,acc=>if(k==Vb.free)=S then(match env.cells.lookup n with|some c=>fY env r ((n,c)::acc)|none=>fY env r acc)else fY env r acc
theorem ko{f:Str×Vb->G (Str×J)->Sem (ForInStep (G (Str×J)))}
  (g:∀n k acc,(k==Vb.free)=R->f (n,k) acc=pure (.yield acc)) (b:∀n c acc,env.cells.lookup n=M c->f (n,.free) acc=pure (.yield ((n,c)::acc))):
  ∀(names:G (Str×Vb)) (acc:G (Str×J)),(∀y∈names,y.2=.free->∃c,env.cells.lookup y.1=M c)->forIn names acc f=pure (fY env names acc)
 |[],acc,_=>rfl
 |(n,k)::r,acc,h=>by
  let i:=λy l=>h y (UX _ l);rw[YL];cases m:(k==Vb.free)with
  |false=>rw[g n k acc m,pure_bind];show forIn r acc f=_;rw[ko g b r acc i];simp only[fY,m,WZ,if_false]
  |true=>
   let e:k=.free:=by simpa using m
   subst e;let(c,j):=h _ UT W;rw[b n c acc j,pure_bind];show forIn r ((n,c)::acc) f=_;rw[ko g b r _ i];let a:=j;simp only[fY,m,if_true,a]
def pK(h:∀y∈scope.names,y.2=.free->∃c,env.cells.lookup y.1=M c):closureFor scope env=pure (fY env scope.names []):=by simp only[closureFor];rw[ko (λn k a b=>by simp only[b,WZ,if_false]) (λn c a e=>by simp only[dw,if_true,cellOf,e,pure_bind]) scope.names [] h,pure_bind]
theorem jc:∀(names:G (Str×Vb)) (acc:G (Str×J)),(∀x c,acc.lookup x=M c->env.cells.lookup x=M c)->∀x c,(fY env names acc).lookup x=M c->env.cells.lookup x=M c
 |[],_,h,x,c,e=>h x c e
 |(n,k)::r,acc,h,x,c,e=>by
  unfold fY at e;split at e
  .split at e
   .rename_i f a
    show jc r _ (λy d q=>?_) x c e;rw[VD]at q;split at q
    .rename_i b;ext q;rw[eq_of_beq b];show a
    .show h y d q
   .show jc r acc h x c e
  .show jc r acc h x c e
theorem jL:∀(names:G (Str×Vb)) (acc:G (Str×J)) (x:Str),(acc.lookup x).isSome=S->((fY env names acc).lookup x).isSome=S
 |[],_,_,h=>h
 |(n,k)::r,acc,x,h=>by
  ext fY;split
  .split
   .show jL r _ x ?_
    rw[VD];split
    .rfl
    .show h
   .show jL r acc x h
  .show jL r acc x h
theorem kP:∀(names:G (Str×Vb)) (acc:G (Str×J)) (x:Str) (c:J),(x,Vb.free)∈names->env.cells.lookup x=M c->((fY env names acc).lookup x).isSome=S
 |[],_,_,_,h,_=>by ext h
 |(n,k)::r,acc,x,c,h,a=>by
  rcases Vh.mp h with z|h
  .ext z;simp only[fY,dw,if_true,a];show jL r _ _ (by simp[VD])
  .ext fY
   split
   .split
    .show kP r _ x c h a
    .show kP r acc x c h a
   .show kP r acc x c h a
def uV(h:(x,Vb.free)∈names)(a:env.cells.lookup x=M c):(fY env names []).lookup x=M c:=by
 let q:=kP names [] x c h a;cases e:(fY env names []).lookup x with
 |none=>rw[e]at q;ext q
 |some d=>let z:=jc names [] (λy d q=>by ext q) x d e;rw[a]at z;show z.symm
def vH{env:Env}{a:WO}{x:Str}{k:Vb}(h:(relabel a env).names.lookup x=M k):∃c,(x,c)∈a.names/\(k=c\/(c=.free/\k=.cell)):=by
 let((n,c),hm,e):=Vl.mp (Wv h);simp only at e;split at e
 .rename_i b
  ext e;let f:(c==Vb.free)=S:=by rw[UH,UH]at b;show b.1.1
  show#[c,hm,.inr #[by simpa using f,W]]
 .ext e;show#[_,hm,.inl W]
theorem iR{env:Env}:∀{names:G (Str×Vb)} {x:Str},names.lookup x=M .free->
  (names.map λ(n,k)=>if(k==Vb.free&&env.scope.kind==.function&&env.kindOf n==M .cell)then(n,Vb.cell)else(n,k)).lookup x=M .cell\/
  (names.map λ(n,k)=>if(k==Vb.free&&env.scope.kind==.function&&env.kindOf n==M .cell)then(n,Vb.cell)else(n,k)).lookup x=M .free
 |[],_,h=>by ext h
 |(n,k)::r,x,h=>by
  rw[VD]at h;rw[U5];dsimp only;by_cases a:(k==Vb.free&&env.scope.kind==.function&&env.kindOf n==M .cell)=S
  .rw[ax a,VD]
   cases b:x==n with
   |true=>show .inl W
   |false=>rw[b]at h;show iR h
  .rw[a3 a,VD]
   cases b:x==n with
   |true=>rw[b]at h;show .inr h
   |false=>rw[b]at h;show iR h
def dE(own:G Str)(a:G (Str×Nat)):G Str:=own++a.map (·.1)
def ia(own:G Str)(b:G (Str×Nat))(a:St):St:=own.map (λ_=>P)++b.map λp=>(a[p.2]?).join
def aaD(X:Cx)(a:WO):G (Str×Nat)->Prop
 |[]=>True
 |p::r=>(X.N[p.2]?=M p.1/\a.names.lookup p.1=M .free/\(X.env.scope.names.lookup p.1=M .cell\/X.env.scope.names.lookup p.1=M .free))/\aaD X a r
theorem aaD.mem:∀{a:G (Str×Nat)},aaD X scope a->∀p∈a,X.N[p.2]?=M p.1/\scope.names.lookup p.1=M .free/\(X.env.scope.names.lookup p.1=M .cell\/X.env.scope.names.lookup p.1=M .free)
 |[],_,p,b=>by ext b
 |q::r,h,p,b=>by
  rcases Vh.mp b with z|b
  .rw[z];show h.1
  .show h.2.mem p b
def ud(X:Cx)(a:WO)(C:J):G (Str×J):=WH (C+1) a.names (fY X.env a.names [])
theorem oY:∀(names:G (Str×Vb)) (n:Nat) (acc:G (Str×J)) (x:Str) (c:J),(WH n names acc).lookup x=M c->(n<=c/\(x,Vb.cell)∈names)\/acc.lookup x=M c
 |[],_,_,_,_,h=>.inr h
 |(y,k)::r,n,acc,x,c,h=>by
  unfold WH at h;by_cases b:(k==Vb.cell)=S
  .rw[ax b]at h
   let e:k=.cell:=by simpa using b
   rcases oY r _ _ x c h with⟨a,f⟩|a
   .show .inl #[Ym a,UX _ f]
   .rw[VD]at a
    split at a
    .rename_i g;ext a;show .inl #[UU _,by rw[eq_of_beq g,e];show UT]
    .show .inr a
  .rw[a3 b]at h
   rcases oY r _ _ x c h with⟨a,f⟩|a
   .show .inl #[a,UX _ f]
   .show .inr a
theorem Fz:∀(names:G (Str×Vb)) (n:Nat) (acc:G (Str×J)) (x:Str),(x,Vb.cell)∉names->(WH n names acc).lookup x=acc.lookup x
 |[],_,_,_,_=>rfl
 |(y,k)::r,n,acc,x,h=>by
  let b:=λz=>h (UX _ z);ext WH;by_cases a:(k==Vb.cell)=S
  .let e:k=.cell:=by simpa using a
   rw[ax a,Fz r _ _ x b,VD];let f:(x==y)=R:=by show beq_eq_false_iff_ne.mpr λz=>h ?_;rw[z,e];show UT
   rw[f]
  .rw[a3 a];show Fz r _ _ x b
theorem pO:∀(names:G (Str×Vb)) (h:Heap) (acc:G (Str×J)) (x:Str) (c:J),(WH h.objs.size names acc).lookup x=M c->(h.objs.size<=c/\(pushCells h names).IsCell c P)\/acc.lookup x=M c
 |[],_,_,_,_,e=>.inr e
 |(y,k)::r,h,acc,x,c,e=>by
  unfold WH at e;ext pushCells;by_cases b:(k==Vb.cell)=S
  .rw[ax b]at e⊢
   rw[<-cc h {cls:=.type "cell",data:=.cell P}]at e;rcases pO r _ _ x c e with⟨a,f⟩|a
   .rw[cc]at a;show .inl #[Ym a,f]
   .rw[VD]at a
    split at a
    .ext a;show .inl #[UU _,_,aaM _ _ _ _ (b4 _ W),W]
    .show .inr a
  .rw[a3 b]at e⊢;show pO r _ _ x c e
theorem xJ:∀(names:G (Str×Vb)) (n:Nat) (acc:G (Str×J)),(∀x c,acc.lookup x=M c->c<n)->(∀x y c,acc.lookup x=M c->acc.lookup y=M c->x=y)->∀x y c,(WH n names acc).lookup x=M c->(WH n names acc).lookup y=M c->x=y
 |[],_,_,_,i,x,y,c,e1,e2=>i x y c e1 e2
 |(z,k)::r,n,acc,h1,i,x,y,c,e1,e2=>by
  unfold WH at e1 e2;by_cases g:(k==Vb.cell)=S
  .rw[ax g]at e1 e2
   show xJ r (n+1) ((z,n)::acc) (λa d q=>?_) (λa b d f e=>?_) x y c e1 e2
   .rw[VD]at q
    split at q
    .ext q;show XO _
    .show Yn (h1 a d q)
   .rw[VD]at f e
    split at f
    .rename_i j
     split at e
     .rename_i h;rw[eq_of_beq j,eq_of_beq h]
     .ext f;show a7 (h1 b _ e) (Wd _)
    .split at e
     .ext e;show a7 (h1 a _ f) (Wd _)
     .show i a b d f e
  .rw[a3 g]at e1 e2;show xJ r n acc h1 i x y c e1 e2
theorem xo:∀{names:G (Str×Vb)} {x:Str} {k a:Vb},(names.map (·.1)).Nodup->names.lookup x=M k->(x,a)∈names->k=a
 |[],_,_,_,_,h,_=>by ext h
 |(y,j)::r,x,k,a,f,h,hm=>by
  rw[U5,Wh]at f;rw[VD]at h;rcases Vh.mp hm with e|b
  .ext e;rw[dw]at h;show(Vd h).symm
  .cases g:x==y with
   |true=>rw[eq_of_beq g]at b;show a7 (Vl.mpr #[_,b,W]) f.1
   |false=>rw[g]at h;show xo f.2 h b
def bX(X:Cx)(s:UQ)(H:Hp)(a:WO)(C:J)(N:G Str)(b:G J):Cx:=
 {X with N:=N,s₀:=s,H₀:=H,env:=compEnvC a (ud X a C) C X.env,outer:=X.stack,stack:=X.stack,ex:=b,fn:=λx=>((fY X.env a.names []).lookup x).isNone,pn:=[],xe:=λ_ _=>False}
section
variable{X:Cx}{Z:bb (UP×Obj)}{Y:St}{H:Hp}{s:UQ}
def re{a:WO}(I:Inv X Z Y H s)(e:(fY X.env a.names []).lookup x=M c):X.env.cells.lookup x=M c/\c<s.heap.objs.size:=by let h:=jc _ _ (λ_ _ q=>by ext q) x c e;let(v,o,z,_):=I.cell x c h;show#[h,b3 z]
theorem zw(I:Inv X Z Y H s)(M:scope.kind=.function)(n:(scope.names.map (·.1)).Nodup)
  (v:∀y∈scope.names,y.2=.free->∃c,X.env.cells.lookup y.1=cL c) (g:s.heap.objs.size<=C) (j:∀b∈fp,kL X Z H b) (f:∀b∈fp,b<s.heap.objs.size):(bX X s H scope C N fp).Ok where
 mod:=I.ok.mod
 kind:=M
 glob:=I.ok.glob
 blt:=I.ok.blt
 above:=g
 inj:=xJ _ _ _ (λx c e=>Yn (Vf (re I e).2 g)) λx y c B A=>I.ok.inj x y c (re I B).1 (re I A).1
 has:=λx G=>by
  let m:∃k,(relabel scope X.env).names.lookup x=cL k/\(k=.cell\/k=.free):=by
   rcases G with z|z
   .show#[_,z,.inl W]
   .show#[_,z,.inr W]
  let(k,K,t):=m;let(E,hm,u):=vH K;let e:E=.free\/E=.cell:=by
   rcases u with z|⟨z,_⟩
   .subst z
    rcases t with z|z
    .show .inr z
    .show .inl z
   .show .inl z
  let q:((ud X scope C).lookup x).isSome=S:=by
   rcases e with e|e
   .subst e;let(c,L):=v _ hm W;show Xs _ _ _ (.inr (by rw[uV hm L];rfl))
   .subst e
    show Xs _ _ _ (.inl ?_);cases z:scope.names.lookup x with
    |none=>show a7 hm (λhm=>by
      let:∀{l:bb (Str×Vb)},l.lookup x=P->(x,Vb.cell)∉l:=λ{l}=>by
       induction l with
       |nil=>show λ_=>by simp
       |cons p r F=>
        intro h q;rw[VD]at h;rcases Vh.mp q with q|q
        .rw[<-q,dw]at h;ext h
        .split at h
         .ext h
         .show F h q
      show this z hm)
    |some O=>rw[xo n z hm]
  show Wm.mp q
 cab:=λx c B A=>by
  let i:((fY X.env scope.names []).lookup x).isNone=S:=B;let w:=A;rcases oY _ _ _ x c w with⟨z,_⟩|z
  .show Vv g (Ym z)
  .rw[z]at i;ext i
 hd:=I.ok.hd
 frames:=I.ok.frames
 stk:=.inl W
 exf:=λb a=>#[Vg (Vf (f b a) g),λx c e=>by
  rcases oY _ _ _ x c e with⟨z,_⟩|z
  .show VW (Vf (Vf (f b a) g) (Ym z))
  .show(j b a).2.2.2.2.1 x c (re I z).1]
 bs:=I.bs
 bsz:=Vv I.ok.bsz I.sz
 aca:=λb o e a=>by
  rcases(j b a).2.2.2.1 with z|z
  .show I.ok.aca b o e z
  .show a7 (Vf (b3 e) (Vv I.ok.bsz z)) (Wd _)
 abY:=λb a J=>by
  rcases Vh.mp (I.aaE b J)with z|z
  .show(j b a).2.1 z
  .show(j b a).2.2.1 z
 Zz:=I.stack
 frf:=I.aax
def Ec(I:Inv X Z Y H s)(X8:scope.kind=.function)(d:(scope.names.map (·.1)).Nodup)
  (N:∀y∈scope.names,y.2=.free->∃c,X.env.cells.lookup y.1=M c) (L:aaD X scope fv) (B:s.heap.objs.size<=D) (j:D<C) (T:s.heap.objs.size<=C) (hf:∀b∈fp,kL X Z H b) (O:∀b∈fp,b<s.heap.objs.size)
  (F:h1.Ns C m) (E:∀x c,(ud X scope C).lookup x=M c->C<c->∃v,h1.IsCell c v) (w:∀b o,s.heap.get? b=M o->h1.get? b=M o) (hd:∃n,h1.get? D=M {cls:=.type "list",data:=.seq #v[] n}):
  Inv (bX X s H scope C (dE own fv) fp) [] (ia own fv Y) (aW H D (.lst [])) {s with heap:=h1,toks:=t1}:=by
 let hn:=I.V4.fresh B;let(n,hd):=hd;let Q:=VW j;let h:∀x c,(ud X scope C).lookup x=M c->C<c\/(X.env.cells.lookup x=M c/\c<s.heap.objs.size):=λx c e=>by
  rcases oY _ _ _ x c e with⟨z,_⟩|z
  .show .inl z
  .show .inr (re I z)
 show#[zw I X8 d N T hf O,W,I.bare,Un.laid w B hn,#[m,F,λi x v e1 e2 e3=>?_],λx c e=>?_,?_,λx c e=>?_,λp hp=>a7 (show p∈([]:G (J×Obj))from hp) (by simp),?_,?_]
 .
  let f:(own++fv.map (·.1))[i]?=M x:=e1;let a:(own.map (λ_=>(P:bg V))++fv.map λp=>(Y[p.2]?).join)[i]?=M (M v):=e2;let A:own.length<=i:=by
   by_cases A:i<own.length
   .rw[U1 (by simpa using A),UZ]at a
    cases q:own[i]? with
    |none=>rw[q]at a;ext a
    |some _=>rw[q]at a;ext a
   .omega
  rw[Vn A,UZ]at f;rw[Vn (by simpa using A),UZ,UK]at a;cases q:fv[i - own.length]? with
  |none=>rw[q]at f;ext f
  |some p=>
   rw[q]at f a;let ex:=Vd f;subst ex;let ev:(Y[p.2]?).join=M v:=Vd a;let(g1,g2,g3):=L.mem p (Vr q);let ev2:Y[p.2]?=M (M v):=by
    cases z:Y[p.2]? with
    |none=>rw[z]at ev;ext ev
    |some y=>rw[z]at ev;show dt M ev
   let(m0,_,hl):=I.loc;let(u,r,l):=hl p.2 p.1 v g1 ev2 (.inr g3);show#[u,r,?_];let l2:∃c,X.env.cells.lookup p.1=M c/\s.heap.IsCell c (M u):=by
    rcases l with⟨k,_⟩|⟨_,c,e,z⟩
    .let t:X.env.scope.names.lookup p.1=M .local:=k
     rcases g3 with z|z
     .rw[z]at t;ext t
     .rw[z]at t;ext t
    .show#[c,e,z]
   let(c,e,o,K,g):=l2;show .inr #[?_,c,?_,o,w c o K,g]
   .show iR g2
   .show(ud X scope C).lookup p.1=M c;ext ud;rw[Fz _ _ _ _ λz=>by cases xo d g2 z];show uV (Wv g2) e
 .rcases h x c e with z|⟨z,_⟩
  .show E x c e z
  .let(v,o,K,g):=I.cell x c z;show#[v,o,w c o K,g]
 .show aW H D (.lst []) C=P;rw[au Q];show I.V4.fresh T
 .show aW H D (.lst []) c=P
  rcases h x c e with z|⟨z1,z2⟩
  .rw[au (VW (XA j z))];show I.V4.fresh (Vv T (YH z))
  .rw[au (Vg (Vf z2 B))];show I.YQ x c z1
 .show I.V4.laid w B #[by show 0<=UY;show Vu _,[],n,.nil,hd]
 .show(own.map (λ_=>(P:bg V))++fv.map λp=>(Y[p.2]?).join).length=(own++fv.map (·.1)).length;simp
end
def wm(X:Cx)(e:G Va)(t:TT):Prop:=
 ∀(a:G (J×Obj)) (s:UQ) (b:St) (H:Hp) (Q:Bool->Hp->Prop),Inv X a b H s->t b H Q->
  wpAny (model X.prog X.w) X.A (forIn e S λc r=>if r=S then do let ok<-isTrue c X.env (eval c X.env);pure (ForInStep.yield ok)else pure (ForInStep.yield r)) (TP X a b Q) X.xe s
def D3:TT:=λ_ H Q=>Q S H
theorem wg:wm X [] D3:=λ_ _ _ H _ I h=>wpAny_tests_nil #[H,I,h]
theorem EA(h:PT X c o):wm X [c] o:=λa s b H Q I e=>wpAny_tests_one (h a s b H Q I e)
def Cm(J:It)(D:UP)(e:St)(g:TG)(l:TT)(j:TE)(o:Hp)(Fin:Hp->Prop):Prop:=
 ∃W:Nat->Nat->St->Hp->Prop,(∃m,W 0 m e (aW o D (.lst [])))/\∀i m σ H,W i m σ H->
  (J.stop i H/\Fin H)\/(J.go i H/\∃N:St->Hp->Prop,(∀p q,N p q->∃r,r<m/\W (i+1) r p q)/\
   ∀x q,J.yld i H x q->g x σ q λa n=>l a n λb h=>if b=S then j a h λy f=>∃ys,f D=M (.lst ys)/\ys.length<UY/\N a (aW f D (.lst (ys++[y])))else N a h)
section
variable{Y:Vc}{w:Vw}{A:Vq}{s:UQ}
def Bz{i o f:Va}{g:bb Va}{b:WO}{j:Pos}{it acc:U}{env:Env}{R:Zu->UQ->Prop}{XE:U->UQ->Prop}(B:∀x s1,XE x s1->notedBy (model Y w) A env (λe s2=>R (.error e) s2) x s1)(I:Nat->UQ->Prop)
  (turn:∀n s,I n s->wpAny (model Y w) A (pyNext it) (λr s1=>match r with
   |none=>R (.ok .next) s1
   |some v=>wpAny (model Y w) A (letOwnedTupleGo o it v) (λ_ s2=>wpAny (model Y w) A (assign o env v) (λ_ s3=>
     wpAny (model Y w) A (forIn g S λc r=>if r=S then do let ok<-isTrue c env (eval c env);pure (ForInStep.yield ok)else pure (ForInStep.yield r)) (λok s4=>
      if ok=S then wpAny (model Y w) A (eval i env) (λx s5=>
       wpAny (model Y w) A (call (.builtin "list.append") [acc,x]) (λ_ d=>∃m,m<n/\I m d) (λ_ _=>False) s5) XE s4
      else∃m,m<n/\I m s4) (λ_ _=>False) s3) (λ_ _=>False) s2) (λ_ _=>False) s1) (λ_ _=>False) s)
  (n:Nat) (h:I n s):codeAny (model Y w) A (.compLoop (.ListComp i [#[o,f,g,0]] b j) 0 it acc env) R s:=by
 show codeAny_loop W I (λn s C=>?_) n h;show wpAny _ A (Sem.onRaise (compTurn (.ListComp i [#[o,f,g,0]] b j) 0 it acc env) (λx=>do noteFrame x env;theTreesLotGoes x)) _ _ s;show wpAny_noted ?_;rw[compTurn_list]
 let l:∀{α:Type} {t:Sem α} {Q y:α->UQ->Prop} {E:U->UQ->Prop} {s:UQ},wpAny (model Y w) A t Q (λ_ _=>False) s->(∀a K,Q a K->y a K)->wpAny (model Y w) A t y E s:=
  λp q=>wpAny_mono p q λ_ _ z=>False.elim z
 show Ld (WY (Ld (l (turn n s C) λr s1 p=>?_)));cases r with
 |none=>show UR p
 |some v=>
  show Ld (l p λ_ s2 q=>Ld (l q λ_ s3 H=>Ld (l H λok s4 u=>?_)));cases ok with
  |false=>show UR #[W,u]
  |true=>show Ld (Ld (wpAny_mono u (λx s5 G=>Ld (l G λ_ d F=>UR (UR #[W,F]))) B))
end
section
variable{X:Cx}{Z:bb (UP×Obj)}{Y:St}{H:Hp}{s:UQ}
def sF
  (h:Q (newEnv scope s.heap.objs.size globals (WH (s.heap.objs.size+1) scope.names closure) qual P .none (cL env) builtinsNs) {s with heap:=pushCells (s.heap.push {cls:=.type "dict",data:=.dict #v[]}) scope.names}):
  wpAny f A (newFunctionEnv scope globals closure [] qual P .none (cL env)) Q E s:=by
 simp only[newFunctionEnv,abI,if_true];show Ld (wpAny_alloc ?_);show Ld (wpAny_layCells _ (λe a b=>by cases g:a==Vb.cell<;>simp[g]) _ _ _ _ ?_);rw[show({s with heap:=s.heap.push {cls:=.type "dict",data:=.dict #v[]}}:UQ).heap.objs.size=s.heap.objs.size+1 from cc ..];rw[aai];show Ld (UR (UR h))
def oy{P tg q:Va}{F:bb Va}{scope:WO}{pos:Pos}{own:bb Str}{h:bb (Str×Nat)}{g:TG}{tc:TT}{te:TE}{E:UI->UQ->Prop}{it:UP}{k:bb UP}{tn:Nat->Heap->Prop}{J:It}{Fin:UP->Hp->Prop}
  {RR:UI->UP->Zu->UQ->Prop} (I:Inv X Z Y H s) (hc:X.calm=UJ) (X8:scope.kind=.function) (hnd:(scope.names.map (·.1)).Nodup) (hfr:∀y∈scope.names,y.2=.free->∃c,X.env.cells.lookup y.1=cL c) (hfv:aaD X scope h)
  (T:Turn X.prog X.w X.K tg J k it tn) (st:tn 0 s.heap) (L:∀b∈k,kL X Z H b)
  (hg:∀C,PG (bX X s H scope C (dE own h) k) tg g) (ht:∀C,wm (bX X s H scope C (dE own h) k) F tc) {W:UP->UI->UQ->Prop} (he:∀C,PE ((bX X s H scope C (dE own h) k).Zl (W C)) P te) (hEE:∀D C x s1,s.heap.objs.size<=C->W C x s1->notedBy (model X.prog X.w) X.A (compEnvC scope (ud X scope C) C X.env) (λe s2=>RR (.ref D) C (.error e) s2) x s1)
  (hR:∀D,H D=lD->Cm J D (ia own h Y) g tc te H (Fin D))
  (hRR:∀D C V s',Inv X Z Y V s'->Fin D V->(∃m,s'.heap.Ns C m)->s.heap.objs.size<=C->V C=lD->RR (.ref D) C (.ok .next) s'):
  wpAny (model X.prog X.w) X.A (newList []) (λacc s3=>wpAny (model X.prog X.w) X.A (newFunctionEnv scope X.env.globals (fY X.env scope.names []) [] X.env.qual lD .none (cL X.env)) (λafK s4=>
   codeAny (model X.prog X.w) X.A (.compStart (.ListComp P [#[tg,q,F,0]] scope pos) 0 (.ref it) acc {afK with scope:=relabel scope X.env}) (RR acc afK.locals) s4) E s3) E s:=by
 show V0 ?_;generalize hH2:s.heap.push {cls:=.type "list",dict:=lD,data:=.seq ([]:bb UI).toArray}=h2;let hz:h2.objs.size=s.heap.objs.size+1:=by rw[<-hH2,cc]
 show sF (s:={s with heap:=h2}) ?_;let M:s.heap.objs.size<h2.objs.size:=by rw[hz];show XO _
 let hC:s.heap.objs.size<=h2.objs.size:=YH M;generalize hH1:pushCells (h2.push {cls:=.type "dict",data:=.dict #v[]}) scope.names=h1;let kp2:∀b o,h2.get? b=cL o->h1.get? b=cL o:=λb o e=>by rw[<-hH1];show aaM _ _ b o (bt _ e)
 let kp:∀b o,s.heap.get? b=cL o->h1.get? b=cL o:=λb o e=>kp2 b o (by rw[<-hH2];show bt _ e);let hns:h1.Ns h2.objs.size (λ_=>lD):=by rw[<-hH1];show(Heap.Ns.new h2 (.type "dict")).keeps (aaM _ _)
 let hoc:∀x c,(ud X scope h2.objs.size).lookup x=cL c->h2.objs.size<c->∃v,h1.IsCell c v:=λx c e Ye=>by
  let e':(WH (h2.push {cls:=.type "dict",data:=.dict #v[]}).objs.size scope.names (fY X.env scope.names [])).lookup x=cL c:=by rw[cc];show e
  rcases pO _ _ _ x c e' with⟨_,z⟩|z
  .show#[lD,by rw[<-hH1];show z]
  .show a7 (XA (re I z).2 (XA M Ye)) (Wd _)
 let hd:∃n,h1.get? s.heap.objs.size=cL {cls:=.type "list",data:=.seq #v[] n}:=#[0,kp2 _ _ (by rw[<-hH2];show b4 _ rfl)];let G:∀b∈k,b<s.heap.objs.size:=λb f=>by let(o,e,_):=T.obj 0 _ st b f;show b3 e
 let hn:H s.heap.objs.size=lD:=I.V4.fresh (UU _);let(W,(m0,w0),turn):=hR s.heap.objs.size hn;let O:∀{pl:bb (UP×Obj)} {V:Hp},(∀b∈k,V b=lD)->(∀p∈pl,p.1∉k)->∀b∈k,kL (bX X s H scope h2.objs.size (dE own h) k) pl V b:=λ{pl V} hn' ZP b f=>by let ok:=zw (C:=h2.objs.size) (N:=dE own h) I X8 hnd hfr hC L G;show#[hn' b f,(ok.exf b f).1,ok.abY b f,.inl f,(ok.exf b f).2,λp hp=>by let hp':p∈([]:bb (UP×Obj))++pl:=hp;intro z;show ZP p (by simpa using hp') (by rw[z];show f)]
 let l:∀s4:UQ,s4={s with heap:=h1}->
   codeAny (model X.prog X.w) X.A (.compLoop (.ListComp P [#[tg,q,F,0]] scope pos) 0 (.ref it) (.ref s.heap.objs.size) (compEnvC scope (ud X scope h2.objs.size) h2.objs.size X.env)) (RR (.ref s.heap.objs.size) h2.objs.size) s4:=by
  rintro s4 rfl
  let I0:Inv (bX X s H scope h2.objs.size (dE own h) k) [] (ia own h Y) (aW H s.heap.objs.size (.lst [])) {s with heap:=h1}:=
   Ec I X8 hnd hfr hfv (UU _) M hC L G hns hoc kp hd
  let st0:tn 0 h1:=T.keep 0 _ _ st λb _ o e=>kp b o e;let fr0:∀b∈k,(aW H s.heap.objs.size (.lst [])) b=lD:=λb f=>by rw[au (Vg (G b f))];show(L b f).1
  show Bz (λx s1 z=>hEE _ _ x s1 hC z) (λn s'=>∃i σ' V,Inv (bX X s H scope h2.objs.size (dE own h) k) [] σ' V s'/\tn i s'.heap/\(∀b∈k,V b=lD)/\W i n σ' V) ?_ m0 #[0,_,_,I0,st0,fr0,w0];rintro n s5 ⟨i,j,H5,I5,st5,fr5,w5⟩;rcases turn i n j H5 w5 with⟨stop,fin⟩|⟨go,N,hN,step⟩
  .show bP (T.done (bX X s H scope h2.objs.size (dE own h) k) rfl rfl rfl hc i [] s5 j H5 (λ_ _=>False) I5 (O fr5 (by simp)) st5 stop) λr s6 #[hr,A]=>?_;subst hr;let(mm,hm,_):=A.loc;show hRR _ _ H5 s6 ?_ fin #[mm,hm] hC A.free;show I.adR (ch:=k) A.os A.base A.V4 A.bare λb f=>#[(L b f).2.2.2.1,(L b f).2.1,(L b f).2.2.2.2.1,(L b f).2.2.2.2.2]
  .show bP (T.item (bX X s H scope h2.objs.size (dE own h) k) rfl rfl rfl hc i [] s5 j H5 (λ_ _=>False) I5 (O fr5 (by simp)) st5 go) λr s6 #[u,hr,h6]=>?_
   subst hr;show bP h6 λ_ s7 a=>?_;let(x,H7,I7,r7,y7,B,fr7):=a;let I7':=I7.pinned (fp:=k) (O fr7 (by simp)) (T.obj _ _ B);let t:∀{a:St} {Q:Hp} {w:UQ},Inv (bX X s H scope h2.objs.size (dE own h) k) ([]++oJ k s7.heap) a Q w->N a Q->∃m,m<n/\∃i σ' V,Inv (bX X s H scope h2.objs.size (dE own h) k) [] σ' V w/\tn i w.heap/\(∀b∈k,V b=lD)/\W i m σ' V:=λ{a Q w} I8 n8=>by let(m',hm,w8):=hN a Q n8;show#[m',hm,i+1,a,Q,I8.Zm,T.keep _ _ _ B λb f o e=>(I8.pin (b,o) (Vp _ (Vp _ (iP f e)))).1,λb f=>?_,w8];let(o,e,d):=T.obj _ _ B b f;show(I8.pin (b,o) (Vp _ (Vp _ (iP f e)))).2.1
   show bP (hg _ _ s7 j H7 x u _ I7' r7 (step x H7 y7)) λ_ w a=>?_;let(a,Q,I8,q8):=a;show bP (ht _ _ w a Q _ I8 q8) λok s9 a=>?_;let(H9,I9,q9):=a;cases ok with
   |false=>rw[a3 Ve]at q9⊢;show t I9 q9
   |true=>rw[ax rfl]at q9⊢;show bP (he _ _ s9 a H9 _ (I9.Zl _) q9) λy s10 a=>?_;let(K,H10,ajb,r10,ys,hy,hl,q10):=a;let I10:=ajb.Yv;show bP (mf _ s10 a H10 (.ref s.heap.objs.size) [K] (.ref s.heap.objs.size) [y] (λ_ H11=>N a H11) I10 rfl (.cons r10 .nil) #[_,ys,K,rfl,rfl,hy,hl,q10]) λ_ s11 a=>?_;let(v11,H11,I11,_,q11):=a;show t I11 q11
 show codeAny_compStart_list (l _ rfl) (T.self _ 0 _ _ _ (T.keep 0 _ _ st λb _ o e=>kp b o e) (l _ rfl))
def qZ(own:G Str)(h:G (Str×Nat))(b:TI)(g:TG)(f:TT)(e:TE):TE:=λY H Q=>b Y H λJ a=>∀D,a D=P->Cm J D (ia own h Y) g f e a λi=>Q (.ref D) i
theorem nG{a:WO}(ok:X.Ok)(h:∀y∈a.names,y.2=.free->(X.env.scope.names.lookup y.1=M .cell\/X.env.scope.names.lookup y.1=M .free)):∀y∈a.names,y.2=.free->∃c,X.env.cells.lookup y.1=M c:=
 λy b e=>ok.has y.1 (h y b e)
theorem KK{a sc:WO}(h:(a.names.all λy=> !(y.2==Vb.free)||(sc.names.lookup y.1==M Vb.cell)||(sc.names.lookup y.1==M Vb.free))=S):
  ∀y∈a.names,y.2=.free->(sc.names.lookup y.1=M .cell\/sc.names.lookup y.1=M .free):=λy b e=>by
 let q:=V9.mp h y b;rw[e]at q
 simpa using q
def zZ{elt d iter:Va}{ifs:G Va}{scope:WO}{pos:Pos}(own:G Str)(c:G (Str×Nat)){t:TI}{g:TG}{v:TT}{u:TE}(V:X.calm=S)(N:PI X d iter t)
  (O:∀s H C a,PG (bX X s H scope C (dE own c) a) d g) (F:∀s H C a,wm (bX X s H scope C (dE own c) a) ifs v) (he:∀s H C a,PE (bX X s H scope C (dE own c) a) elt u) (l:aaD X scope c)
  (n:(scope.names.all λy=> !(y.2==Vb.free)||(X.env.scope.names.lookup y.1==M Vb.cell)||(X.env.scope.names.lookup y.1==M Vb.free))=S)
  (w:scope.kind=.function:=by rfl) (k:(scope.names.map (·.1)).Nodup:=by left)
  (p:∀y∈scope.names,y.2=.local->scope.names.lookup y.1=M .local:=by left) (K:∀x,foldedSetIterable iter X.env x=pure x:=by intro _;rfl):
  PE X (.ListComp elt [#[d,iter,ifs,0]] scope pos) (qZ own c t g v u):=by
 intro Z s Y H Q I h;let f:=KK n;rw[eval_ListComp];show abW (use:=P) rfl K (pK (nG I.ok f)) w p (bP (N Z s Y H _ I h) λxv s1 h1=>bP h1 λE s2 h2=>?_);let(it,a,tn,J,H2,e,A,T,i,f2,R):=h2;subst e;show oy A V w k (nG I.ok f) l T i f2 (λC=>O _ _ C _) (λC=>F _ _ C _) (W:=λ_ _ _=>False) (λC=>he _ _ C _) (λ_ _ _ _ _ z=>z.elim) (Fin:=λD r=>Q (.ref D) r) R ?_;intro D C r B I' fin hm hC L;let(m,hm):=hm;show#[m,hm,λh' j=>#[.ref D,r,?_,rfl,fin]];let(f0,f1,_,f3,f4,f5):=A.aa1 hC L;show I'.turned (t':=B.toks) (λb o hb q=>(j.2 b hb).trans q) f0 f1 f3 f4 f5
def JN{elt d iter:Va}{ifs:G Va}{scope:WO}{pos k py:Pos}{i:Nat}{x:Str}(own:G Str)(j:G (Str×Nat)){O:TI}{g:TG}{tc:TT}{V:TE}(hN:X.N.Nodup)(w:X.N[i]?=M x)(hx:X.env.scope.names.lookup x=M .local)
  (hc:X.calm=S) (hi:PI X d iter O)
  (hg:∀s H C c,PG (bX X s H scope C (dE own j) c) d g) (ht:∀s H C c,wm (bX X s H scope C (dE own j) c) ifs tc) (he:∀s H C c,PE (bX X s H scope C (dE own j) c) elt V) (A:aaD X scope j)
  (E:(scope.names.all λy=> !(y.2==Vb.free)||(X.env.scope.names.lookup y.1==M Vb.cell)||(X.env.scope.names.lookup y.1==M Vb.free))=S)
  (r:Xe (.ListComp elt [#[d,iter,ifs,0]] scope pos) (M (.Name x py)) k.line X.env=pure S:=by rfl)
  (X8:scope.kind=.function:=by rfl) (u:(scope.names.map (·.1)).Nodup:=by left)
  (F:∀y∈scope.names,y.2=.local->scope.names.lookup y.1=M .local:=by left) (hs:∀x,foldedSetIterable iter X.env x=pure x:=by intro _;rfl):
  PS X (.Assign [.Name x py] (.ListComp elt [#[d,iter,ifs,0]] scope pos) k) (u8 (qZ own j O g tc V) (mx i)):=by
 intro Z s Y H D I h;let f:=KK E;rw[exec_Assign_Name_used _ _ _ _ r];show Ld (WY (Ld ?_));show wpAny _ _ (do let _<-comprehension (.ListComp elt [#[d,iter,ifs,0]] scope pos) scope X.env _ (newList []) UL (eval iter X.env) (M (assign (.Name x py) X.env))) _ _ s;show Ld (bP (abW (use:=M (assign (.Name x py) X.env)) (Q:=λ_ l=>SP X Z D .next l) rfl hs (pK (nG I.ok f)) X8 F
  (bP (hi Z s Y H _ I h) λxv s1 h1=>bP h1 λitv s2 h2=>?_)) λ_ l q=>UR (UR q))
 let(it,c,tn,J,H2,e,I2,T,n,f2,R):=h2;subst e;show oy I2 hc X8 u (nG I.ok f) A T n f2 (λC=>hg _ _ C _) (λC=>ht _ _ C _) (W:=λ_ _ _=>False) (λC=>he _ _ C _) (λ_ _ _ _ _ z=>z.elim) (Fin:=λL N=>D.nx (Y.set i (M (.ref L))) N) R ?_;intro L C N l I' fin hm hC hn;let(m,hm):=hm;let(f0,f1,f2',f3,f4,f5):=I2.aa1 hC hn;show wpAny _ _ (assign (.Name x py) X.env (.ref L)) _ _ l;show aeK (rS I' hN w (.inl hx) (v:=.ref L) rfl (λp K #[a,sb,ha]=>?_) (.inr hx));let B:C≠a:=by
  rcases ha with z|z
  .rw[z];show f1
  .show λq=>f4 x a z q.symm
 show#[m,hm.sameBut sb B,λh' t=>#[_,N,?_,fin]];show K.turned (t':=p.toks) (λb o hb q=>(t.2 b hb).trans q) f0 f1 f3 f4 f5
end
def vt(P:Vc)(w:Vw)(K:CL)(c:Str->I U)(base:Heap)(k:Nat)(x:Str)(b:G Str)(sp:Sp):Prop:=
 ∃(f:J) (a:VT),FnOk P w K c base j0 k f a b sp/\Binds K a b []/\Wn K (.ref f)=S/\c x=M (.ref f)
def tJ(C:vt X.prog X.w X.K X.mg X.base k x ps sp)(i:WC j X.A)(c:PA X (e::es) t)(a:k<=j:=by decide)(l:Gl X x:=by rfl)
  (g:(x==("__debug__":Str))=R:=by decide) (n:U7 (e::es) X.env=(R,eval e X.env)::U7 es X.env:=by rfl) (o:(backTo pos (U7 es X.env)).any (·.1)=R:=by rfl):
  PE X (.Call (.Name x p) (e::es) [] pos) (lg sp [] E0 t):=by
 let(f,q,F,b,h,m):=C;show zb F (i.mono a) l m h b .nil BU c g n o
section
variable{Z:St}{H:Hp}{Q:VK}{D:Ends}
theorem Oj(h:t {D with nx:=u D} Z H):Cs t u D Z H:=h
theorem Jf(h:o Z H λ_ H1=>D.nx Z H1):uS o D Z H:=h
end
def OO{α:Type}{xs:G α}{i:Int}{v:α}(a:0<=i)(h:xs[i.toNat]?=M v):ki xs i=M v:=by let q:=zq h;rwa [ace a]at q
def Wt.tup{K:CL}(e:Wt H H')(h:Yr K H a xs):Yr K H' a xs:=by
 rcases h with(h|⟨o,h⟩)|h
 .show .inl (.inl (e _ _ h))
 .show .inl (.inr #[o,e _ _ h])
 .show .inr h
theorem bJ(h:H p=P)(o:HO):Wt H (aW H p o):=λb u q=>by rw[au (bB q h)];show q
def K1:VP "max"=M (.builtin "max"):=by left
def KZ:VP "len"=M (.builtin "len"):=by left
def uF:VP "sorted"=M (.builtin "sorted"):=by left
def QE:VP "all"=M (.builtin "all"):=by left
def xk:VP "list"=M (.type "list"):=by left
def Ia:VP "tuple"=M (.type "tuple"):=by left
section
variable{X:Cx}
def vT:Xg X (.builtin "sorted") (λxs H Q=>∃(p:UP) (g:bb Int),xs=[.ref p]/\Yk X.K H p (g.map V.int)/\g.length<64/\∀(l:UP) (a:bb Int),H l=P->a.Perm g->a.Pairwise (·<=·)->Q (.ref l) (aW H l (.lst (a.map V.int)))):=by
 intro j s E H xs F Q I r h;let(p,g,rfl,v,A,q):=h;let(u,rfl,n):=ju r;ext n;let(C,K,pl,J):=I.list v;let w:=K.length;rw[UK]at w;show sorted_ints pl.isList (ku K) () λf a L m t=>?_;let(e,y):=sortedAll_at s.heap C f;let i:a.length=g.length:=m.length_eq;let B:f.toList.length=a.length:=L.length;show#[.ref (s.heap.objs.size+1),_,I.laid (t':=s.toks) (o:=.lst (a.map V.int)) (λb G z=>sortedAll_old z) (Yl _) ?_,W,q _ a (I.V4.fresh (Yl _)) m t];show#[?_,f.toList,e,ip L,y];rw[UK,i];let:(64:Nat)<=UY:=by decide
 ext
end
end L2
namespace L3
open PySem L2
abbrev D:=UM
inductive PV where
 |fz (d:D)
 |ow (ds:G D)
 |pl (i:Nat)
abbrev aL:=G (I PV)
structure Xc where
 cls:Str
 fs:G (Str×D)
inductive Res(α:Type) where
 |ok (a:α)
 |er (x:Xc)
 |bad
namespace Res
def bind(r:Res α)(f:α->Res β):Res β:=match r with
 |.ok a=>f a
 |.er x=>.er x
 |.bad=>.bad
def VO:I α->Res α
 |some a=>.ok a
 |none=>.bad
theorem bind_ok(a:α)(f:α->Res β):(Res.ok a).bind f=f a:=W
end Res
abbrev dN:=@Res.bind_ok
abbrev bC:=J->Prop
def cx(O:bC)(p:J):bC:=λb=>O b\/b=p
def Fg(O:bC)(p:J):bC:=λb=>O b/\b≠p
def noO:bC:=λ_=>False
def Ev(O:bC)(H:Hp)(a:bC)(c:Hp):Prop:=∀b o,H b=M o->¬O b->c b=M o/\¬a b
theorem Ev.refl:Ev O H O H:=λ_ _ h n=>#[h,n]
theorem Ev.trans(a:Ev O H O1 H1)(b:Ev O1 H1 O2 H2):Ev O H O2 H2:=λp o h n=>let#[h1,e]:=a p o h n;b p o h1 e
theorem Ev.grow(s:Wt H H'):Ev O H O H':=λb o h n=>#[s b o h,n]
theorem Ev.add(s:Wt H H')(a:H p=P):Ev O H (cx O p) H':=λb o h n=>#[s b o h,λz=>z.elim n λe=>by simp_all]
theorem Ev.sub(h:∀b,O' b->O b):Ev O H O' H:=λb o e n=>#[e,λz=>n (h b z)]
theorem Ev.mut(a:O p)(u:HO):Ev O H O (aW H p u):=λb o h n=>#[by rw[au (λe=>n (by simp_all))];show h,n]
def X4(K:CL)(H:Hp)(a:J)(xs:G V):Prop:=Rd H a (.lst xs)\/∃(b:G U) (n:Nat),K.lookup a=M {cls:=.type "list",data:=.seq b.toArray n}/\xs.length<=UY/\Vals xs b
def X4.sq(h:X4 K H a xs):Yk K H a xs:=by
 rcases h with h|⟨f,n,h1,e,b⟩
 .show .inl h
 .show .inr #[_,f.toArray,n,h1,W,W,W,by rw[U3,<-b.length];show e,by ext]
theorem X4.of(h:H a=M (.lst xs)):X4 K H a xs:=.inl (.inl h)
def X4.same(e:Wt H H')(h:X4 K H a xs):X4 K H' a xs:=by
 rcases h with(h|⟨o,h⟩)|h
 .show .inl (.inl (e _ _ h))
 .show .inl (.inr #[o,e _ _ h])
 .show .inr h
theorem jN(H:Hp):Wt (λ_=>P) H:=λ_ _ h=>by ext h
def ZL(O:bC)(K:CL)(H:Hp)(a:J)(xs:G V):Prop:=X4 K H a xs/\(O a->X4 K (λ_=>P) a xs)
def YO(O:bC)(K:CL)(H:Hp)(a:J)(xs:G V):Prop:=Yr K H a xs/\(O a->Yr K (λ_=>P) a xs)
section
variable{O Z:bC}{K:CL}{H Y:Hp}{a:UP}{X:bb V}
def ZL.ev(h:ZL O K H a X)(e:Ev O H Z Y):ZL Z K Y a X:=by
 let(h,k):=h;by_cases z:O a
 .show#[X4.same (jN Y) (k z),λ_=>k z]
 .rcases h with(h|⟨o,h⟩)|h
  .let(f,b):=e a _ h z;show#[.inl (.inl f),λy=>a7 y b]
  .let(f,b):=e a _ h z;show#[.inl (.inr #[o,f]),λy=>a7 y b]
  .show#[.inr h,λ_=>.inr h]
def YO.ev(h:YO O K H a X)(e:Ev O H Z Y):YO Z K Y a X:=by
 let(h,k):=h;by_cases z:O a
 .show#[(jN Y).tup (k z),λ_=>k z]
 .rcases h with(h|⟨o,h⟩)|h
  .let(f,b):=e a _ h z;show#[.inl (.inl f),λy=>a7 y b]
  .let(f,b):=e a _ h z;show#[.inl (.inr #[o,f]),λy=>a7 y b]
  .show#[.inr h,λ_=>.inr h]
end
mutual
inductive DV(O:bC)(K:CL)(H:Hp):V->D->Prop
 |W9:DV O K H .W9 .none
 |bl (b:Bool):DV O K H (.bl b) (.bool b)
 |int (i:Int):DV O K H (.int i) (.int i)
 |str (x:Str):DV O K H (.str x) (.str x)
 |tup {a:UP} {xs:bb V} {ds:bb D}:YO O K H a xs->Wo O K H xs ds->DV O K H (.ref a) (.tuple ds)
 |lst {a:UP} {xs:bb V} {ds:bb D}:ZL O K H a xs->Wo O K H xs ds->DV O K H (.ref a) (.list ds)
inductive Wo(O:bC)(K:CL)(H:Hp):bb V->bb D->Prop
 |nil:Wo O K H [] []
 |cons {v:V} {vs:bb V} {d:D} {ds:bb D}:DV O K H v d->Wo O K H vs ds->Wo O K H (v::vs) (d::ds)
end
section
variable{O Z:bC}{K:CL}{H H':Hp}
mutual
theorem DV.ev(e:Ev O H Z H'):∀{v:V} {d:D},DV O K H v d->DV Z K H' v d
 |_,_,.W9=>.W9
 |_,_,.bl b=>.bl b
 |_,_,.int i=>.int i
 |_,_,.str x=>.str x
 |_,_,.tup h hs=>.tup (h.ev e) (Wo.ev e hs)
 |_,_,.lst h hs=>.lst (h.ev e) (Wo.ev e hs)
theorem Wo.ev(e:Ev O H Z H'):∀{vs:bb V} {ds:bb D},Wo O K H vs ds->Wo Z K H' vs ds
 |_,_,.nil=>.nil
 |_,_,.cons h hs=>.cons (DV.ev e h) (Wo.ev e hs)
end
theorem Wo.length:∀{a:G V} {ds:G D},Wo O K H a ds->a.length=ds.length
 |_,_,.nil=>rfl
 |_,_,.cons _ t=>by rw[U4,U4,t.length]
theorem Wo.get:∀{c:G V} {ds:G D} {i:Nat} {d:D},Wo O K H c ds->ds[i]?=M d->∃v,c[i]?=M v/\DV O K H v d
 |_,_,_,_,.nil,e=>by simp at e
 |_,_,0,_,.cons h _,e=>by simp_all
 |_,_,i+1,d,.cons _ t,e=>by let(v,b,a):=Wo.get t (by simpa using e);simp_all
theorem Wo.adp:∀{c:G V} {ds:G D} {i:Nat} {v:V},Wo O K H c ds->c[i]?=M v->∃d,ds[i]?=M d/\DV O K H v d
 |_,_,_,_,.nil,e=>by simp at e
 |_,_,0,_,.cons h _,e=>by simp_all
 |_,_,i+1,v,.cons _ t,e=>by let(d,b,a):=Wo.adp t (by simpa using e);simp_all
theorem Wo.append:∀{a ws:G V} {ds es:G D},Wo O K H a ds->Wo O K H ws es->Wo O K H (a++ws) (ds++es)
 |_,_,_,_,.nil,h=>h
 |_,_,_,_,.cons h t,g=>.cons h (Wo.append t g)
theorem Wo.take:∀{a:G V} {ds:G D} (n:Nat),Wo O K H a ds->Wo O K H (a.take n) (ds.take n)
 |_,_,0,_=>.nil
 |_,_,_+1,.nil=>.nil
 |_,_,n+1,.cons h t=>.cons h (Wo.take n t)
theorem Wo.drop:∀{a:G V} {ds:G D} (n:Nat),Wo O K H a ds->Wo O K H (a.drop n) (ds.drop n)
 |_,_,0,h=>h
 |_,_,_+1,.nil=>.nil
 |_,_,n+1,.cons _ t=>Wo.drop n t
theorem Wo.flat(h:Wo O K H vs ds):∀n:Nat,Wo O K H (UW n vs).flatten (UW n ds).flatten
 |0=>.nil
 |n+1=>by rw[VQ,VQ,Ws,Ws];show h.append (Wo.flat h n)
mutual
theorem DV.plain:∀{v:V} {d:D},DV O K H v d->L2.DV K H v d
 |_,_,.W9=>.W9
 |_,_,.bl b=>.bl b
 |_,_,.int i=>.int i
 |_,_,.str x=>.str x
 |_,_,.tup h hs=>.tup h.1 (Wo.plain hs)
 |_,_,.lst h hs=>.lst h.1.sq (Wo.plain hs)
theorem Wo.plain:∀{vs:bb V} {ds:bb D},Wo O K H vs ds->L2.Wo K H vs ds
 |_,_,.nil=>.nil
 |_,_,.cons h hs=>.cons (DV.plain h) (Wo.plain hs)
end
end
def DX(O:bC)(K:CL)(H:Hp)(v:V):D->Prop
 |.list ds=>∃a xs,v=.ref a/\X4 K H a xs/\Wo O K H xs ds
 |d=>DV O K H v d
def DV.x(h:DV O K H v d):DX O K H v d:=by
 cases h with
 |lst h a=>show#[_,_,W,h.1,a]
 |W9=>show .W9
 |bl b=>show .bl b
 |int i=>show .int i
 |str x=>show .str x
 |tup h a=>show .tup h a
def DX.plain(h:DX O K H v d):L2.DV K H v d:=by
 cases d with
 |list ds=>let(a,xs,rfl,f,e):=h;show .lst f.sq e.plain
 |none=>show DV.plain h
 |bool b=>show DV.plain h
 |int i=>show DV.plain h
 |str x=>show DV.plain h
 |tuple ds=>show DV.plain h
 |dict g=>show DV.plain h
def aaw(K:CL)(b:Hp)(O:bC)(H:Hp)(v:V):PV->Prop
 |.fz d=>DV O K H v d
 |.ow ds=>∃a e,v=.ref a/\O a/\b a=P/\H a=M (.lst e)/\Wo O K H e ds
 |.pl _=>False
structure Rl(K:CL)(B:bC)(H0:Hp)(O:bC)(σ:St)(H:Hp)(ρ:aL):Prop where
 same:Wt H0 H
 bo:∀a,B a->O a
 bd:∀a,B a->H0 a≠P
 od:∀a,H a=P->¬O a
 len:σ.length=ρ.length
 slot:∀(i:Nat) (x:PV),ρ[i]?=M (M x)->∃v,σ[i]?=M (M v)/\aaw K H0 O H v x
 one:∀(i j:Nat) (ds es:G D) (v:V),ρ[i]?=M (M (.ow ds))->ρ[j]?=M (M (.ow es))->σ[i]?=M (M v)->σ[j]?=M (M v)->i=j
def YA(K:CL)(e:Hp)(O:bC)(b:St)(H:Hp)(c:aL)(v:V):PV->Prop
 |.fz d=>DV O K H v d
 |.ow ds=>∃a f,v=.ref a/\O a/\e a=P/\H a=M (.lst f)/\Wo O K H f ds/\∀(i:Nat) (es:G D),c[i]?=M (M (.ow es))->b[i]?≠M (M (.ref a))
 |.pl i=>b[i]?=M (M v)
def jP:PV->Prop
 |.ow _=>False
 |_=>True
def bp:PV->PV
 |.ow ds=>.fz (.list ds)
 |p=>p
section
variable{K:CL}{B O X:bC}{Z H H':Hp}{Y:St}{ρ ρ':aL}{v:V}
def aaw.grow(s:Wt H H')(h:aaw K Z O H v x):aaw K Z O H' v x:=by
 cases x with
 |fz d=>show DV.ev (Ev.grow s) h
 |ow ds=>let(a,l,e,j,g,f,b):=h;show#[a,l,e,j,g,s _ _ f,b.ev (Ev.grow s)]
 |pl i=>show h
theorem Rl.grow(R:Rl K B Z O Y H ρ)(s:Wt H H'):Rl K B Z O Y H' ρ:=
 #[R.same.trans s,R.bo,R.bd,λa h=>R.od a (s.free h),R.len,λi x h=>let#[v,h1,b]:=R.slot i x h;#[v,h1,b.grow s],R.one]
theorem Rl.adS(R:Rl K B Z O Y H ρ)(h:H p=P):Z p=P:=R.same.free h
def Rl.add(R:Rl K B Z O Y H ρ)(s:Wt H H')(f:H p=P)(g:H' p≠P):Rl K B Z (cx O p) Y H' ρ:=by
 show#[R.same.trans s,λa h=>.inl (R.bo a h),R.bd,λa h z=>z.elim (R.od a (s.free h)) λe=>g (by simp_all),R.len,λi x h=>?_,R.one];let(v,j,b):=R.slot i x h;show#[v,j,?_];cases x with
 |fz d=>show DV.ev (Ev.add s f) b
 |ow ds=>let(a,q,e,o,n,m,l):=b;show#[a,q,e,.inl o,n,s _ _ m,l.ev (Ev.add s f)]
 |pl i=>show b
theorem Rl.adx(R:Rl K B Z O Y H ρ)(h:Z a=P):¬B a:=λz=>R.bd a z h
def Rl.sub(R:Rl K B Z O Y H ρ){a:J}(m:Z a=P)(h:∀(i:Nat) (es:G D),ρ[i]?=M (M (.ow es))->Y[i]?≠M (M (.ref a))):Rl K B Z (Fg O a) Y H ρ:=by
 show#[R.same,λb f=>#[R.bo b f,λe=>R.adx m (e▸f)],R.bd,λb f z=>R.od b f z.1,R.len,λi x j=>?_,R.one];let(v,l,g):=R.slot i x j;show#[v,l,?_];cases x with
 |fz d=>show DV.ev (Ev.sub λb z=>z.1) g
 |ow ds=>let(b,r,e,q,p,o,n):=g;subst e;show#[b,r,W,#[q,λe=>h i ds j (by rw[l,e])],p,o,n.ev (Ev.sub λb z=>z.1)]
 |pl i=>show g
theorem uf(h:H a=M (.lst o))(n:¬O a)(hd:Wo O K H o ds):DV O K H (.ref a) (.list ds):=.lst #[X4.of h,λz=>a7 z n] hd
def fF{pv:PV}(R:Rl K B Z O Y H ρ)(h:YA K Z O Y H ρ v pv):∃X,Ev O H X H/\Rl K B Z X Y H ρ/\YA K Z X Y H ρ v (bp pv):=by
 cases pv with
 |fz d=>show#[O,.refl,R,h]
 |pl i=>show#[O,.refl,R,h]
 |ow ds=>let(a,m,rfl,l,j,g,f,e):=h;show#[Fg O a,Ev.sub λb z=>z.1,R.sub j e,uf g (λz=>z.2 W) (f.ev (Ev.sub λb z=>z.1))]
def jO(pv:PV):jP (bp pv):=by ext pv<;>trivial
def YA.keep{pv:PV}(a:jP pv)(e:Ev O H X H')(h:YA K Z O Y H ρ v pv):YA K Z X Y H' ρ' v pv:=by
 cases pv with
 |fz d=>show DV.ev e h
 |pl i=>show h
 |ow ds=>show a.elim
def Tm:I (I PV)->I D
 |some (M (.fz d))=>M d
 |some (M (.ow ds))=>M (.list ds)
 |_=>P
def qQ(ρ:aL):PV->I D
 |.fz d=>M d
 |.ow ds=>M (.list ds)
 |.pl i=>Tm ρ[i]?
def ji{pv:PV}(R:Rl K B Z O Y H ρ)(h:YA K Z O Y H ρ v pv)(e:qQ ρ pv=M d):DX O K H v d:=by
 cases pv with
 |fz p=>ext e;show DV.x h
 |ow ds=>ext e;let(a,y,rfl,w,t,m,l,r):=h;show#[a,y,W,X4.of m,l]
 |pl i=>
  let b:Tm ρ[i]?=M d:=e;let n:=h;cases q:ρ[i]? with
  |none=>rw[q]at b;ext b
  |some o=>
   cases o with
   |none=>rw[q]at b;ext b
   |some x=>
    let(u,g,f):=R.slot i x q;rw[n]at g;ext g;rw[q]at b;cases x with
    |fz p=>ext b;show DV.x f
    |ow ds=>ext b;let(a,y,rfl,k1,k2,k3,k4):=f;show#[a,y,W,X4.of k3,k4]
    |pl j=>show f.elim
def toS(ρ:aL)(i:Nat):I (I PV)->I (D×aL)
 |some (M (.fz d))=>M (d,ρ)
 |some (M (.ow ds))=>M (.list ds,ρ.set i (M (.fz (.list ds))))
 |_=>P
def uN(ρ:aL):PV->I (D×aL)
 |.fz d=>M (d,ρ)
 |.ow ds=>M (.list ds,ρ)
 |.pl i=>toS ρ i ρ[i]?
def bS{l:G α}(h:(l.set i x)[j]?=M y):(j=i/\y=x)\/(j≠i/\l[j]?=M y):=by
 rw[VZ]at h;by_cases e:i=j
 .rw[ax e]at h
  split at h
  .ext h;show .inl #[e.symm,W]
  .ext h
 .rw[a3 e]at h;show .inr #[λz=>e z.symm,h]
def qX{pv:PV}(R:Rl K B Z O Y H ρ)(h:YA K Z O Y H ρ v pv)(e:uN ρ pv=cL (d,ρ')):∃X,Ev O H X H/\Rl K B Z X Y H ρ'/\DV X K H v d:=by
 cases pv with
 |fz T=>ext e;show#[O,.refl,R,h]
 |ow ds=>ext e;let(a,vs,rfl,h1,S,Q,P,N):=h;show#[Fg O a,Ev.sub λb z=>z.1,R.sub S N,uf Q (λz=>z.2 W) (P.ev (Ev.sub λb z=>z.1))]
 |pl i=>
  let f:toS ρ i ρ[i]?=cL (d,ρ'):=e;let t:=h;cases q:ρ[i]? with
  |none=>rw[q]at f;ext f
  |some o=>
   cases o with
   |none=>rw[q]at f;ext f
   |some x=>
    let(u,C,y):=R.slot i x q;rw[t]at C;ext C;rw[q]at f;cases x with
    |fz T=>ext f;show#[O,.refl,R,y]
    |pl j=>show y.elim
    |ow ds=>
     ext f;let(a,vs,rfl,k1,k2,k3,k4):=y;let es:Ev O H (Fg O a) H:=Ev.sub λb z=>z.1;let E:=uf k3 (λz=>z.2 W) (k4.ev es);show#[Fg O a,es,#[R.same,λb m=>#[R.bo b m,λe=>R.adx k2 (e▸m)],R.bd,λb m z=>R.od b m z.1,by rw[V5];show R.len,λj x l=>?_,λj k xs F w r p=>?_],E]
     .rcases bS l with⟨rfl,g⟩|⟨U,l⟩
      .ext g;show#[_,t,E]
      .let(u,A,n):=R.slot j x l
       show#[u,A,?_];cases x with
       |fz d=>show DV.ev es n
       |pl i=>show n
       |ow xs=>let(b,G,rfl,M,L,J,I):=n;show#[b,G,W,#[M,λz=>U (R.one j i xs ds (.ref a) l q (by rw[A,z]) t)],L,J,I.ev es]
     .rcases bS r with⟨rfl,g⟩|⟨_,r⟩
      .ext g
      .rcases bS p with⟨rfl,g⟩|⟨_,p⟩
       .ext g
       .show R.one j k xs F w r p
end
def XOk(K:CL)(B:bC)(H:Hp)(c:U)(b:I J)(x:Xc):Prop:=
 (∃a,c=.ref a/\Vj K U9 x.cls=M (M (.ref a)))/\∃fs,(∀p,b=M p->H p=M (.xd fs))/\∀f d,x.fs.lookup f=M d->b≠P/\∃v,fs.lookup f=M v/\DV B K H v d
def XE(K:CL)(B:bC)(a:Hp)(E:XK)(x:Xc):Prop:=∀c b H',Wt a H'->XOk K B H' c b x->E c b H'
def WR(K:CL)(E:XK)(B:bC)(b:Hp)(P:α->Prop):Res α->Prop
 |.ok a=>P a
 |.er x=>XE K B b E x
 |.bad=>False
section
variable{K:CL}{E:XK}{B:bC}{Z:Hp}
def WR.bind(h:WR K E B Z b (r.bind k)):WR K E B Z (λa=>WR K E B Z b (k a)) r:=by ext r<;>show h
def WR.VO(h:WR K E B Z b ((Res.VO o).bind k)):∃a,o=M a/\WR K E B Z b (k a):=by
 cases o with
 |none=>show h.elim
 |some a=>show#[a,W,h]
def WR.imp(h:WR K E B Z b r)(g:∀a,b a->P' a):WR K E B Z P' r:=by
 cases r with
 |ok a=>show g a h
 |er x=>show h
 |bad=>show h
end
abbrev FE:=aL->Res (PV×aL)
abbrev FT:=aL->Res (Bool×aL)
abbrev FA:=aL->Res (G PV×aL)
def EO(K:CL)(E:XK)(t:TE)(f:FE):Prop:=
 ∀(B:bC) (b:Hp) (O:bC) (a:St) (H:Hp) (g:aL) (Q:VK),Rl K B b O a H g->WR K E B b (λr=>∀e v H',Ev O H e H'->Rl K B b e a H' r.2->YA K b e a H' r.2 v r.1->Q v H') (f g)->t a H Q
def TTO(K:CL)(E:XK)(t:TT)(f:FT):Prop:=
 ∀(B:bC) (b:Hp) (O:bC) (a:St) (H:Hp) (e:aL) (Q:Bool->Hp->Prop),Rl K B b O a H e->WR K E B b (λr=>∀g H',Ev O H g H'->Rl K B b g a H' r.2->Q r.1 H') (f e)->t a H Q
def AO(K:CL)(E:XK)(t:TA)(f:FA):Prop:=
 ∀(B:bC) (b:Hp) (O:bC) (a:St) (H:Hp) (g:aL) (Q:G V->Hp->Prop),Rl K B b O a H g->WR K E B b (λr=>∀e h H',Ev O H e H'->Rl K B b e a H' r.2->Paired (λv pv=>YA K b e a H' r.2 v pv/\jP pv) h r.1->Q h H') (f g)->t a H Q
inductive RV where
 |fz (d:D)
 |ow (ds:G D)
def RV.pv:RV->PV
 |.fz d=>.fz d
 |.ow ds=>.ow ds
def Fin(O:bC)(K:CL)(H:Hp)(Q:VK):RV->Prop
 |.fz d=>∀v H',Wt H H'->DV O K H' v d->Q v H'
 |.ow ds=>∀p a H',Wt H H'->H p=P->H' p=M (.lst a)->Wo (cx O p) K H' a ds->Q (.ref p) H'
def kQ(O:bC)(H:Hp):Prop:=∀a,H a=P->¬O a
section
variable{K:CL}{E:XK}{B O X:bC}{Y H H':Hp}{Z:St}{ρ ρ':aL}{v:V}
def jy(R:Rl K B Y O Z H ρ)(h:∀X v H',Ev O H X H'->Rl K B Y X Z H' ρ->YA K Y X Z H' ρ v C.pv->Q v H'):Fin O K H Q C:=by
 cases C with
 |fz d=>show λv H' s f=>h O v H' (Ev.grow s) (R.grow s) f
 |ow ds=>intro p q H' s b e f;show h (cx O p) (.ref p) H' (Ev.add s b) (R.add s b (by rw[e];simp)) #[p,q,W,.inr W,R.adS b,e,f,λi es r z=>?_];let(u,g,a,l,e2,o,n,j,m):=R.slot i _ r;rw[z]at g;ext g;ext e2;rw[b]at j;ext j
theorem Fin.new(hd:Wo O K H vs ds)(h:Fin O K H Q (.ow ds)):∀p,H p=P->Q (.ref p) (aW H p (.lst vs)):=λp a=>
 h p vs _ (bJ a _) a aC (hd.ev (Ev.add (bJ a _) a))
theorem Fin.acE(hd:Wo O K H vs ds)(b:kQ O H)(h:Fin O K H Q (.fz (.tuple ds))):∀p,H p=P->Q (.ref p) (aW H p (.tup vs)):=λp a=>
 h (.ref p) _ (bJ a _) (.tup #[Yr.of aC,λz=>a7 z (b p a)] (hd.ev (Ev.grow (bJ a _))))
theorem Fin.at(h:Fin O K H Q (.fz d))(a:DV O K H v d):Q v H:=h v H (Wt.refl H) a
def zK(ρ:aL)(i:Nat):I (I PV)->Res (PV×aL)
 |some (M (.fz d))=>.ok (.fz d,ρ)
 |some (M (.ow _))=>.ok (.pl i,ρ)
 |_=>.bad
def aa(i:Nat):FE:=λρ=>zK ρ i ρ[i]?
def LZ:EO K E (qB i) (aa i):=by
 intro B Y O Z H ρ Q R w;unfold aa at w;cases q:ρ[i]? with
 |none=>rw[q]at w;show w.elim
 |some o=>
  cases o with
  |none=>rw[q]at w;show w.elim
  |some x=>
   rw[q]at w;let(v,a,b):=R.slot i x q;cases x with
   |fz d=>show#[v,a,w O v H .refl R b]
   |ow ds=>show#[v,a,w O v H .refl R a]
   |pl j=>show w.elim
def pC(d:D):FE:=λρ=>.ok (.fz d,ρ)
theorem C1(h:∀O H,DV O K H v d):EO K E (tC v) (pC d):=λB Y O Z H ρ Q R w=>w O v H .refl R (h O H)
theorem Pg:EO K E (tC (.int i)) (pC (.int i)):=C1 λ_ _=>.int i
theorem QV:EO K E (tC (.bl b)) (pC (.bool b)):=C1 λ_ _=>.bl b
theorem Nk:EO K E (tC (.str x)) (pC (.str x)):=C1 λ_ _=>.str x
theorem Pz:EO K E (tC .W9) (pC .none):=C1 λ_ _=>.W9
def iA(K:CL)(r:R2)(f:D->D->I RV):Prop:=∀(O:bC) (H:Hp) (x y:V) (e a:D) (b:RV) (Q:VK),kQ O H->DX O K H x e->DX O K H y a->f e a=M b->Fin O K H Q b->r x y H Q
def ay(f:D->D->I RV)(c fb:FE):FE:=λρ=>(c ρ).bind λa=>(fb a.2).bind λb=>(Res.VO (qQ b.2 (bp a.1))).bind λh=>(Res.VO (qQ b.2 b.1)).bind λe=>(Res.VO (f h e)).bind λg=>.ok (g.pv,b.2)
def Lk(t:iA K r f)(c:EO K E ta fa)(u:EO K E tb fb):EO K E (Gk r ta tb) (ay f fa fb):=by intro B Y O Z H ρ Q R w;show c B Y O Z H ρ _ R (w.bind.imp λa i P x N e1 F q=>?_);let(J,e2,R2,p):=fF F q;show u B Y J Z N a.2 _ R2 (i.bind.imp λb e I y M e3 g o=>?_);let h:=p.keep (jO a.1) e3 (ρ':=b.2);let(dx,l,e):=e.VO;let(A,j,e):=e.VO;let(T,m,e):=e.VO;show t I M x y dx A T Q g.od (ji g h l) (ji g o j) m (jy g λG v L e4 C n=>?_);show e G v L (e1.trans (e2.trans (e3.trans e4))) C n
def SJ:D->I Bool
 |.bool b=>M b
 |_=>P
def OS(h:DX O K H x d)(e:SJ d=M b):x=.bl b:=by ext d<;>ext e;ext h;rfl
def az(c:FE):aL->Res (Bool×aL):=λρ=>(c ρ).bind λa=>(Res.VO (qQ a.2 a.1)).bind λd=>(Res.VO (SJ d)).bind λb=>.ok (b,a.2)
def lw(c:EO K E o C):TTO K E (rN o) (az C):=by intro B Y O Z H ρ Q R w;show c B Y O Z H ρ _ R (w.bind.imp λa e j x l e1 f i=>?_);let(d,g,e):=e.VO;let(b,h,e):=e.VO;show#[b,OS (ji f i g) h,e j l e1 f]
theorem RM(a:EO K E o C):TTO K E (tB o) (az C):=lw a
def i9(b fb:FT):FT:=λρ=>(b ρ).bind λa=>if a.1=S then fb a.2 else .ok (R,a.2)
def xn(b:FT):FT:=λρ=>(b ρ).bind λa=>.ok (!a.1,a.2)
theorem TTO.next(h:TTO K E t f)(R:Rl K B Y O1 Z H1 ρ)(e1:Ev O H O1 H1)(w:WR K E B Y (λr=>∀X H',Ev O H X H'->Rl K B Y X Z H' r.2->Q r.1 H') (f ρ)):t Z H1 Q:=
 h B Y O1 Z H1 ρ Q R (w.imp λr q X H' a b=>q X H' (e1.trans a) b)
theorem EO.next(h:EO K E t f)(R:Rl K B Y O1 Z H1 ρ)(e1:Ev O H O1 H1)(w:WR K E B Y (λr=>∀X v H',Ev O H X H'->Rl K B Y X Z H' r.2->YA K Y X Z H' r.2 v r.1->Q v H') (f ρ)):t Z H1 Q:=
 h B Y O1 Z H1 ρ Q R (w.imp λr q X v H' b e a=>q X v H' (e1.trans b) e a)
def Ji(l:TTO K E t f)(j:TTO K E u g):TTO K E (M4 t u) (i9 f g):=by
 intro B Y O Z H ρ Q R w;show l B Y O Z H ρ _ R (w.bind.imp λa e m n e1 h=>?_);let(b,i):=a;cases b with
 |true=>show j.next h e1 e
 |false=>show e m n e1 h
def GB(e:TTO K E t f):TTO K E (GC t) (xn f):=by intro B Y O Z H ρ Q R w;show e B Y O Z H ρ _ R (w.bind.imp λa b h i e1 g=>b h i e1 g)
def dW:FT:=λρ=>.ok (S,ρ)
theorem Ez:TTO K E D3 dW:=λB Y O Z H ρ Q R w=>w O H .refl R
def AQ(b fb:FE):FE:=λρ=>(az b ρ).bind λa=>if a.1=S then fb a.2 else .ok (.fz (.bool R),a.2)
def NB(d:EO K E C fa)(i:EO K E o fb):EO K E (DG C o) (AQ fa fb):=by
 intro B Y O Z H ρ Q R w;show lw d B Y O Z H ρ (λc e=>if c=S then o Z e Q else Q (.bl UL) e) R (w.bind.imp λa f j e e1 g=>?_);let(b,h):=a;cases b with
 |true=>show i.next g e1 f
 |false=>show f j _ e e1 g (.bl UL)
def LJ(c:FT)(b fb:FE):FE:=λρ=>(c ρ).bind λa=>if a.1=S then b a.2 else fb a.2
def QC(h:TTO K E t c)(d:EO K E C fa)(i:EO K E o fb):EO K E (P6 t C o) (LJ c fa fb):=by
 intro B Y O Z H ρ Q R w;show h B Y O Z H ρ _ R (w.bind.imp λa e j l e1 f=>?_);let(b,g):=a;cases b with
 |true=>show d.next f e1 e
 |false=>show i.next f e1 e
def kF(f g:D->D->I RV)(k fb d:FE):FE:=λρ=>(k ρ).bind λa=>(fb a.2).bind λb=>(Res.VO (qQ b.2 (bp a.1))).bind λl=>(Res.VO (qQ b.2 (bp b.1))).bind λi=>
 (Res.VO (f l i)).bind λj=>match j with
  |.fz (.bool S)=>(d b.2).bind λc=>(Res.VO (qQ c.2 (bp b.1))).bind λe=>(Res.VO (qQ c.2 c.1)).bind λh=>(Res.VO (g e h)).bind λj=>.ok (j.pv,c.2)
  |.fz (.bool R)=>.ok (.fz (.bool R),b.2)
  |_=>.bad
def FY(D:iA K r f)(p:iA K r' g)(ha:EO K E ta fa)(hb:EO K E tb fb)(hc:EO K E tc fc):EO K E (wB r r' ta tb tc) (kF f g fa fb fc):=by
 intro B Y O Z H ρ Q R w;show ha B Y O Z H ρ _ R (w.bind.imp λa G O1 x H1 e1 R1 U=>?_);let(O2,e2,R2,T):=fF R1 U;show hb B Y O2 Z H1 a.2 _ R2 (G.bind.imp λb e O3' y F q u n=>?_);let(i,e3,l,A):=fF u n;let e3:=q.trans e3;let o:=T.keep (jO a.1) e3 (ρ':=b.2);let(dx,L,e):=e.VO;let(dy,J,e):=e.VO;let(rv,N,e):=e.VO;show D i F x y dx dy rv _ l.od (ji l o L) (ji l A J) N ?_;cases rv with
 |ow ds=>show e.elim
 |fz d=>
  intro v H' s dv;cases dv with
  |bl k=>
   show#[k,W,?_];let C:=l.grow s;let e4:Ev i F i H':=Ev.grow s;cases k with
   |false=>show e i _ H' (e1.trans (e2.trans (e3.trans e4))) C (.bl UL)
   |true=>rw[ax W];show hc B Y i Z H' b.2 _ C (WR.imp (WR.bind e) λc h O5 z H5 e5 j S=>?_);let(t,m,h):=h.VO;let(dz,I,h):=h.VO;let(rv,M,h):=h.VO;show p O5 H5 y z t dz rv Q j.od (ji j (A.keep (jO b.1) (e4.trans e5)) m) (ji j S I) M (jy j λO6 v H6 e6 R6 P=>?_);show h O6 v H6 (e1.trans (e2.trans (e3.trans (e4.trans (e5.trans e6))))) R6 P
  |_=>show e.elim
def am:FA:=λρ=>.ok ([],ρ)
def ae(c:FE)(e:FA):FA:=λρ=>(c ρ).bind λa=>(e a.2).bind λb=>.ok (bp a.1::b.1,b.2)
theorem MF:AO K E jU am:=λB Y O Z H ρ Q R w=>w O [] H .refl R .nil
def Jv(c:EO K E C fa)(l:AO K E tr fr):AO K E (im C tr) (ae fa fr):=by intro B Y O Z H ρ Q R w;show c B Y O Z H ρ _ R (w.bind.imp λa g t x r e1 n j=>?_);let(p,e2,R2,i):=fF n j;show l B Y p Z r a.2 _ R2 (g.bind.imp λb f o e q e3 m h=>?_);show f o (x::e) q (e1.trans (e2.trans e3)) m (.cons #[i.keep (jO a.1) e3,jO a.1] h)
def qL(ρ:aL):G PV->I (G D)
 |[]=>M []
 |p::r=>match qQ ρ p with
  |some d=>(match qL ρ r with
   |some ds=>M (d::ds)
   |none=>P)
  |none=>P
theorem tH(R:Rl K B Y O Z H ρ):∀{f:G V} {c:G PV} {ds:G D},Paired (λv pv=>YA K Y O Z H ρ v pv/\jP pv) f c->qL ρ c=M ds->Paired (DX O K H) f ds
 |_,_,_,.nil,e=>by ext e;show .nil
 |_,_,_,.cons (l₂:=c) (b:=p) h t,e=>by
  unfold qL at e;cases q:qQ ρ p with
  |none=>simp_all
  |some d=>
   rw[q]at e;dsimp only at e;cases g:qL ρ c with
   |none=>simp_all
   |some a=>rw[g]at e;ext e;show .cons (ji R h.1 q) (tH R t g)
def nk(ρ:aL):G PV->I (G D×aL)
 |[]=>M ([],ρ)
 |p::r=>match uN ρ p with
  |some (d,b)=>(match nk b r with
   |some (ds,a)=>M (d::ds,a)
   |none=>P)
  |none=>P
theorem pG:∀{k:G V} {c:G PV} {ds:G D} {O:bC} {ρ ρ':aL},Rl K B Y O Z H ρ->Paired (λv pv=>YA K Y O Z H ρ v pv/\jP pv) k c->nk ρ c=M (ds,ρ')->∃X,Ev O H X H/\Rl K B Y X Z H ρ'/\Wo X K H k ds
 |_,_,_,O,_,_,A,.nil,e=>by ext e;show#[O,.refl,A,.nil]
 |_,_,_,O,ρ,ρ',A,.cons (l₁:=k) (l₂:=c) (b:=p) h t,e=>by
  unfold nk at e;cases q:uN ρ p with
  |none=>simp_all
  |some r=>
   let(d,a):=r;rw[q]at e;dsimp only at e;cases C:nk a c with
   |none=>simp_all
   |some j=>let(m,g):=j;rw[C]at e;ext e;let(y,e1,u,o):=qX A h.1 q;let i:Paired (λv pv=>YA K Y y Z H a v pv/\jP pv) k c:=Paired.Yb t λv pv #[l,f]=>#[l.keep f e1,f];let(w,e2,R2,n):=pG u i C;show#[w,e1.trans e2,R2,.cons (o.ev e2) n]
abbrev FN:=G D->Res RV
def AL(K:CL)(n:Nat)(F:FN):Sp:=λb H Q E=>b.length=n/\∃(B:bC) (ds:G D),(∀a,B a->H a≠P)/\Wo B K H b ds/\WR K E B H (Fin B K H Q) (F ds)
def aU(c:FA):FE:=λρ=>(c ρ).bind λa=>(Res.VO (nk a.2 a.1)).bind λb=>if b.1.length<=1000 then .ok (.fz (.tuple b.1),b.2)else .bad
def cU(c:FA):FE:=λρ=>(c ρ).bind λa=>(Res.VO (nk a.2 a.1)).bind λb=>if b.1.length<=1000 then .ok (.ow b.1,b.2)else .bad
theorem wE(h:n<=1000):n<=UY:=Vv h ()
def M6(c:AO K E C fa):EO K E (GM C) (aU fa):=by
 intro B Y O Z H ρ Q R w;show c B Y O Z H ρ _ R (w.bind.imp λa g p t r e1 l i=>?_);let((ds,f),q,b):=g.VO;let(o,e2,R2,e):=pG l i q;dsimp only at b;by_cases hn:ds.length<=1000
 .rw[ax hn]at b;show#[by rw[e.length];show wE hn,Fin.acE e R2.od (jy R2 λm v n e3 j h=>b m v n (e1.trans (e2.trans e3)) j h)]
 .rw[a3 hn]at b;show b.elim
def Ma(c:AO K E C fa):EO K E (O8 C) (cU fa):=by
 intro B Y O Z H ρ Q R w;show c B Y O Z H ρ _ R (w.bind.imp λa g p t r e1 l i=>?_);let((ds,f),q,b):=g.VO;let(o,e2,R2,e):=pG l i q;dsimp only at b;by_cases hn:ds.length<=1000
 .rw[ax hn]at b;show#[by rw[e.length];show wE hn,Fin.new e (jy R2 λm v n e3 j h=>b m v n (e1.trans (e2.trans e3)) j h)]
 .rw[a3 hn]at b;show b.elim
def zX(K:CL)(r:G V->Hp->VK->Prop)(f:G D->I RV):Prop:=∀(O:bC) (H:Hp) (xs:G V) (ds:G D) (a:RV) (Q:VK),kQ O H->Paired (DX O K H) xs ds->f ds=M a->Fin O K H Q a->r xs H Q
def fw(f:G D->I RV)(c:FA):FE:=λρ=>(c ρ).bind λa=>(Res.VO (qL a.2 a.1)).bind λds=>(Res.VO (f ds)).bind λb=>.ok (b.pv,a.2)
def Ln(l:zX K r f)(c:AO K E C fa):EO K E (Fu r C) (fw f fa):=by intro B Y O Z H ρ Q R w;show c B Y O Z H ρ _ R (w.bind.imp λa g o u t e1 e j=>?_);let(ds,q,b):=g.VO;let(y,h,b):=b.VO;show l o t u ds y Q e.od (tH e j q) h (jy e λn v p e4 m i=>b n v p (e1.trans e4) m i)
def Tf:D->I Int
 |.int i=>M i
 |_=>P
def MZ(h:DX O K H x d)(e:Tf d=M i):x=.int i:=by ext d<;>ext e;ext h;rfl
abbrev FO:=aL->Res (I Int×aL)
def Sd(K:CL)(E:XK)(t:TO)(f:FO):Prop:=
 ∀(B:bC) (Y:Hp) (O:bC) (Z:St) (H:Hp) (ρ:aL) (Q:I Int->Hp->Prop),Rl K B Y O Z H ρ->WR K E B Y (λr=>∀X H',Ev O H X H'->Rl K B Y X Z H' r.2->Q r.1 H') (f ρ)->t Z H Q
def vx:FO:=λρ=>.ok (P,ρ)
def jY(b:FE):FO:=λρ=>(b ρ).bind λa=>(Res.VO (qQ a.2 a.1)).bind λd=>(Res.VO (Tf d)).bind λi=>.ok (M i,a.2)
theorem Fb:Sd K E yf vx:=λB Y O Z H ρ Q R w=>w O H .refl R
def Gb(c:EO K E o C):Sd K E (KC o) (jY C):=by intro B Y O Z H ρ Q R w;show c B Y O Z H ρ _ R (w.bind.imp λa f j x l e1 e h=>?_);let(d,q,b):=f.VO;let(i,g,b):=b.VO;show#[i,MZ (ji e h q) g,b j l e1 e]
def Q4(K:CL)(r:V->I Int->I Int->Hp->VK->Prop)(f:D->I Int->I Int->I RV):Prop:=∀(O:bC) (H:Hp) (x:V) (lo b:I Int) (e:D) (a:RV) (Q:VK),kQ O H->DX O K H x e->f e lo b=M a->Fin O K H Q a->r x lo b H Q
def KP(f:D->I Int->I Int->I RV)(c:FE)(b e:FO):FE:=λρ=>(c ρ).bind λa=>(b a.2).bind λl=>(e l.2).bind λh=>(Res.VO (qQ h.2 (bp a.1))).bind λi=>(Res.VO (f i l.1 h.1)).bind λg=>.ok (g.pv,h.2)
def QD(q:Q4 K r f)(c:EO K E ta fa)(t:Sd K E tl fl)(u:Sd K E th fh):EO K E (Tw r ta tl th) (KP f fa fl fh):=by intro B Y O Z H ρ Q R w;show c B Y O Z H ρ _ R (w.bind.imp λa i S x P e1 C p=>?_);let(J,e2,R2,o):=fF C p;show t B Y J Z P a.2 _ R2 (i.bind.imp λl g I N e3 A=>?_);show u B Y I Z N l.2 _ A (g.bind.imp λh b G M e4 e=>?_);let(dx,j,b):=b.VO;let(T,m,b):=b.VO;show q G M x l.1 h.1 dx T Q e.od (ji e (o.keep (jO a.1) (e3.trans e4)) j) m (jy e λF v L e5 y n=>b F v L (e1.trans (e2.trans (e3.trans (e4.trans e5)))) y n)
end
def se{l:G α}(h:(l.set i x)[i]?=M y):i<l.length:=by
 rw[VZ]at h;rw[ax W]at h;split at h
 .assumption
 .ext h
section
variable{K:CL}{E:XK}{B O U:bC}{Z H H':Hp}{Y:St}{ρ ρ':aL}{v:V}
def Rl.mut{i:Nat}{ds g:bb D}{a:UP}{f:bb V}(R:Rl K B Z O Y H ρ)(c:ρ[i]?=cL (cL (.ow ds)))(I:Y[i]?=cL (cL (.ref a)))(J:O a)(L:Z a=lD)(hd:Wo O K H f g):
  Rl K B Z O Y (aW H a (.lst f)) (ρ.set i (cL (.ow g))):=by
 let ev:Ev O H O (aW H a (.lst f)):=Ev.mut J _;show#[λb o e=>by rw[au (bB e L)];show R.same b o e,R.bo,R.bd,λb m=>?_,by rw[V5];show R.len,λj x l=>?_,λj k xs F w X T y r=>?_]
 .by_cases e:b=a
  .rw[e,aC]at m;ext m
  .rw[au e]at m;show R.od b m
 .rcases bS l with⟨rfl,ee⟩|⟨YR,l⟩
  .ext ee;show#[_,I,a,f,W,J,L,aC,hd.ev ev]
  .let(u,G,q):=R.slot j x l
   show#[u,G,?_];cases x with
   |fz d=>show DV.ev ev q
   |pl i=>show q
   |ow xs=>let(b,M,rfl,S,Q,P,N):=q;let C:b≠a:=λz=>YR (R.one j i xs ds (.ref a) l c (by rw[G,z]) I);show#[b,M,W,S,Q,by rw[au C];show P,N.ev ev]
 .let own:∀{j:Nat} {xs:bb D},(ρ.set i (cL (.ow g)))[j]?=cL (cL (.ow xs))->∃F,ρ[j]?=cL (cL (.ow F)):=λ{j xs} h=>by
   rcases bS h with⟨rfl,_⟩|⟨_,h⟩
   .show#[_,c]
   .show#[_,h]
  let(p,A):=own X;let(n,t):=own T;show R.one j k p n w A t y r
theorem rF(h:n<1000000):n<UY:=Vf h ()
def EU:I (I PV)->I (G D)
 |some (M (.ow ds))=>M ds
 |_=>P
def zy(h:EU o=M ds):o=M (M (.ow ds)):=by
 unfold EU at h;split at h
 .ext h;rfl
 .ext h
def qI(i:Nat)(c:FE):FE:=λρ=>(Res.VO (EU ρ[i]?)).bind λ_=>(c ρ).bind λa=>(Res.VO (uN a.2 a.1)).bind λb=>(Res.VO (EU b.2[i]?)).bind λds=>
 if ds.length<1000000 then .ok (.fz .none,b.2.set i (M (.ow (ds++[b.1]))))else .bad
def Pr(p:EO K E te fe):EO K E (P4 K "list" sE (qB i) (im te jU)) (qI i fe):=by
 intro B Z O Y H ρ Q R w;let(u,n,w):=w.VO;let(v,j,a,T,rfl,J,I,q,G):=R.slot i _ (zy n);show#[_,j,.inl #[W,_,Yk.of q],?_];show p B Z O Y H ρ _ R (w.bind.imp λb e M y N e1 A o=>?_);let((d,l),m,e):=e.VO;let(C,e2,R2,t):=qX A o m;let(ds,f,e):=e.VO;let f:=zy f;let(F,k1,L,g,r,k2,k3,k4,k5):=R2.slot i _ f;subst r;rw[j]at k1;ext k1;dsimp only at e;by_cases h:ds.length<1000000
 .rw[ax h]at e;show#[a,g,y,W,W,k4,rF (by rw[k5.length];show h),?_];show e C .W9 _ (e1.trans (e2.trans (Ev.mut k2 _))) (R2.mut f j k2 k3 (k5.append (.cons t .nil))) .W9
 .rw[a3 h]at e;show e.elim
abbrev FG:=PV->aL->Res aL
abbrev PX:=G D->aL->Res aL
def GO(K:CL)(E:XK)(g:TG)(f:FG):Prop:=
 ∀(B:bC) (Z:Hp) (O:bC) (Y:St) (H:Hp) (ρ:aL) (v:V) (pv:PV) (Q:St->Hp->Prop),Rl K B Z O Y H ρ->YA K Z O Y H ρ v pv->WR K E B Z (λρ'=>∀U a H',Ev O H U H'->Rl K B Z U a H' ρ'->Q a H') (f pv ρ)->g v Y H Q
def Ro(K:CL)(E:XK)(g:wy)(f:PX):Prop:=
 ∀(B:bC) (Z:Hp) (O:bC) (Y:St) (H:Hp) (ρ:aL) (b:G V) (ds:G D) (Q:St->Hp->Prop),Rl K B Z O Y H ρ->Wo O K H b ds->WR K E B Z (λρ'=>∀U a H',Ev O H U H'->Rl K B Z U a H' ρ'->Q a H') (f ds ρ)->g b Y H Q
def Rl.afP(R:Rl K B Z O Y H ρ)(h:DV O K H v d):Rl K B Z O (Y.set i (M v)) H (ρ.set i (M (.fz d))):=by
 show#[R.same,R.bo,R.bd,R.od,by rw[V5,V5];show R.len,λj x f=>?_,λj k xs n w l g b a=>?_]
 .rcases bS f with⟨rfl,e⟩|⟨t,f⟩
  .ext e;let:=se f;show#[v,by rw[VZ,ax W,ax (by rw[R.len];show this)],h]
  .let(u,r,q):=R.slot j x f;show#[u,by rw[VZ,a3 (λz=>t z.symm)];show r,q]
 .rcases bS l with⟨rfl,m⟩|⟨p,l⟩
  .ext m
  .rcases bS g with⟨rfl,m⟩|⟨o,g⟩
   .ext m
   .rw[VZ,a3 (λz=>p z.symm)]at b;rw[VZ,a3 (λz=>o z.symm)]at a;show R.one j k xs n w l g b a
def Rl.aii(R:Rl K B Z O Y H ρ)(h:YA K Z O Y H ρ v (.ow ds)):Rl K B Z O (Y.set i (cL v)) H (ρ.set i (cL (.ow ds))):=by
 let(a,N,rfl,I,G,F,C,p):=h;show#[R.same,R.bo,R.bd,R.od,by rw[V5,V5];show R.len,λj x m=>?_,λj k xs o w A l f b=>?_]
 .rcases bS m with⟨rfl,e⟩|⟨M,m⟩
  .ext e;let:=se m;show#[.ref a,by rw[VZ,ax W,ax (by rw[R.len];show this)],a,N,W,I,G,F,C]
  .let(u,t,r):=R.slot j x m;show#[u,by rw[VZ,a3 (λz=>M z.symm)];show t,r]
 .rcases bS A with⟨rfl,L⟩|⟨q,g⟩
  .rcases bS l with⟨rfl,J⟩|⟨n,l⟩
   .rfl
   .rw[VZ,a3 (λz=>n z.symm)]at b
    rcases bS f with⟨_,e⟩|⟨z,_⟩
    .ext e;show a7 b (p k o l)
    .show a7 W z
  .let y:=g
   rw[VZ,a3 (λz=>q z.symm)]at f;rcases bS l with⟨rfl,L⟩|⟨n,l⟩
   .rcases bS b with⟨_,e⟩|⟨z,_⟩
    .ext e;show a7 f (p j xs g)
    .show a7 W z
   .rw[VZ,a3 (λz=>n z.symm)]at b;show R.one j k xs o w g l f b
def gN(i:Nat):FG:=λpv ρ=>match pv with
 |.ow ds=>.ok (ρ.set i (M (.ow ds)))
 |.fz d=>.ok (ρ.set i (M (.fz d)))
 |.pl j=>(Res.VO (uN ρ (.pl j))).bind λb=>.ok (b.2.set i (M (.fz b.1)))
def sr:GO K E (mx i) (gN i):=by
 intro B Z O Y H ρ v pv Q R p w;cases pv with
 |ow ds=>show w O _ H .refl (R.aii p)
 |fz d=>show w O _ H .refl (R.afP p)
 |pl j=>let((d,a),q,w):=WR.VO (show WR K E B Z _ ((Res.VO (uN ρ (.pl j))).bind λb=>.ok (b.2.set i (M (.fz b.1))))from w);let(f,e2,R2,e):=qX R p q;show w f _ H e2 (R2.afP e)
def K8:PX:=λds ρ=>match ds with
 |[]=>.ok ρ
 |_=>.bad
def Bg(f:FG)(g:PX):PX:=λds ρ=>match ds with
 |[]=>.bad
 |d::r=>(f (.fz d) ρ).bind λa=>g r a
def No:Ro K E Kf K8:=by
 intro B Z O Y H ρ b ds Q R a w;cases a with
 |nil=>show#[W,w O Y H .refl R]
 |cons _ _=>show w.elim
def GK(n:GO K E t f)(m:Ro K E u g):Ro K E (zC t u) (Bg f g):=by
 intro B Z O Y H ρ L ds Q R o w;cases o with
 |nil=>show w.elim
 |cons l j=>rename_i v L d ds;show#[_,_,W,n B Z O Y H ρ _ (.fz d) _ R l (WR.imp (WR.bind w) λe i y b C e1 p=>?_)];show m B Z y b C e _ _ Q p (j.ev e1) (i.imp λh q r a A e2 R2=>q r a A (e1.trans e2) R2)
def Tt:D->I (G D)
 |.tuple ds=>M ds
 |_=>P
def Cz(h:DX O K H x d)(e:Tt d=M ds):∃a xs,x=.ref a/\YO O K H a xs/\Wo O K H xs ds:=by
 ext d<;>ext e;cases h with
 |tup h b=>show#[_,_,W,h,b]
def gT(n:Nat)(f:PX):FG:=λpv ρ=>(Res.VO (qQ ρ pv)).bind λd=>(Res.VO (Tt d)).bind λds=>if ds.length=n then f ds ρ else .bad
def L8(h:Ro K E t f):GO K E (Ha K n t) (gT n f):=by
 intro B Z O Y H ρ v pv Q R p w;let(d,g,w):=w.VO;let(ds,e,w):=w.VO;let(a,xs,rfl,i,b):=Cz (ji R p g) e;by_cases hn:ds.length=n
 .rw[ax hn]at w;show#[a,xs,W,i.1,b.length.trans hn,h B Z O Y H ρ xs ds Q R b w]
 .rw[a3 hn]at w;show w.elim
inductive Fl where
 |nx (ρ:aL)
 |rt (rv:RV)
 |bk (ρ:aL)
 |ct (ρ:aL)
abbrev FS:=aL->Res Fl
def ab8(K:CL)(B:bC)(Z:Hp)(O:bC)(H:Hp)(D:Ends):Fl->Prop
 |.nx ρ'=>∀U a H',Ev O H U H'->Rl K B Z U a H' ρ'->D.nx a H'
 |.bk ρ'=>∀U a H',Ev O H U H'->Rl K B Z U a H' ρ'->D.bk a H'
 |.ct ρ'=>∀U a H',Ev O H U H'->Rl K B Z U a H' ρ'->D.ct a H'
 |.rt b=>Fin B K Z D.rt b
def SO(K:CL)(E:XK)(t:TS)(g:FS):Prop:=
 ∀(B:bC) (Z:Hp) (O:bC) (Y:St) (H:Hp) (ρ:aL) (D:Ends),Rl K B Z O Y H ρ->WR K E B Z (ab8 K B Z O H D) (g ρ)->t D Y H
def ab8.ev{D:Ends}(e:Ev O H O1 H1)(h:ab8 K B Z O H D fl):ab8 K B Z O1 H1 D fl:=by
 cases fl with
 |nx ρ'=>show λU a H' b f=>h U a H' (e.trans b) f
 |bk ρ'=>show λU a H' b f=>h U a H' (e.trans b) f
 |ct ρ'=>show λU a H' b f=>h U a H' (e.trans b) f
 |rt g=>show h
def dQ:FS:=λρ=>.ok (.nx ρ)
def aV(f g:FS):FS:=λρ=>(f ρ).bind λa=>match a with
 |.nx b=>g b
 |a=>.ok a
def iV(f:FE):FS:=λρ=>(f ρ).bind λa=>.ok (.nx a.2)
def cb(f:FE)(g:FG):FS:=λρ=>(f ρ).bind λa=>(g a.1 a.2).bind λb=>.ok (.nx b)
def kC(c:FT)(f g:FS):FS:=λρ=>(c ρ).bind λa=>if a.1=S then f a.2 else g a.2
def AY(ρ:aL):PV->I RV
 |.fz d=>M (.fz d)
 |.ow ds=>M (.ow ds)
 |.pl i=>match ρ[i]? with
  |some (M (.fz d))=>M (.fz d)
  |some (M (.ow ds))=>M (.ow ds)
  |_=>P
def cX(f:FE):FS:=λρ=>(f ρ).bind λa=>(Res.VO (AY a.2 a.1)).bind λb=>.ok (.rt b)
theorem HQ:SO K E E7 dQ:=λB Z O Y H ρ D R w=>w O Y H .refl R
def Nc(j:SO K E t f)(i:SO K E u g):SO K E (Cs t u) (aV f g):=by
 intro B Z O Y H ρ D R w;show j B Z O Y H ρ {D with nx:=u D} R (WR.imp (WR.bind w) λh b=>?_);cases h with
 |nx a=>show λm e n e1 l=>i B Z m e n a D l (WR.imp b λh q=>q.ev e1)
 |rt o=>show b
 |bk a=>show b
 |ct a=>show b
def JG(h:EO K E t f):SO K E (uS t) (iV f):=by intro B Z O Y H ρ D R w;show h B Z O Y H ρ _ R (w.bind.imp λa b g x i e1 e j=>b g Y i e1 e)
def De(h:EO K E t f)(m:GO K E g C):SO K E (u8 t g) (cb f C):=by intro B Z O Y H ρ D R w;show h B Z O Y H ρ _ R (w.bind.imp λa j p x r e1 n l=>?_);show m B Z p Y r a.2 x a.1 _ n l (j.bind.imp λe i o b q e2 R2=>i o b q (e1.trans e2) R2)
def QN(m:TTO K E c C)(o:SO K E t f)(n:SO K E u g):SO K E (HC c t u) (kC C f g):=by
 intro B Z O Y H ρ D R w;show m B Z O Y H ρ _ R (w.bind.imp λa h j l e1 i=>?_);let(b,e):=a;cases b with
 |true=>show o B Z j Y l e D i (WR.imp h λp q=>q.ev e1)
 |false=>show n B Z j Y l e D i (WR.imp h λp q=>q.ev e1)
def M9{pv:PV}(R:Rl K B Z O Y H ρ)(p:YA K Z O Y H ρ v pv)(e:AY ρ pv=M C)(w:Fin B K Z Q C):Q v H:=by
 let ow:∀{a:J} {A:G V} {ds:G D},O a->Z a=P->H a=M (.lst A)->Wo O K H A ds->Fin B K Z Q (.ow ds)->Q (.ref a) H:=λ{a A ds} m l g f w=>
  w a A H R.same l g (f.ev (Ev.sub λb z=>z.elim (R.bo b) λe=>by simp_all))
 let fz:∀{d:D},DV O K H v d->Fin B K Z Q (.fz d)->Q v H:=λ{d} h w=>w v H R.same (h.ev (Ev.sub R.bo));cases pv with
 |fz d=>ext e;show fz p w
 |ow ds=>ext e;let(a,A,rfl,m,l,g,f,y):=p;show ow m l g f w
 |pl i=>
  let t:=p;unfold AY at e;dsimp only at e;cases q:ρ[i]? with
  |none=>simp_all
  |some o=>
   cases o with
   |none=>simp_all
   |some x=>
    let(u,r,n):=R.slot i x q;rw[t]at r;ext r;rw[q]at e;cases x with
    |fz d=>ext e;show fz n w
    |ow ds=>ext e;let(a,A,rfl,m,l,g,f):=n;show ow m l g f w
    |pl j=>show n.elim
def Mc(h:EO K E t f):SO K E (GI t) (cX f):=by intro B Z O Y H ρ D R w;show h B Z O Y H ρ _ R (w.bind.imp λa b i x j e1 g e=>?_);let(l,q,b):=b.VO;show M9 g e q b
def xt(K:CL)(J:It)(O:bC)(H:Hp)(ds:G D):Prop:=∀U H',Ev O H U H'->kQ U H'->
 (∀i,i<ds.length->J.go i H'/\∀x a,J.yld i H' x a->Wt H' a/\∃d,ds[i]?=M d/\DV U K a x d)/\J.stop ds.length H'
abbrev FI:=aL->Res (G D×aL)
def IO(K:CL)(E:XK)(b:TI)(e:FI):Prop:=
 ∀(B:bC) (Z:Hp) (O:bC) (Y:St) (H:Hp) (ρ:aL) (a:It->Hp->Prop),Rl K B Z O Y H ρ->WR K E B Z (λr=>∀U J H',Ev O H U H'->Rl K B Z U Y H' r.2->xt K J U H' r.1->a J H') (e ρ)->b Y H a
def mY(gt:FG)(b:FS):G D->FS
 |[],ρ=>.ok (.nx ρ)
 |d::r,ρ=>(gt (.fz d) ρ).bind λa=>(b a).bind λe=>match e with
  |.nx f=>mY gt b r f
  |.ct f=>mY gt b r f
  |.bk f=>.ok (.nx f)
  |.rt g=>.ok (.rt g)
def l8(e:FI)(gt:FG)(b:FS):FS:=λρ=>(e ρ).bind λa=>mY gt b a.1 a.2
def OU(c:IO K E wi fi)(k:GO K E g gt)(s:SO K E tb b):SO K E (Ie wi g tb) (l8 fi gt b):=by
 intro B Z O Y H ρ D R w;show c B Z O Y H ρ _ R (w.bind.imp λa N G J T e1 S Q=>?_);let(ds,F):=a;dsimp only at N Q S;show#[λi m f H'=>m=ds.length - i/\i<=ds.length/\∃O2 ρ2,Ev G T O2 H'/\Rl K B Z O2 f H' ρ2/\WR K E B Z (ab8 K B Z O H D) (mY gt b (ds.drop i) ρ2),#[_,W,Vu _,G,F,.refl,S,N],?_];rintro i m n M ⟨rfl,c,O2,ρ2,e2,R2,w2⟩;let(go,o):=Q O2 M e2 R2.od;by_cases u:i<ds.length
 .let(g1,g2):=go i u
  show .inr #[g1,λf H'=>i+1<=ds.length/\∃O2 ρ2,Ev G T O2 H'/\Rl K B Z O2 f H' ρ2/\WR K E B Z (ab8 K B Z O H D) (mY gt b (ds.drop (i+1)) ρ2),λf H' #[h1,h2]=>#[ds.length - (i+1),by ext,W,h1,h2],λx L y=>?_];let(P,d,hd,dv):=g2 x L y;let ed:ds.drop i=d::ds.drop (i+1):=by let(_,q):=UO.mp hd;rw[Xk u,q]
  rw[ed]at w2;let e3:Ev O2 M O2 L:=Ev.grow P;show k B Z O2 n L ρ2 x (.fz d) _ (R2.grow P) dv (WR.imp (WR.bind w2) λC X O4 A H4 e4 R4=>?_);let l:=e2.trans (e3.trans e4);show s B Z O4 A H4 C _ R4 (WR.imp (WR.bind X) λfl t=>?_);cases fl with
  |nx h=>show λr j I e5 p=>#[u,r,h,l.trans e5,p,t]
  |ct h=>show λr j I e5 p=>#[u,r,h,l.trans e5,p,t]
  |bk h=>show λr j I e5 p=>t r j I (e1.trans (l.trans e5)) p
  |rt rv=>show t
 .let e:i=ds.length:=by ext
  subst e;rw[Wy (UU _)]at w2;show .inl #[o,w2 O2 n M (e1.trans e2) R2]
def eG:D->I (G D)
 |.tuple ds=>M ds
 |.list ds=>M ds
 |_=>P
def zx(K:CL)(e:TE):TI:=λY H R=>e Y H λx b=>∃a,x=.ref a/\(((∃xs,Yk K b a xs)/\R (SK K a) b)\/((∃xs,Yr K b a xs)/\R (S3 K a) b))
def wQ(y:PE X l C):PI X tg l (zx X.K C):=by
 intro i s Y H R I h;show bP (y i s Y H _ I h) λv g a=>?_;let(x,r,f,t,u):=a;let(a,e,q):=u;subst e;ext t;rcases q with⟨⟨xs,j⟩,q⟩|⟨⟨xs,j⟩,q⟩
 .let(n,A,p,w):=f.list j
  show Yc p.isList ?_;show#[g.heap.objs.size,[g.heap.objs.size],_,_,r,W,f.kept λb o e=>bt _ e,A2 a _,#[_,b4 _ W,W,W],λb m=>?_,q];let e:b=g.heap.objs.size:=by simpa using m
  subst e;show f.aa1 (UU _) (f.V4.fresh (UU _))
 .let(n,A,p,w):=f.tuple j
  show Zi (show g.heap.IsTuple a n.toArray from p) ?_;show#[g.heap.objs.size,[g.heap.objs.size],_,_,r,W,f.kept λb o e=>bt _ e,xG a _,#[_,b4 _ W,W,W],λb m=>?_,q];let e:b=g.heap.objs.size:=by simpa using m
  subst e;show f.aa1 (UU _) (f.V4.fresh (UU _))
def zu(h:ZL O K H a xs)(hd:Wo O K H xs ds):xt K (SK K a) O H ds:=by intro U H' e n;let f:=h.ev e;let b:=hd.ev e;show#[λi p=>?_,#[xs,f.1.sq,by rw[hd.length];show UU _]];let(x,l,_):=b.get (U6 p);show#[#[xs,x,f.1.sq,l],?_];rintro y m ⟨rfl,o⟩;let(d,j,g):=b.adp (o xs f.1.sq);show#[Wt.refl _,d,j,g]
def Eh(h:YO O K H a xs)(hd:Wo O K H xs ds):xt K (S3 K a) O H ds:=by intro U H' e n;let f:=h.ev e;let b:=hd.ev e;show#[λi p=>?_,#[xs,f.1,by rw[hd.length];show UU _]];let(x,l,_):=b.get (U6 p);show#[#[xs,x,f.1,l],?_];rintro y m ⟨rfl,o⟩;let(d,j,g):=b.adp (o xs f.1);show#[Wt.refl _,d,j,g]
def iX(c:FE):FI:=λρ=>(c ρ).bind λa=>(Res.VO (uN a.2 a.1)).bind λb=>(Res.VO (eG b.1)).bind λds=>.ok (ds,b.2)
def N5(h:EO K E C fe):IO K E (zx K C) (iX fe):=by
 intro B Z O Y H ρ o R w;show h B Z O Y H ρ _ R (w.bind.imp λa b p x i e1 n l=>?_);let((d,j),q,b):=b.VO;let(g,e2,R2,m):=qX n l q;let(ds,e,b):=b.VO;dsimp only at e;cases m with
 |tup h f=>ext e;show#[_,W,.inr #[#[_,h.1],b g _ i (e1.trans e2) R2 (Eh h f)]]
 |lst h f=>ext e;show#[_,W,.inl #[#[_,h.1.sq],b g _ i (e1.trans e2) R2 (zu h f)]]
 |_=>ext e
def fR(lo:Int)(n:Nat):G D:=(U0 n).map λ(k:Nat)=>.int (lo+(k:Int))
def CM:xt K (Sr lo n) O H (fR lo n):=by
 intro U H' e f;let a:(fR lo n).length=n:=by ext fR;simp_all
 show#[λi g=>?_,by show n<=_;rw[a];show UU _];rw[a]at g;show#[g,?_];rintro x b ⟨rfl,rfl⟩;show#[Wt.refl _,.int (lo+i),by ext fR;simp_all,.int _]
def iL(i:Int):Prop:= -(2^62)<=i/\i<2^62
noncomputable instance(i:Int):Decidable (iL i):=by ext iL;infer_instance
def fP:G D->I (G D)
 |[.int j]=>if iL j then M (fR 0 j.toNat)else P
 |_=>P
def jf(f:G D->I (G D))(b:FA):FI:=λρ=>(b ρ).bind λa=>(Res.VO (qL a.2 a.1)).bind λds=>(Res.VO (f ds)).bind λxs=>.ok (xs,a.2)
def Js(h:AO K E C fa):IO K E (KQ C) (jf fP fa):=by
 intro B Z O Y H ρ r R w;show h B Z O Y H ρ _ R (w.bind.imp λa e o t p e1 g l=>?_);let(ds,q,e):=e.VO;let(xs,b,e):=e.VO;let i:=tH g l q;unfold fP at b;split at b
 .rename_i j
  split at b
  .rename_i f
   ext b;cases i with
   |cons n m=>ext m;ext n;show#[j,W,f.1,f.2,e o _ p e1 g CM]
  .ext b
 .ext b
end
section
variable{K:CL}{E:XK}{B O Y:bC}{X H H':Hp}{Z:St}{ρ ρ':aL}{v:V}
def FZ:I PV->I PV
 |some (.fz d)=>M (.fz d)
 |_=>P
def cC(ρ:aL):aL:=ρ.map FZ
def wq{i:Nat}(h:(cC ρ)[i]?=M (M x)):∃d,x=.fz d/\ρ[i]?=M (M (.fz d)):=by
 unfold cC at h;rw[UZ]at h;cases q:ρ[i]? with
 |none=>simp_all
 |some o=>
  rw[q]at h;let a:=Vd h;unfold FZ at a;split at a
  .ext a;show#[_,W,W]
  .ext a
def qV(ρ:aL):G Nat->I (G D×aL)
 |[]=>M ([],ρ)
 |j::r=>match uN ρ (.pl j)with
  |some (d,b)=>(match qV b r with
   |some (c,a)=>M (d::c,a)
   |none=>P)
  |none=>P
def Au(R:Rl K B X O Z H ρ)(h:uN ρ (.pl i)=M (d,ρ')):∃v,Z[i]?=M (M v):=by
 let a:toS ρ i ρ[i]?=M (d,ρ'):=h;cases q:ρ[i]? with
 |none=>rw[q]at a;ext a
 |some o=>
  cases o with
  |none=>rw[q]at a;ext a
  |some x=>let(v,b,_):=R.slot i x q;show#[v,b]
theorem v7:∀{b:G Nat} {ds:G D} {O:bC} {ρ ρ':aL},Rl K B X O Z H ρ->qV ρ b=M (ds,ρ')->∃Y k,Ev O H Y H/\Rl K B X Y Z H ρ'/\Wo Y K H k ds/\b.map (λj=>(Z[j]?).join)=k.map M
 |[],_,O,_,_,u,e=>by ext e;show#[O,[],.refl,u,.nil,W]
 |j::r,_,O,ρ,ρ',u,e=>by
  unfold qV at e;cases q:uN ρ (.pl j)with
  |none=>simp_all
  |some p=>
   let(d,a):=p;rw[q]at e;dsimp only at e;cases w:qV a r with
   |none=>simp_all
   |some g=>let(c,f):=g;rw[w]at e;ext e;let(v,h):=Au u q;let(t,e1,m,l):=qX (pv:=.pl j) u h q;let(n,k,e2,R2,i,o):=v7 m w;show#[n,v::k,e1.trans e2,R2,.cons (l.ev e2) i,by simp_all]
def cW(gt:FG)(c:FT)(f:FE):G D->aL->G D->Res (G D)
 |[],_,acc=>.ok acc
 |d::r,ρ,acc=>(gt (.fz d) ρ).bind λe=>(c e).bind λb=>if b.1=S then(f b.2).bind λa=>(Res.VO (uN a.2 a.1)).bind λx=>
   if acc.length<1000000 then cW gt c f r (cC x.2) (acc++[x.1])else .bad
  else cW gt c f r (cC b.2) acc
def iY:Res α->Res α
 |.er _=>.bad
 |r=>r
def dC(n:Nat)(b:G Nat)(e:FI)(gt:FG)(f:FT)(g:FE):FE:=λρ=>(e ρ).bind λa=>(Res.VO (qV a.2 b)).bind λc=>
 (iY (cW gt f g a.1 (UW n P++c.1.map λd=>M (.fz d)) [])).bind λxs=>.ok (.ow xs,c.2)
def yx{own:G Str}(h:own.length=n):own.map (λ_=>(P:I V))=UW n P:=by
 subst h
 induction own with
 |nil=>rfl
 |cons x r a=>grind
def yM(h:WR K E B X b (iY r)):∃a,r=.ok a/\b a:=by
 cases r with
 |ok a=>show#[a,W,h]
 |er x=>show h.elim
 |bad=>show h.elim
def Se(K:CL)(J:It)(O:bC)(H:Hp)(ds:G D):Prop:=∀Y H',Ev O H Y H'->Wt H H'->kQ Y H'->
 (∀i,i<ds.length->J.go i H'/\∀x a,J.yld i H' x a->Wt H' a/\∃d,ds[i]?=M d/\DV Y K a x d)/\J.stop ds.length H'
def Sx(K:CL)(E:XK)(b:TI)(e:FI):Prop:=
 ∀(B:bC) (X:Hp) (O:bC) (Z:St) (H:Hp) (ρ:aL) (a:It->Hp->Prop),Rl K B X O Z H ρ->WR K E B X (λr=>∀Y J H',Ev O H Y H'->Rl K B X Y Z H' r.2->Se K J Y H' r.1->a J H') (e ρ)->b Z H a
theorem IO.s(h:IO K E wi fi):Sx K E wi fi:=λB X O Z H ρ b R w=>h B X O Z H ρ b R (w.imp λr q Y J H' e R a=>q Y J H' e R λf g e2 _ n=>a f g e2 n)
def pU(c:own.length=n)(hf:fv.map (·.2)=fj)
  (hi:Sx K E wi fi) (hg:GO K E0 g gt) (ht:TTO K E0 tc ft) (he:EO K E0 te fe):EO K E (qZ own fv wi g tc te) (dC n fj fi gt ft fe):=by
 intro B X O Z H ρ Q R w;show hi B X O Z H ρ _ R (w.bind.imp λa w1 O1 J H1 e1 R1 it=>?_);let(ds,ρ1):=a;let((cs,ρ2),qc,w1):=w1.VO;dsimp only at qc it;let(I,vs,e2,R2,Yy,hvs):=v7 R1 qc;let(xs,qx,w1):=yM (WR.bind w1);intro l F;let hB:∀{H':Hp},Wt H1 H'->H' l≠lD->∀a,cx I l a->H' a≠lD:=λ{H'} s nd a h z=>h.elim (λq=>R2.od a (s.free z) q) λe=>nd (by rw[<-e];show z);show#[λi m L H'=>m=ds.length - i/\i<=ds.length/\∃(A:bb D) (G:bb V) (t:aL),Wt H1 H'/\H' l=cL (.lst G)/\Wo (cx I l) K H' G A/\L.length=t.length/\(∀(j:Nat) (x:PV),t[j]?=cL (cL x)->∃d u,x=PV.fz d/\L[j]?=cL (cL u)/\DV (cx I l) K H' u d)/\cW gt ft fe (ds.drop i) t A=.ok xs,
  #[_,W,Vu _,[],[],_,bJ F _,aC,.nil,?_,λj x M=>?_,qx],?_]
 .ext ia
  rw[US,US,UK,UK,VY,UK,c,<-Yy.length];let:=dt Yf hvs
  grind
 .let hm:fv.map (λp=>(Z[p.2]?).join)=vs.map cL:=by rw[<-hvs,<-hf,VJ];rfl
  ext ia;rw[yx c,hm];by_cases hj:j<n
  .rw[U1 (by rw[VY];show hj),WT,ax hj]at M;ext M
  .rw[Vn (by rw[VY];ext),VY,UZ]at M⊢
   cases qd:cs[j - n]? with
   |none=>rw[qd]at M;ext M
   |some d=>rw[qd]at M;ext M;let(u,hu,du):=Yy.get qd;show#[d,u,W,by rw[hu];rfl,du.ev (Ev.add (bJ F _) F)]
 .rintro i m L H' ⟨rfl,hi,A,G,t,s,hD,dys,hl,hsl,f⟩
  let nD:H' l≠lD:=by rw[hD];simp
  let no':=λa z h=>hB s nD a h z;let ev1:=e2.trans (Ev.add s F);let(go,stop):=it (cx I l) H' ev1 s no';by_cases Ye:i<ds.length
  .let(g1,g2):=go i Ye
   show .inr #[g1,λC N=>i+1<=ds.length/\∃(A:bb D) (G:bb V) (t:aL),Wt H1 N/\N l=cL (.lst G)/\Wo (cx I l) K N G A/\C.length=t.length/\(∀(j:Nat) (x:PV),t[j]?=cL (cL x)->∃d u,x=PV.fz d/\C[j]?=cL (cL u)/\DV (cx I l) K N u d)/\cW gt ft fe (ds.drop (i+1)) t A=.ok xs,
    λC N #[U2,h2]=>#[ds.length - (i+1),by ext,W,U2,h2],λx H3 y=>?_]
   let(s3,d,hd,dv):=g2 x H3 y;let ed:ds.drop i=d::ds.drop (i+1):=by let(_,q):=UO.mp hd;rw[Xk Ye,q]
   rw[ed]at f;let hD3:=s3 _ _ hD;let nD3:H3 l≠lD:=by rw[hD3];simp
   let sv:=s.trans s3;let RC:Rl K (cx I l) H3 (cx I l) L H3 t:=#[Wt.refl _,λ_ h=>h,hB sv nD3,λa z h=>hB sv nD3 a h z,hl,λj x M=>by let(d,u,rfl,U2,h2):=hsl j x M;show#[u,U2,h2.ev (Ev.grow s3)],λj k xs G w hj=>by let(d,u,e,_):=hsl j _ hj;ext e];unfold cW at f;let back:∀{O5:bC} {C:St} {N:Hp} {Pz0:aL} {H6:Hp},Rl K (cx I l) H3 O5 C N Pz0->(∀b o,b≠l->N b=cL o->H6 b=cL o)->C.length=(cC Pz0).length/\∀(j:Nat) (x:PV),(cC Pz0)[j]?=cL (cL x)->∃d u,x=PV.fz d/\C[j]?=cL (cL u)/\DV (cx I l) K H6 u d:=λ{O5 C N Pz0 H6} T k=>by show#[by ext cC;rw[UK];show T.len,λj x M=>?_];let(d,rfl,hxx):=wq M;let(u,U2,h2):=T.slot j _ hxx;show#[d,u,W,U2,DV.ev (λb o h n=>#[k b o (λe=>n (.inr e)) h,n]) (DV.ev (Ev.sub T.bo) h2)]
   show hg _ _ _ L H3 t x (.fz d) _ RC dv ?_;cases qg:gt (.fz d) t with
   |er z=>rw[qg]at f;ext f
   |bad=>rw[qg]at f;ext f
   |ok ρ3=>
    rw[qg,dN]at f;intro O4 σ4 H4 e4 R4;show ht _ _ _ σ4 H4 ρ3 _ R4 ?_;cases qt:ft ρ3 with
    |er z=>rw[qt]at f;ext f
    |bad=>rw[qt]at f;ext f
    |ok b=>
     let(b,ρ4):=b;rw[qt,dN]at f;intro O5 N e5 T;cases b with
     |false=>rw[a3 Ve]at f⊢;let(l5,k5):=back T λb o _ h=>h;show#[Ye,A,G,cC ρ4,sv.trans T.same,T.same _ _ hD3,?_,l5,k5,f];show dys.ev (Ev.grow (s3.trans T.same))
     |true=>
      rw[ax W]at f⊢;show he _ _ _ σ4 N ρ4 _ T ?_;cases qe:fe ρ4 with
      |er z=>rw[qe]at f;ext f
      |bad=>rw[qe]at f;ext f
      |ok r=>
       rw[qe,dN]at f;intro O6 yv H6 e6 R6 p6;cases q7:uN r.2 r.1 with
       |none=>rw[q7]at f;ext f
       |some xr=>
        let(xd,ρ7):=xr;rw[q7]at f;let(O7,e7,R7,dv7):=qX R6 p6 q7;let hD7:=R7.same _ _ hD3;let S:(if A.length<1000000 then cW gt ft fe (ds.drop (i+1)) (cC ρ7) (A++[xd])else .bad)=.ok xs:=f;by_cases hl6:A.length<1000000
        .rw[ax hl6]at S
         let up:∀b o,b≠l->H6 b=cL o->aW H6 l (.lst (G++[yv])) b=cL o:=λb o hb h=>by rw[au hb];show h
         let bU:Ev (cx I l) H6 (cx I l) (aW H6 l (.lst (G++[yv]))):=λb o h n=>#[up b o (λe=>n (.inr e)) h,n];let aik:=dys.ev (Ev.grow (s3.trans R7.same));let(l5,k5):=back R7 up;show#[G,hD7,rF (by rw[dys.length];show hl6),Ye,A++[xd],G++[yv],cC ρ7,λb o h=>?_,aC,?_,l5,k5,S]
         .rw[au (bB h F)];show R7.same _ _ (sv _ _ h)
         .show(aik.append (.cons (DV.ev (Ev.sub R7.bo) dv7) .nil)).ev bU
        .rw[a3 hl6]at S;ext S
  .let e:i=ds.length:=by ext
   subst e;rw[Wy (UU _)]at f;let f:=f;ext f;show .inl #[stop,?_];show w1 (cx I l) (.ref l) H' (e1.trans ev1) (R2.add s F nD) #[l,G,W,.inr W,R2.adS F,hD,dys,λk es hk z=>?_];let(u,U2,b,us,e2,g1,g2,g3,g4):=R2.slot k _ hk;rw[z]at U2;ext U2;ext e2;rw[F]at g3;ext g3
def OY(ρ:aL):I (I PV)->Res (G D×aL)
 |some (M (.ow ds))=>.ok (ds,ρ)
 |_=>.bad
def vq(i:Nat):FI:=λρ=>OY ρ ρ[i]?
def Di:Sx K E (zx K (qB i)) (vq i):=by
 intro B X O Z H ρ C R w;unfold vq at w;cases q:ρ[i]? with
 |none=>rw[q]at w;show w.elim
 |some o=>
  cases o with
  |none=>rw[q]at w;show w.elim
  |some x=>
   cases x with
   |fz d=>rw[q]at w;show w.elim
   |pl j=>rw[q]at w;show w.elim
   |ow ds=>rw[q]at w;let(v,p,a,L,rfl,A,u,f,r):=R.slot i _ q;show#[_,p,a,W,.inl #[#[L,Yk.of f],w O _ H .refl R λY H' e s n=>?_]];let k:=s _ _ f;let b:=r.ev e;show#[λj m=>?_,#[L,Yk.of k,by rw[b.length];simp_all]];let(x,l,_):=b.get (U6 m);show#[#[L,x,Yk.of k,l],?_];rintro y t ⟨rfl,N⟩;let(d,h,g):=b.adp (N L (Yk.of k));show#[Wt.refl _,d,h,g]
def d8(F:FN)(n:Nat)(c:FA):FE:=λρ=>(c ρ).bind λa=>(Res.VO (nk a.2 a.1)).bind λb=>if b.1.length=n then(iY (F b.1)).bind λe=>.ok (e.pv,b.2)else .bad
def MH(c:AO K E C fa):EO K E (lg (AL K n F) [] E0 C) (d8 F n fa):=by
 intro B X O Z H ρ Q R w;show c B X O Z H ρ _ R (w.bind.imp λa g u A y e1 o j=>?_);let((ds,f),q,b):=g.VO;let(r,e2,R2,e):=pG o j q;dsimp only at b;by_cases hn:ds.length=n
 .rw[ax hn]at b;let(L,h,b):=yM (WR.bind b);rw[VR];show#[e.length.trans hn,r,ds,λa z l=>R2.od a l z,e,?_];rw[h];show jy R2 λp v t e3 m i=>b p v t (e1.trans (e2.trans e3)) m i
 .rw[a3 hn]at b;show b.elim
end
def fy(N:Nat)(g:FS):FN:=λds=>(g (ds.map (λd=>M (.fz d))++UW (N - ds.length) P)).bind λa=>match a with
 |.rt b=>.ok b
 |.nx _=>.ok (.fz .none)
 |_=>.bad
def C5(g:∀a,B a->H a≠P)(l:Wo B K H C ds):Rl K B H B (L2.start N C) H (ds.map (λd=>M (.fz d))++UW (N.length - ds.length) P):=by
 let r:=l.length;show#[Wt.refl _,λ_ h=>h,g,λa z h=>g a h z,?_,λi x m=>?_,λi j xs p w t=>?_]
 .ext L2.start;simp_all
 all_goals
  let b:∀{i:Nat} {x:PV},(ds.map (λd=>M (PV.fz d))++UW (N.length - ds.length) P)[i]?=M (M x)->∃d,x=.fz d/\ds[i]?=M d:=λ{i x} h=>by
   by_cases t:i<ds.length
   .rw[U1 (by rw[UK];show t),UZ]at h
    cases q:ds[i]? with
    |none=>rw[q]at h;ext h
    |some d=>rw[q]at h;ext h;show#[d,W,W]
   .rw[Vn (by rw[UK];ext),WT]at h;split at h<;>ext h
 .let(d,rfl,n):=b m;let(v,f,o):=l.get n;show#[v,?_,o];let t:=(UO.mp f).1;ext L2.start;rw[U1 (by rw[UK];show t),UZ,f];rfl
 .let(d,e,_):=b t;ext e
def Ua(F:ZD K x qual st f fd)(S:W3 N ps (aw st))(c:ps.length=n)
  (r:∀(a:U) (A:Vq) (outer:G Env) (s:UQ) (H:Hp) (E:XK),WC k (A.deeper (Vx qual (aw st) s.heap.objs.size f a))->
   ∃t,PSs (eZ j0 C w K mg base N qual (aw st) f a A outer s H E).nox (bT st) t/\SO K E t g):FnOk C w K mg base j0 (k+1) f fd ps (AL K n (fy N.length g)):=by
 show F.ok S (λT H Q E h=>h.1.trans c.symm) (λa A outer s H T Q E l h=>?_);let(t,i,j):=r a A outer s H E l;let(v,B,ds,m,p,h):=h;show#[t,i,j B H B _ H _ _ (C5 m p) (WR.imp (WR.bind h) λo q=>?_)];cases o with
 |rt X=>show q
 |nx L=>show λy b u e R=>q .W9 u R.same .W9
 |bk L=>show q.elim
 |ct L=>show q.elim
end L3
namespace L3
open PySem PySem.Spec PyProof.Rows L2
def OpR.or(h:OpR X f r)(c:OpR X f r'):OpR X f (λx y H Q=>r x y H Q\/r' x y H Q):=by
 intro a s b H x y v u Q I g e q;rcases q with q|q
 .show h a s b H x y v u Q I g e q
 .show c a s b H x y v u Q I g e q
def Ng(I:Inv X pins σ H s)(h:X4 X.K H l xs):xs.length<=UY/\∃(a:G U) (n:Nat),Vals xs a/\xs.length=a.length/\s.heap.get? l=M {cls:=.type "list",data:=.seq a.toArray n}:=by
 rcases h with(h|⟨o,h⟩)|⟨a,n,h1,f,b⟩
 .show I.afD h
 .let(_,z,a,n,r,e):=I.V4 l _ h;show#[z,a,n,r,r.length,e]
 .show#[f,a,n,b,b.length,I.ZX _ _ h1]
def KO(K:CL):R2:=λx y H Q=>∃l b xs zs,x=.ref l/\y=.ref b/\X4 K H l xs/\X4 K H b zs/\xs.length+zs.length<=UY/\∀p,H p=P->Q (.ref p) (aW H p (.lst (xs++zs)))
def HB:OpR X (Wu .Add) (KO X.K):=by
 intro f s A H x y v u Q I j i h;let(l,b,xs,B,rfl,rfl,p,t,F,q):=h;ext j;ext i;let(z,g,n,r,G,e):=Ng I p;let(C,a,E,m,o,e2):=Ng I t;show PySem.P.add_list e e2 ?_ (by simp_all);let w:g.toArray++a.toArray=(g++a).toArray:=by simp
 rw[w];show#[.ref _,_,I.agi (r.append m) (by simp_all),W,q _ I.fresh]
def K6(K:CL):R2:=λx y H Q=>∃l k xs,x=.ref l/\y=.int k/\X4 K H l xs/\ -(2^63)<=k/\k<2^63/\xs.length*k.toNat<=UY/\
 ∀p,H p=P->Q (.ref p) (aW H p (.lst (UW k.toNat xs).flatten))
def Jy:OpR X (Wu .Mult) (K6 X.K):=by
 intro p s O H x y v u Q I E C h;let(l,k,xs,rfl,rfl,J,M,L,G,q):=h;ext E;let(t,rfl):=C;let(z,b,n,r,R,e):=Ng I J;let f:b.toArray.size*k.toNat<=UY:=by simp_all
 let g:¬b.toArray.size*k.toNat>(2^63 - 1)/8:=by
  let:(UY:Nat)<=(2^63 - 1)/8:=by decide
  ext
 let i:¬(!Builtin.List.listFitsIndex k)=S:=by rw[fitsIndex_both M L];simp_all
 let j:¬Builtin.List.listTooLong (b.toArray.size*k.toNat)=S:=by rw[DL f];simp_all
 let o:YD (λA w=>A++w) #v[] (UW (if b.toArray.isEmpty=S then 0 else k.toNat) b.toArray)=(UW k.toNat b).flatten.toArray:=by
  let N:=λm=>by let:=mw b m [];rw[Z3]at this;show this
  rw[N];cases b with
  |nil=>simp
  |cons a P=>rfl
 show abJ () #[_,e,W] (λB=>ZR B k t) noFill_list_mul F.fills_int_mul F.slot_int_rmul repeat_list F.slot_int_index.lookup
  (Ys F.slot_int_rmul (ZR s k t) F.entry_int_rmul (F.args_int_rmul_2 _ _) (int___rmul___int_list k t l b.toArray n)
   #[e,W,#[_,e,W],Ys F.slot_list_mul #[_,e,W] F.entry_list_mul (F.args_list_mul_2 _ _) (AutoListH.list___mul___list_int_3 l b.toArray n k t i g j) #[e,?_]])
 rw[o];show#[.ref _,_,I.agi (r.rep k.toNat) (by rw[yN,Nat.mul_comm];show G),W,q _ I.fresh]
section
variable{K:CL}
def fI(g:Int->Int->Int):D->D->I RV
 |.int i,.int j=>M (.fz (.int (g i j)))
 |_,_=>P
def fB(g:Int->Int->Bool):D->D->I RV
 |.int i,.int j=>M (.fz (.bool (g i j)))
 |_,_=>P
def PU(C:Int->Int->Bool)(g:Int->Int->Int):D->D->I RV
 |.int i,.int j=>if C i j=S then M (.fz (.int (g i j)))else P
 |_,_=>P
def vn(h:fI g dx C=M o):∃i j,dx=.int i/\C=.int j/\o=.fz (.int (g i j)):=by
 unfold fI at h;split at h
 .ext h;show#[_,_,W,W,W]
 .ext h
def KY:iA K (ui λi j=>.int (g i j)) (fI g):=by intro O H x y l f h Q n b a e q;let(i,j,rfl,rfl,rfl):=vn e;ext b;ext a;show#[i,j,W,W,q.at (.int _)]
def yA:iA K (ui λi j=>.bl (g i j)) (fB g):=by
 intro O H x y l f h Q n b a e q;unfold fB at e;split at e
 .ext e;ext b;ext a;show#[_,_,W,W,q.at (.bl _)]
 .ext e
def rY(h:∀i j,C i j=S->o i j):iA K (rI o λi j=>.int (g i j)) (PU C g):=by
 intro O H x y p l m Q n b a e q;unfold PU at e;split at e
 .split at e
  .rename_i f;ext e;ext b;ext a;show#[_,_,W,W,h _ _ f,q.at (.int _)]
  .ext e
 .ext e
theorem Bi(h:DX O K H x (.list ds)):∃a xs,x=.ref a/\X4 K H a xs/\Wo O K H xs ds:=h
theorem FJ(h:DX O K H x (.tuple ds)):∃a xs,x=.ref a/\YO O K H a xs/\Wo O K H xs ds:=Cz h W
def K3(K:CL):R2:=λx y H Q=>ui (λi j=>.int (i+j)) x y H Q\/KO K x y H Q\/LP K x y H Q
theorem J0:OpR X (Wu .Add) (K3 X.K):=OpR.or OA (OpR.or HB Ht)
def ce:D->D->I RV
 |.int i,.int j=>M (.fz (.int (i+j)))
 |.list xs,.list ys=>if xs.length+ys.length<=1000000 then M (.ow (xs++ys))else P
 |.tuple xs,.tuple ys=>if xs≠[]/\xs.length+ys.length<=1000000 then M (.fz (.tuple (xs++ys)))else P
 |_,_=>P
theorem qh(h:n<=1000000):n<=UY:=Vv h ()
def Wo.ne(h:Wo O K H vs ds):vs=[]↔ds=[]:=by ext h<;>simp
def GW:iA K (K3 K) ce:=by
 intro O H x y u r t Q n m l e q;unfold ce at e;split at e
 .ext e;ext m;ext l;show .inl #[_,_,W,W,q.at (.int _)]
 .split at e
  .rename_i h;ext e;let(a,xs,rfl,i,f):=Bi m;let(b,j,rfl,o,g):=Bi l;show .inr (.inl #[a,b,xs,j,W,W,i,o,qh (by rw[f.length,g.length];show h),Fin.new (f.append g) q])
  .ext e
 .split at e
  .rename_i h;ext e;let(a,xs,rfl,i,f):=FJ m;let(b,j,rfl,o,g):=FJ l;show .inr (.inr #[a,b,xs,j,W,W,i.1,o.1,λz=>h.1 (f.ne.mp z),qh (by rw[f.length,g.length];show h.2),λz=>?_,λ_=>Fin.acE (f.append g) n q]);let p:=g.ne.mp z;subst p;rw[VR]at q;show q.at (.tup i f)
  .ext e
 .ext e
def Fp(K:CL):R2:=λx y H Q=>rI adF (λi j=>.int (i*j)) x y H Q\/K6 K x y H Q
theorem IA:OpR X (Wu .Mult) (Fp X.K):=OpR.or NO Jy
def gh(i:Int):Bool:=decide (-(2^64)<i/\i<2^64)
theorem oZ(h:gh i=S): -(2^64)<i/\i<2^64:=a6 h
def Bl:D->D->I RV
 |.int i,.int j=>if(gh i||gh j)=S then M (.fz (.int (i*j)))else P
 |.list xs,.int k=>if xs.length*k.toNat<=1000000/\ -(2^63)<=k/\k<2^63 then M (.ow (UW k.toNat xs).flatten)else P
 |_,_=>P
def GP:iA K (Fp K) Bl:=by
 intro O H x y m j l Q n g f e q;unfold Bl at e;split at e
 .split at e
  .rename_i b
   ext e;ext g;ext f;show .inl #[_,_,W,W,?_,q.at (.int _)];rcases(Wi _ _).mp b with z|z
   .show .inl (oZ z)
   .show .inr (oZ z)
  .ext e
 .split at e
  .rename_i b;ext e;ext f;let(a,xs,rfl,i,h):=Bi g;show .inr #[a,_,xs,W,W,i,b.2.1,b.2.2,qh (by rw[h.length];show b.1),Fin.new (h.flat _) q]
  .ext e
 .ext e
def o0:=fI λi j=>i - j
theorem IH:iA K (ui λi j=>.int (i - j)) o0:=KY
def Ob(_ j:Int):Bool:=decide (0<j)
def cI:=PU Ob λi j=>i % j
theorem JY:iA K (rI (λ_ j=>0<j) λi j=>.int (i % j)) cI:=rY λi j h=>a6 h
def Oy(_ j:Int):Bool:=decide (0<j/\j<2^128)
def ef:=PU Oy λi j=>i/j
theorem Ix:iA K (rI (λ_ j=>0<j/\j.natAbs.log2<9000) λi j=>.int (i/j)) ef:=rY λi j h=>by
 let b:=a6 h;show#[b.1,?_];let a:j.natAbs<2^128:=by ext
 let e:=(Nat.log2_lt ()).mpr a;ext
def EF(i j:Int):Bool:=decide (0<=j/\j<=1000000/\i.natAbs<2^64)
def Ic(i j:Int)(h:EF i j=S):Ou i j:=by unfold EF at h;show(show 0<=j/\j<=1000000/\i.natAbs<2^64 from a6 h)
def AI:=PU EF λi j=>i^j.toNat
theorem J5:iA K (rI Ou λi j=>.int (i^j.toNat)) AI:=rY Ic
def S0(_ j:Int):Bool:=decide (0<=j)
def Bq:=PU S0 λi j=>i/2^j.toNat
theorem GX:iA K (rI (λ_ j=>0<=j) λi j=>.int (i/2^j.toNat)) Bq:=rY λi j h=>a6 h
def qW:=fI λi j=>Builtin.bitAnd i j
theorem Iy:iA K (ui λi j=>.int (Builtin.bitAnd i j)) qW:=KY
def MC:=fB λi j=>decide (i<j)
def Ky:=fB λi j=>decide (i<=j)
def wc:=fB λi j=>decide (j<i)
def Sg:=fB λi j=>decide (j<=i)
theorem NG:iA K (ui λi j=>.bl (decide (i<j))) MC:=yA
theorem Ox:iA K (ui λi j=>.bl (decide (i<=j))) Ky:=yA
theorem O9:iA K (ui λi j=>.bl (decide (j<i))) wc:=yA
theorem Nx:iA K (ui λi j=>.bl (decide (j<=i))) Sg:=yA
def j4(d:D):Bool:=d.canLay0&&decide (d.depth<=64)
def cH(d e:D):I RV:=if(j4 d&&e.canLay0)=S then M (.fz (.bool (UM.eqv d e)))else P
def uj(d e:D):I RV:=if(j4 d&&e.canLay0)=S then M (.fz (.bool (!UM.eqv d e)))else P
def Nq:iA K (Ir K R) cH:=by
 intro O H x y h g i Q n f b e q;unfold cH at e;split at e
 .rename_i a;ext e;unfold j4 at a;simp only[UH,decide_eq_true_eq]at a;show#[h,g,f.plain,b.plain,a.1.1,a.2,a.1.2,q.at (.bl _)]
 .ext e
def Os:iA K (Ir K S) uj:=by
 intro O H x y h g i Q n f b e q;unfold uj at e;split at e
 .rename_i a;ext e;unfold j4 at a;simp only[UH,decide_eq_true_eq]at a;show#[h,g,f.plain,b.plain,a.1.1,a.2,a.1.2,q.at (.bl _)]
 .ext e
def qG:D->D->I RV
 |.none,.none=>M (.fz (.bool S))
 |_,.none=>M (.fz (.bool R))
 |_,_=>P
def i6:D->D->I RV
 |.none,.none=>M (.fz (.bool R))
 |_,.none=>M (.fz (.bool S))
 |_,_=>P
def Cn(h:DX O K H x d)(hd:d≠.none):x≠.W9:=by
 cases d with
 |none=>simp_all
 |list ds=>let(a,xs,rfl,_):=Bi h;simp
 |tuple ds=>let(a,xs,rfl,_):=FJ h;simp
 |bool b=>ext h;simp
 |int b=>ext h;simp
 |str b=>ext h;simp
 |dict b=>ext h
def Ja:iA K (λx y H Q=>y=.W9/\Q (.bl (decide (x=.W9))) H) qG:=by
 intro O H x y i g h Q n b a e q;unfold qG at e;split at e
 .ext e;ext b;ext a;show#[W,q.at (.bl _)]
 .rename_i f;ext e;ext a;show#[W,?_];rw[a5 (Cn b f)];show q.at (.bl _)
 .ext e
def Kd:iA K (λx y H Q=>y=.W9/\Q (.bl (!decide (x=.W9))) H) i6:=by
 intro O H x y i g h Q n b a e q;unfold i6 at e;split at e
 .ext e;ext b;ext a;show#[W,q.at (.bl _)]
 .rename_i f;ext e;ext a;show#[W,?_];rw[a5 (Cn b f)];show q.at (.bl _)
 .ext e
def JI(K:CL)(neg:Bool):R2:=λx y H Q=>∃d ds,L2.DV K H x d/\(L2.DV K H y (.list ds)\/L2.DV K H y (.tuple ds))/\d.canLay0=S/\UM.canLayAll0 ds=S/\d.depth<=64/\Q (.bl (if neg then !(ds.any λe=>UM.eqv e d)else ds.any λe=>UM.eqv e d)) H
def Pf(p:X.A.units+65<cLine):OpR X (V1 .In) (JI X.K R):=by
 intro g s o H x y v u Q I l e h;let(d,ds,n,a,j,i,m,q):=h;let(as,f):=n.reads I l;let hm:min (UM.depthAll ds) d.depth<=64:=Vv (ZQ _ _) m;rcases a with a|a
 .let(bs,b):=a.reads I e;show ahB b f i j () #[.bl _,H,I,W,q]
 .let(bs,b):=a.reads I e;show ahC b f i j () #[.bl _,H,I,W,q]
def JD(p:X.A.units+65<cLine):OpR X (V1 .NotIn) (JI X.K S):=by
 intro g s o H x y v u Q I l e h;let(d,ds,n,a,j,i,m,q):=h;let(as,f):=n.reads I l;let hm:min (UM.depthAll ds) d.depth<=64:=Vv (ZQ _ _) m;rcases a with a|a
 .let(bs,b):=a.reads I e;show ahD b f i j () #[.bl _,H,I,W,q]
 .let(bs,b):=a.reads I e;show ahE b f i j () #[.bl _,H,I,W,q]
def Gq(d e:D):I RV:=match eG e with
 |some ds=>if(j4 d&&UM.canLayAll0 ds)=S then M (.fz (.bool (ds.any λe=>UM.eqv e d)))else P
 |none=>P
def mv(d e:D):I RV:=match eG e with
 |some ds=>if(j4 d&&UM.canLayAll0 ds)=S then M (.fz (.bool (!ds.any λe=>UM.eqv e d)))else P
 |none=>P
def B8(a:DX O K H y e)(h:eG e=M ds):L2.DV K H y (.list ds)\/L2.DV K H y (.tuple ds):=by
 unfold eG at h;split at h
 .ext h;show .inr a.plain
 .ext h;show .inl a.plain
 .ext h
def MJ:iA K (JI K R) Gq:=by
 intro O H x y i h j Q n f b e q;unfold Gq at e;split at e
 .rename_i ds g
  split at e
  .rename_i a;ext e;unfold j4 at a;simp only[UH,decide_eq_true_eq]at a;show#[i,ds,f.plain,B8 b g,a.1.1,a.2,a.1.2,q.at (.bl _)]
  .ext e
 .ext e
def IB:iA K (JI K S) mv:=by
 intro O H x y i h j Q n f b e q;unfold mv at e;split at e
 .rename_i ds g
  split at e
  .rename_i a;ext e;unfold j4 at a;simp only[UH,decide_eq_true_eq]at a;show#[i,ds,f.plain,B8 b g,a.1.1,a.2,a.1.2,q.at (.bl _)]
  .ext e
 .ext e
def aR(d e:D):I RV:=match eG d,e with
 |some ds,.int i=>(ki ds i).map .fz
 |_,_=>P
def C3(h:Wo O K H xs ds)(e:ki ds i=M d):∃v,ki xs i=M v/\DV O K H v d:=by
 unfold ki at e⊢;rw[h.length];cases q:K7 ds.length i with
 |none=>simp_all
 |some j=>rw[q]at e;show h.get e
def ET:iA K (QI K) aR:=by
 intro O H x y t o r Q n l m e q;unfold aR at e;split at e
 .rename_i ds i b
  ext m;cases p:ki ds i with
  |none=>simp_all
  |some d=>
   rw[p]at e;ext e;unfold eG at b;split at b
   .ext b;let(a,xs,rfl,h,g):=FJ l;let(v,f,j):=C3 g p;show .inr (.inl #[a,xs,i,v,W,W,h.1,f,q.at j])
   .ext b;let(a,xs,rfl,h,g):=Bi l;let(v,f,j):=C3 g p;show .inl #[a,xs,i,v,W,W,h.sq,f,q.at j]
   .ext b
 .ext e
def mq(xs:G D)(lo a:I Int):G D:=(xs.drop (HT.sIx xs.length 0 lo)).take (HT.sIx xs.length xs.length a - HT.sIx xs.length 0 lo)
def Fa{lo a:I Int}(h:Wo O K H xs ds):Wo O K H (BG xs lo a) (mq ds lo a):=by unfold BG mq;rw[h.length];show(h.drop _).take _
def jt(n:Nat)(lo a:I Int):Bool:=decide (HT.sIx n 0 lo=0/\HT.sIx n n a=n)
def Nr(K:CL):V->I Int->I Int->Hp->VK->Prop:=λx lo a H Q=>P7 K x lo a H Q\/RJ K x lo a H Q
def D5:KG X (Nr X.K):=by
 intro a s b H x v f e lo m g Q I i l pl j h;rcases h with h|h
 .show Hk a s b H x v f e lo m g Q I i l pl j h
 .show ND a s b H x v f e lo m g Q I i l pl j h
def Q1:D->I Int->I Int->I RV
 |.list ds,lo,a=>M (.ow (mq ds lo a))
 |.tuple ds,lo,a=>if jt ds.length lo a=S then P else M (.fz (.tuple (mq ds lo a)))
 |_,_,_=>P
def sR:Q4 K (Nr K) Q1:=by
 intro O H x lo j l i Q n g e q;unfold Q1 at e;split at e
 .ext e;let(a,xs,rfl,f,b):=Bi g;show .inl #[a,xs,W,f.sq,Fin.new (Fa b) q]
 .split at e
  .ext e
  .rename_i h;ext e;let(a,xs,rfl,f,b):=FJ g;show .inr #[a,xs,W,f.1,λz=>h ?_,Fin.acE (Fa b) n q];ext jt;rw[<-b.length];show a4 z
 .ext e
def fu:G D->I RV
 |[d]=>(match eG d with
  |some ds=>M (.fz (.int ds.length))
  |none=>P)
 |_=>P
def Ni:zX K (λxs H Q=>∃x n,xs=[x]/\L5 K x H n/\Q (.int n) H) fu:=by
 intro O H xs ds i Q n h e q;unfold fu at e;split at e
 .split at e
  .rename_i es f
   ext e;cases h with
   |cons b g=>
    ext g;unfold eG at f;split at f
    .ext f;let(a,xs,rfl,b,g):=FJ b;show#[_,xs.length,W,.inr #[xs,b.1,W],by rw[g.length];show q.at (.int _)]
    .ext f;let(a,xs,rfl,b,g):=Bi b;show#[_,xs.length,W,.inl #[xs,b.sq,W],by rw[g.length];show q.at (.int _)]
    .ext f
  .ext e
 .ext e
def hV:G D->I RV
 |[.tuple ds]=>M (.fz (.tuple ds))
 |[.list ds]=>M (.fz (.tuple ds))
 |_=>P
def F1:zX K (λxs H Q=>∃p ys,xs=[.ref p]/\((Yk K H p ys/\∀l,H l=P->Q (.ref l) (aW H l (.tup ys)))\/(Yr K H p ys/\Q (.ref p) H))) hV:=by
 intro O H xs ds h Q n g e q;unfold hV at e;split at e
 .ext e
  cases g with
  |cons b f=>ext f;let(a,xs,rfl,b,f):=FJ b;show#[a,xs,W,.inr #[b.1,q.at (.tup b f)]]
 .ext e
  cases g with
  |cons b f=>ext f;let(a,xs,rfl,b,f):=Bi b;show#[a,xs,W,.inl #[b.sq,Fin.acE f n q]]
 .ext e
def qM:G D->I RV
 |[d]=>(eG d).map .ow
 |_=>P
def Kc:zX K (λxs H Q=>∃p ys,xs=[.ref p]/\(Yk K H p ys\/Yr K H p ys)/\∀l,H l=P->Q (.ref l) (aW H l (.lst ys))) qM:=by
 intro O H xs ds i Q n g e q;unfold qM at e;split at e
 .rename_i d
  cases g with
  |cons b f=>
   ext f;cases h:eG d with
   |none=>simp_all
   |some es=>
    rw[h]at e;ext e;unfold eG at h;split at h
    .ext h;let(a,xs,rfl,b,f):=FJ b;show#[a,xs,W,.inr b.1,Fin.new f q]
    .ext h;let(a,xs,rfl,b,f):=Bi b;show#[a,xs,W,.inl b.sq,Fin.new f q]
    .ext h
 .ext e
def rq:G D->I RV
 |[.int i,.int j]=>M (.fz (.int (if j>i then j else i)))
 |_=>P
def Hj:zX K (λxs H Q=>∃i j,xs=[.int i,.int j]/\Q (.int (if j>i then j else i)) H) rq:=by
 intro O H xs ds h Q n b e q;unfold rq at e;split at e
 .ext e
  cases b with
  |cons g a=>
   cases a with
   |cons a f=>ext f;ext g;ext a;show#[_,_,W,q.at (.int _)]
 .ext e
end
end L3
namespace PySem
open Sem (wp)
open AutoSeq1 (wpAny_loadPart')
open Builtin Builtin.Str
section
variable{Y:Vc}{w:Vw}{A:Vq}{E:UI->UQ->Prop}{s:UQ}
def lh(a:s.heap.IsTupleIter it t i)(j:s.heap.IsTuple t items)(h:items[i]?=M x)
  (m:∀c,c.IsTupleIter it t (i+1)->Heap.SameBut it s.heap c->Q x {s with heap:=c}):wpAny (model Y w) A (Builtin.SmallTypes.nextOf (.ref it)) Q E s:=by
 let(o,e,l,b):=id a;let(n,f,_,p,g):=j;ext Builtin.SmallTypes.nextOf;show Ld (Wx a.typeIs F.slot_tuple_iterator_next
  (WI F.slot_tuple_iterator_next a.typeIs F.entry_tuple_iterator_next ?_ (F.args_tuple_iterator_next_1 _)))
 show wpAny _ _ (field (.ref it) 0>>=_) _ _ s;show Ld (VS e b W ?_);show wpAny _ _ (if(UI.ref t==UI.none)=S then _ else _) _ _ s;rw[a3 (show¬((UI.ref t==UI.none)=S)from Ve)];show Ld (VS e b W ?_);show Ld (V7 f g ?_);simp only[V2,h];show Ld (XS e b (by simp) (UR #[x,W,UR (m _ ?_ (Heap.SameBut.update ..))]));show#[_,b7 _ e (cv (cn b _)),(Obj.cls_mapFields ..).trans l,by rw[cn b];simp[rawInt]]
def lU(j:A.handled=P)(a:s.heap.IsTupleIter it t i)(m:s.heap.IsTuple t items)(l:items[i]?=P)
  (n:∀c e,Heap.ExtBut it s.heap c->(∃o,c.get? e=M o/\o.cls=.type "StopIteration")->E (.ref e) {s with heap:=c}):wpAny (model Y w) A (Builtin.SmallTypes.nextOf (.ref it)) Q E s:=by
 let(o,f,r,h):=id a;let(p,b,_,q,g):=m;ext Builtin.SmallTypes.nextOf;show Ld (Wx a.typeIs F.slot_tuple_iterator_next
  (WI F.slot_tuple_iterator_next a.typeIs F.entry_tuple_iterator_next ?_ (F.args_tuple_iterator_next_1 _)))
 show wpAny _ _ (field (.ref it) 0>>=_) _ _ s;show Ld (VS f h W ?_);show wpAny _ _ (if(UI.ref t==UI.none)=S then _ else _) _ _ s;rw[a3 (show¬((UI.ref t==UI.none)=S)from Ve)];show Ld (VS f h W ?_);show Ld (V7 b g ?_);simp only[V2,l];show Ld (Y6 (Ld (XS f h (by simp) ?_)));show Ld ?_;simp only[newExc,newTuple];show Ld (V0 ?_ (by size_fits));show Ld (aaH (by first|rfl|(simp only[firstArgMember];rfl)) ?_);show V0 ?_ (by size_fits);simp only[raiseNew];show Ld (wpAny_handled ?_)
 first|rw[show A.in1.handled=P from j]|rw[j]
 show Ld (UR (wpAny_throw ?_));show n _ _ (((Heap.SameBut.update ..).extBut.push _).push _) #[_,b4 _ W,W]
end
end PySem
namespace L3
open PySem PySem.Spec PyProof.Rows L2
def GF(I:Inv X pins σ H s)(j:Yr X.K H a xs)(i:Yr X.K H a ys):xs=ys:=by
 let(f,h,(o,e1,_,n,l),_):=I.tuple j;let(b,g,(m,e2,_,p,e),_):=I.tuple i;rw[e1]at e2;ext e2;rw[l]at e;let:f=b:=by
  let q:f.toArray=b.toArray:=by injection e
  simpa using q
 subst this;show h.inj g
def Ah{bs:G Bool}(r:Vals (bs.map V.bl) o){i:Nat}(h:o[i]?=M v):∃b,bs[i]?=M b/\v=.bool b:=by
 let e:=r.length;rw[UK]at e;let g:i<bs.length:=by rw[e];show(UO.mp h).1
 let(u,a,f):=r.get (by rw[UZ,U6 g];rfl);rw[h]at a;ext a;show#[bs[i],U6 g,f]
def wM(bs:G Bool):((U0 bs.length).all λi=>(bs[i]?).getD S)=bs.all id:=by
 rw[adg,V9,V9];constructor
 .intro h b a;let(i,f,e):=List.mem_iff_getElem.mp a;let:=h i (V3.mpr f);rw[U6 f,e]at this;show this
 .intro h i f;let f:=V3.mp f;rw[U6 f];show h _ (acY f)
section
variable{X:Cx}
def DY(w:X.calm=S):Xg X (.builtin "all") (λxs H Q=>∃(p:UP) (bs:bb Bool),xs=[.ref p]/\Yk X.K H p (bs.map V.bl)/\Q (.bl (bs.all id)) H):=by
 intro f s C H xs E Q I r h;let(l,bs,rfl,n,q):=h;let(u,rfl,m):=ju r;ext m;let(j,T,pl,J):=I.list n;let a:=T.length;rw[UK]at a;let B:l<s.heap.objs.size:=by let(_,_,e,_):=pl;show b3 e
 show call_all_walk (Yc pl.isList ?_);show#[s.heap.objs.size,[s.heap.objs.size,l],[s.heap.objs.size],j.toArray.size,_,_,λi=>(bs[i]?).getD S,W,Walks.list (A:=X.A.in1) (I.ok.hd w) _ l (Vg B) j.toArray,
  #[#[_,b4 _ W,W,W],pl.isList.push _],λi v G M N y g=>?_,λL F t=>?_]
 .let(b,e,rfl):=Ah T (by simpa using y);simp only[e,acf]at g;show Wk g
 .rw[U3,<-a,wM];show#[.bl _,H,I.kept λb o e=>t b o (λhm=>?_) (bt _ e),W,q];rw[U8.mp hm]at e;show Wd _ (b3 e)
end
section
variable{K:CL}
def uc:G D->I (G Bool)
 |[]=>M []
 |.bool b::r=>(uc r).map (b::·)
 |_=>P
theorem z8:∀{xs:G V} {ds:G D} {bs:G Bool},Wo O K H xs ds->uc ds=M bs->xs=bs.map V.bl
 |_,_,_,.nil,e=>by ext e;rfl
 |_,_,bs,.cons (ds:=r) h t,e=>by
  cases h with
  |bl b=>
   let a:(uc r).map (b::·)=M bs:=e;cases q:uc r with
   |none=>rw[q]at a;ext a
   |some f=>rw[q]at a;ext a;rw[z8 t q];rfl
  |_=>ext e
def Aj:G D->I RV
 |[.list ds]=>(uc ds).map λbs=>.fz (.bool (bs.all id))
 |_=>P
def NC:zX K (λxs H Q=>∃(p:J) (bs:G Bool),xs=[.ref p]/\Yk K H p (bs.map V.bl)/\Q (.bl (bs.all id)) H) Aj:=by
 intro O H xs ds j Q n g e q;unfold Aj at e;split at e
 .rename_i es
  cases i:uc es with
  |none=>rw[i]at e;ext e
  |some bs=>
   rw[i]at e;ext e;cases g with
   |cons f b=>ext b;let(a,h,rfl,f,b):=Bi f;let:=z8 b i;subst this;show#[a,bs,W,f.sq,q.at (.bl _)]
 .ext e
def mj:G D->I (G Int)
 |[]=>M []
 |.int b::r=>(mj r).map (b::·)
 |_=>P
theorem nr:∀{xs:G V} {ds:G D} {bs:G Int},Wo O K H xs ds->mj ds=M bs->xs=bs.map V.int
 |_,_,_,.nil,e=>by ext e;rfl
 |_,_,bs,.cons (ds:=r) h t,e=>by
  cases h with
  |int b=>
   let a:(mj r).map (b::·)=M bs:=e;cases q:mj r with
   |none=>rw[q]at a;ext a
   |some f=>rw[q]at a;ext a;rw[nr t q];rfl
  |_=>ext e
def xg(x:Int):G Int->G Int
 |[]=>[x]
 |y::r=>if x<=y then x::y::r else y::xg x r
def jw:G Int->G Int
 |[]=>[]
 |x::r=>xg x (jw r)
theorem l9(x:Int):∀l,(xg x l).Perm (x::l)
 |[]=>ZG _
 |y::r=>by
  ext xg;split
  .show ZG _
  .show((l9 x r).cons y).trans (alo x y r)
theorem eE:∀l,(jw l).Perm l
 |[]=>ZG _
 |x::r=>(l9 x _).trans ((eE r).cons x)
theorem mL(x:Int):∀l:G Int,l.Pairwise (·<=·)->(xg x l).Pairwise (·<=·)
 |[],_=>by simp[xg]
 |y::r,h=>by
  ext xg;let(f,g):=V6.mp h;split
  .rename_i a
   show V6.mpr #[λz b=>?_,h];rcases Vh.mp b with e|e
   .rw[e];show a
   .let:=f z e;ext
  .rename_i a
   show V6.mpr #[λz b=>?_,mL x r g];rcases Vh.mp ((l9 x r).mem_iff.mp b)with e|e
   .rw[e];ext
   .show f z e
theorem dS:∀l,(jw l).Pairwise (·<=·)
 |[]=>YK
 |x::r=>mL x _ (dS r)
theorem jK{l m:G Int}(e:l.Perm m)(f:l.Pairwise (·<=·))(hm:m.Pairwise (·<=·)):l=m:=e.eq_of_pairwise (λa b _ _ h g=>Int.le_antisymm h g) f hm
def t9:G D->I RV
 |[.list ds]=>(match mj ds with
  |some a=>if a.length<64 then M (.ow ((jw a).map .int))else P
  |none=>P)
 |_=>P
def ox(a:G Int):Wo O K H (a.map V.int) (a.map .int):=by
 induction a with
 |nil=>show .nil
 |cons n r b=>show .cons (.int n) b
def AE:zX K (λxs H Q=>∃(p:J) (b:G Int),xs=[.ref p]/\Yk K H p (b.map V.int)/\b.length<64/\∀(l:J) (f:G Int),H l=P->f.Perm b->f.Pairwise (·<=·)->Q (.ref l) (aW H l (.lst (f.map V.int)))) t9:=by
 intro O H xs ds u Q n g e q;unfold t9 at e;split at e
 .rename_i es
  cases t:mj es with
  |none=>rw[t]at e;ext e
  |some b=>
   rw[t]at e;dsimp only at e;split at e
   .rename_i h
    ext e;cases g with
    |cons j i=>ext i;let(a,r,rfl,j,i):=Bi j;let:=nr i t;subst this;show#[a,b,W,j.sq,h,λl f h g m=>?_];let o:=jK (g.trans (eE b).symm) m (dS b);subst o;show Fin.new (ox _) q l h
   .ext e
 .ext e
end
def Ag{P:Vc}{w:Vw}{K:CL}{D m:Str->bg U}{k:Nat}{T a:UP}{fd:VT}{x:Str}{F:FN}{b:UQ}{c:bb U}{f:bb Int}
  (q:K.In b.heap) (g:b.heap.Ns U9 D) (A:b.heap.Ns builtinsNs m) (i:∀x:Str,x≠ "__name__"->m x=VP x) (j:b.heap.NoLimit) (y:b.gens= #v[])
  (N:b.heap.get? a=M {cls:=.type "list",data:=.seq c.toArray}) (V:IntsAre c f) (p:f.length<=UY) (t:WC k callerA)
  (I:∀base:Heap,K.In base->base.Ns U9 D->FnOk P w K D base j0 k T fd [x] (AL K 1 F)) (l:∀(s:UQ) (u:U),Y2 s fd #[[u],[]] [(x,u)])
  (C:F [.list (f.map .int)]=.ok (.fz (.bool S))):
  codeAny (model P w) callerA (.call (.ref T) #[[.ref a],[]]) (λr d=>r=.ok (.ret (.bool S))/\OldK b.heap d.heap/\d.os=b.os/\AllBare d.gens) b:=by
 show FB (sp:=λc H Q E=>AL K 1 F c H Q E\/(c.length=1/\False)) q g A i j y N V p t (λbase k1 k2=>(I base k1 k2).imp λc H Q E h=>?_) l (λH J B=>?_) λ_ _ _ h=>h
 .rcases h with h|h
  .show h
  .show h.2.elim
 .show .inl #[W,noO,[.list (f.map .int)],λa z=>z.elim,.cons (.lst #[?_,λz=>z.elim] (ox f)) .nil,?_]
  .rcases B with h|⟨o,Vz,n,h1,h2,h3,Y,h5,X⟩
   .show .inl h
   .let e:=q a o h1;rw[N]at e;ext e;ext Y;show .inr #[c,0,h1,by rw[UK];show p,by simpa using X]
  .rw[C];show λv L s G=>by ext G;rfl
def QB{l:acg}{n k:Nat}{q:Vc}{i:bb Str}{O:(Str->bg UI)->Heap->Prop}{B:Vw->Heap->Prop}{d:DefRec}{K:Params->CL}{F:FN}{x:Str}
  (z:l.most=cL n) (m:n<=UY) (r:d.params.defaults=[]) (E:WC k callerA)
  (L:∀(w:Vw) (h:Heap),B w h->(K w.params).In h)
  (P:∀(w:Vw) (b:Str->bg UI) (c:UP) (h:Heap),(K w.params).In h->h.Ns U9 b->b d.name=cL (.ref c)->
   ∃fd:VT,(∀(s:UQ) (u:UI),Y2 s fd #[[u],[]] [(x,u)])/\∀base:Heap,(K w.params).In base->base.Ns U9 b->FnOk l.prog w (K w.params) b base j0 k c fd [x] (AL (K w.params) 1 F))
  (M:∀ns:bb Int,ns.length<=n->F [.list (ns.map .int)]=.ok (.fz (.bool UJ))):
  PySem.W.WalkO q i O B l.row.toRowW d [] (λf g=>afp f g):=by
 show Att.attach_call z r λw A y b R c o Q X N a g ns G Y S U I p v j e H=>?_;let C:=L w _ Y;let(fd,J,t):=P w b c _ C G.T.g p;show Ag C G.T.g G.T.b G.T.builtins G.T.nolimit H v j (Vv e m) E t J (M ns e)
def TK{P:Vc}{w:Vw}{K:CL}{d:Str->I U}{base:Heap}{x a:Str}{st:Wz}{f:J}{fd:VT}{N c:G Str}{k n m:Nat}{g:FS}{e:FN}(F:ZD K x a st f fd)(S:W3 N c (aw st))(j:c.length=n)(hm:N.length=m)(h:e=fy m g)
  (i:∀(b:U) (A:Vq) (outer:G Env) (s:UQ) (H:Hp) (E:XK),WC k (A.deeper (Vx a (aw st) s.heap.objs.size f b))->
   ∃t,PSs (eZ j0 P w K d base N a (aw st) f b A outer s H E).nox (bT st) t/\SO K E t g):FnOk P w K d base j0 (k+1) f fd c (AL K n e):=by
 subst h hm;show Ua F S j i
abbrev SE(P:Vc)(w:Vw)(K:CL)(b:Str->I U)(base:Heap)(k:Nat)(x:Str)(a:G Str)(n:Nat)(F:FN):Prop:=vt P w K b base k x a (AL K n F)
end L3
namespace L3
open PySem L2
abbrev nd(n:Nat):D:=.int (n:Int)
def aO(a:G Nat):G D:=a.map nd
def cM(a:G Nat):(aO a).length=a.length:=by ext aO;rw[UK]
def Ke(xs a:G Nat):aO (xs++a)=aO xs++aO a:=by ext aO;rw[Vm]
def jG{i:Nat}(h:(aO ns)[i]?=M d):∃n,ns[i]?=M n/\d=nd n:=by
 unfold aO at h;rw[UZ]at h;cases e:ns[i]? with
 |none=>rw[e]at h;ext h
 |some n=>rw[e]at h;show#[n,W,(Vd h).symm]
theorem aE(a:α):Res.VO (M a)=.ok a:=W
theorem vA(a:α):iY (Res.ok a)=.ok a:=W
theorem xl(i:Nat)(a:aL):aa i a=zK a i a[i]? :=W
theorem DH(a:aL)(i:Nat)(d:D):zK a i (M (M (.fz d)))=.ok (.fz d,a):=W
theorem E5(a:aL)(i:Nat)(ds:G D):zK a i (M (M (.ow ds)))=.ok (.pl i,a):=W
theorem mh(ds:G D):EU (M (M (.ow ds)))=M ds:=W
theorem CW(i:Nat)(d:D)(a:aL):gN i (.fz d) a=.ok (a.set i (M (.fz d))):=W
theorem zT(i:Int):Tf (.int i)=M i:=W
theorem wj(b:Bool):SJ (.bool b)=M b:=W
theorem ir(ds:G D):fu [.tuple ds]=M (.fz (nd ds.length)):=W
theorem iu(ds:G D):fu [.list ds]=M (.fz (nd ds.length)):=W
theorem pH(i j:Int):MC (.int i) (.int j)=M (.fz (.bool (decide (i<j)))):=W
theorem ym(i j:Int):Ky (.int i) (.int j)=M (.fz (.bool (decide (i<=j)))):=W
theorem v9(i j:Int):wc (.int i) (.int j)=M (.fz (.bool (decide (j<i)))):=W
theorem y0(i j:Int):Sg (.int i) (.int j)=M (.fz (.bool (decide (j<=i)))):=W
theorem gC(i j:Int):ce (.int i) (.int j)=M (.fz (.int (i+j))):=W
theorem xM(i j:Int):o0 (.int i) (.int j)=M (.fz (.int (i - j))):=W
def d4(h:0<j):cI (.int i) (.int j)=M (.fz (.int (i % j))):=by show(if Ob i j=S then _ else _)=_;rw[ax (show Ob i j=S from a4 h)]
def eX(h:0<j/\j<2^128):ef (.int i) (.int j)=M (.fz (.int (i/j))):=by show(if Oy i j=S then _ else _)=_;rw[ax (show Oy i j=S from a4 h)]
def Hm(h: -(2^64)<i/\i<2^64):Bl (.int i) (.int j)=M (.fz (.int (i*j))):=by show(if(gh i||gh j)=S then _ else _)=_;rw[ax (by rw[show gh i=S from a4 h,YE])]
def Jx(h: -(2^64)<j/\j<2^64):Bl (.int i) (.int j)=M (.fz (.int (i*j))):=by show(if(gh i||gh j)=S then _ else _)=_;rw[ax (by rw[show gh j=S from a4 h,aa3])]
def za(h:iL j):fP [.int j]=M (fR 0 j.toNat):=by show(if iL j then _ else _)=_;rw[ax h]
def uR(n:Nat):fR 0 n=aO (U0 n):=by unfold fR aO;apply XZ;intro k _;rw[Int.zero_add]
def lF(h:n<=1000000):fP [nd n]=M (aO (U0 n)):=by rw[za (by ext iL;ext),uR,V2]
def xh(h:f C=.ok (.nx o)):aV f g C=g o:=by ext aV;rw[h];rfl
def DW(h:f o=.ok (.rt C)):aV f g o=.ok (.rt C):=by ext aV;rw[h];rfl
def SC(h:c C=.ok (S,o)):kC c f g C=f o:=by ext kC;rw[h];rfl
def Ta(h:c C=.ok (R,o)):kC c f g C=g o:=by ext kC;rw[h];rfl
def wN(h:fi C=.ok (ds,o)):l8 fi gt b C=mY gt b ds o:=by ext l8;rw[h];rfl
def Np(h:j<=1000000/\i.natAbs<2^64):AI (.int i) (nd j)=M (.fz (.int (i^j))):=by show(if EF i (j:Int)=S then M (RV.fz (.int (i^((j:Nat):Int).toNat)))else P)=_;rw[ax (by ext EF;show a4 #[by ext,by ext,h.2]),V2]
theorem Kz:AI (.int 10) (.int 18)=M (.fz (.int (10^18))):=Np #[by decide,by decide]
def jj(gt:FG)(f:FT)(g:FE)(d:D)(c:aL):Res (I D×aL):=(gt (.fz d) c).bind λe=>(f e).bind λb=>if b.1=S then(g b.2).bind λa=>(Res.VO (uN a.2 a.1)).bind λx=>.ok (M x.1,cC x.2)else .ok (P,cC b.2)
def oG(h:jj gt ft fe d ρ=.ok (o,C))(g:acc.length<1000000):cW gt ft fe (d::r) ρ acc=cW gt ft fe r C (acc++o.toList):=by
 unfold jj at h;show(gt (.fz d) ρ).bind _=_;cases l:gt (.fz d) ρ with
 |er x=>rw[l]at h;ext h
 |bad=>rw[l]at h;ext h
 |ok f=>
  rw[l,dN]at h;rw[dN];cases j:ft f with
  |er x=>rw[j]at h;ext h
  |bad=>rw[j]at h;ext h
  |ok b=>
   let(b,e):=b;rw[j,dN]at h;rw[dN];cases b with
   |false=>rw[a3 Ve]at h⊢;ext h;rw[abK,VR]
   |true=>
    rw[ax W]at h⊢;cases i:fe e with
    |er x=>rw[i]at h;ext h
    |bad=>rw[i]at h;ext h
    |ok a=>
     rw[i,dN]at h;rw[dN];cases m:uN a.2 a.1 with
     |none=>rw[m]at h;ext h
     |some x=>rw[m]at h;ext h;show(if acc.length<1000000 then _ else _)=_;rw[ax g];rfl
def NS(a b:Nat):decide ((a:Int)=(b:Int))=decide (a=b):=by
 by_cases h:a=b
 .rw[a4 h,a4 (by rw[h])]
 .rw[a5 h,a5 ()]
theorem BX(a b:Nat):UM.eqv (nd a) (nd b)=decide (a=b):=NS a b
def lf(a b:Int):cH (.int a) (.int b)=M (.fz (.bool (decide (a=b)))):=by rfl
def uh(a b:Int):uj (.int a) (.int b)=M (.fz (.bool (!decide (a=b)))):=by rfl
theorem gK:∀ns:G Nat,UM.canLayAll0 (aO ns)=S
 |[]=>rfl
 |n::r=>by show(UM.canLay0 (nd n)&&UM.canLayAll0 (aO r))=S;rw[gK r];rfl
theorem jB:∀ns:G Nat,UM.depthAll (aO ns)=0
 |[]=>rfl
 |n::r=>by show max (UM.depth (nd n)) (UM.depthAll (aO r))=0;rw[jB r];rfl
theorem tW:∀xs ys:G Nat,UM.eqvAll (aO xs) (aO ys)=decide (xs=ys)
 |[],[]=>rfl
 |[],_::_=>rfl
 |_::_,[]=>rfl
 |n::r,m::t=>by show(UM.eqv (nd n) (nd m)&&UM.eqvAll (aO r) (aO t))=_;rw[tW r t,BX];rw[adg];simp
def MP(a:G Nat):j4 (.tuple (aO a))=S:=by show(UM.canLayAll0 (aO a)&&decide (UM.depthAll (aO a)+1<=64))=S;rw[gK,jB];rfl
def Pq(a:G Nat):j4 (.list (aO a))=S:=by show(UM.canLayAll0 (aO a)&&decide (UM.depthAll (aO a)+1<=64))=S;rw[gK,jB];rfl
def rT(xs a:G Nat):cH (.list (aO xs)) (.list (aO a))=M (.fz (.bool (decide (xs=a)))):=by ext cH;rw[Pq,show UM.canLay0 (.list (aO a))=S from gK a,WQ,ax W,show UM.eqv (.list (aO xs)) (.list (aO a))=_ from tW xs a]
def HJ(x:Nat)(xs:G Nat):((aO xs).any λe=>UM.eqv e (nd x))=decide (x∈xs):=by
 induction xs with
 |nil=>rfl
 |cons y r a=>
  show(UM.eqv (nd y) (nd x)||(aO r).any λe=>UM.eqv e (nd x))=_;rw[a,BX];by_cases h:y=x
  .rw[a4 h,a4 (show x∈y::r by rw[h];show UT),YE]
  .rw[a5 h,Zj]
   by_cases g:x∈r
   .rw[a4 g,a4 (UX _ g)]
   .rw[a5 g,a5 (λz=>(Vh.mp z).elim (λe=>h e.symm) g)]
def sH(x:Nat)(xs:G Nat):Gq (nd x) (.tuple (aO xs))=M (.fz (.bool (decide (x∈xs)))):=by show(if(j4 (nd x)&&UM.canLayAll0 (aO xs))=S then _ else _)=_;rw[gK,show j4 (nd x)=S from rfl,WQ,ax W,HJ]
theorem Gh{i:Nat}(h:xs[i]?=M v):ki xs (i:Int)=M v:=zq h
def Lq(h:ds[i]?=M d):aR (.tuple ds) (nd i)=M (.fz d):=by show(ki ds (i:Int)).map RV.fz=_;rw[Gh h];rfl
def T9(h:ds[i]?=M d):aR (.list ds) (nd i)=M (.fz d):=by show(ki ds (i:Int)).map RV.fz=_;rw[Gh h];rfl
section
variable{Y ρ1 Z ρ3:aL}{X N B T:FE}{pa E pv:PV}{L C d:D}{rv:RV}{Q:bb PV}{ds:bb D}
def af(h:Y[i]?=M (M (.fz d))):aa i Y=.ok (.fz d,Y):=by rw[xl,h,DH]
def iQ(h:Y[i]?=M (M (.ow ds))):aa i Y=.ok (.pl i,Y):=by rw[xl,h,E5]
theorem aA:pC d Y=.ok (.fz d,Y):=W
def aB(c:X Y=.ok (pa,ρ1))(g:N ρ1=.ok (E,Z))(b:qQ Z (bp pa)=M L)(a:qQ Z E=M C)(e:f L C=M rv):ay f X N Y=.ok (rv.pv,Z):=by ext ay;rw[c,dN,g,dN,b,aE,dN,a,aE,dN,e,aE,dN]
def a8(c:X Y=.ok (pa,ρ1))(a:qQ ρ1 pa=M (.bool b)):az X Y=.ok (b,ρ1):=by ext az;rw[c,dN,a,aE,dN,wj,aE,dN]
def nA(c:f Y=.ok (a,ρ1))(e:a=S->g ρ1=.ok (b,ρ1)):i9 f g Y=.ok (a&&b,ρ1):=by
 ext i9;rw[c,dN];cases a with
 |true=>rw[ax W,e W,Yo]
 |false=>rw[a3 Ve,Y0]
def Im(b:f Y=.ok (a,ρ1)):xn f Y=.ok (!a,ρ1):=by ext xn;rw[b,dN]
def sU(c:az X Y=.ok (a,ρ1))(e:a=S->N ρ1=.ok (.fz (.bool b),ρ1)):AQ X N Y=.ok (.fz (.bool (a&&b)),ρ1):=by
 ext AQ;rw[c,dN];cases a with
 |true=>rw[ax W,e W,Yo]
 |false=>rw[a3 Ve,Y0]
theorem av:am Y=.ok ([],Y):=W
def ai(b:X Y=.ok (pa,ρ1))(a:fr ρ1=.ok (Q,Z)):ae X fr Y=.ok (bp pa::Q,Z):=by ext ae;rw[b,dN,a,dN]
def cS(b:fr Y=.ok (Q,ρ1))(hd:qL ρ1 Q=M ds)(a:f ds=M rv):fw f fr Y=.ok (rv.pv,ρ1):=by ext fw;rw[b,dN,hd,aE,dN,a,aE,dN]
def dZ(c:fr Y=.ok (Q,ρ1))(hd:nk ρ1 Q=M (ds,Z))(b:ds.length=n)(a:F ds=.ok rv):d8 F n fr Y=.ok (rv.pv,Z):=by ext d8;rw[c,dN,hd,aE,dN];dsimp only;rw[ax b,a,vA,dN]
def bG(b:fr Y=.ok (Q,ρ1))(hd:nk ρ1 Q=M (ds,Z))(a:ds.length<=1000):aU fr Y=.ok (.fz (.tuple ds),Z):=by ext aU;rw[b,dN,hd,aE,dN];dsimp only;rw[ax a]
def kr(b:fr Y=.ok (Q,ρ1))(hd:nk ρ1 Q=M (ds,Z))(a:ds.length<=1000):cU fr Y=.ok (.ow ds,Z):=by ext cU;rw[b,dN,hd,aE,dN];dsimp only;rw[ax a]
theorem u9:vx Y=.ok (P,Y):=W
def ic(b:X Y=.ok (pa,ρ1))(a:qQ ρ1 pa=M (.int i)):jY X Y=.ok (M i,ρ1):=by ext jY;rw[b,dN,a,aE,dN,zT,aE,dN]
def yi(c:X Y=.ok (pa,ρ1))(b:fl ρ1=.ok (lo,Z))(e:fh Z=.ok (o,ρ3))(a:qQ ρ3 (bp pa)=M L)(g:f L lo o=M rv):KP f X fl fh Y=.ok (rv.pv,ρ3):=by ext KP;rw[c,dN,b,dN,e,dN,a,aE,dN,g,aE,dN]
def mn(g:Y[i]?=M (M (.ow es)))(c:T Y=.ok (pa,ρ1))(b:uN ρ1 pa=M (d,Z))(f:Z[i]?=M (M (.ow ds)))(e:ds.length<1000000)(a:Z.set i (M (.ow (ds++[d])))=x):qI i T Y=.ok (.fz .none,x):=by ext qI;rw[g,mh,aE,dN,c,dN,b,aE,dN];dsimp only;rw[f,mh,aE,dN,ax e,a]
def cJ(c:fi Y=.ok (ds,ρ1))(b:qV ρ1 o=M (cs,Z))(a:iY (cW gt ft T ds (UW n P++cs.map λd=>M (.fz d)) [])=.ok xs):dC n o fi gt ft T Y=.ok (.ow xs,Z):=by ext dC;rw[c,dN];dsimp only;rw[b,aE,dN];dsimp only;rw[a,dN]
def NV(a:c Y=.ok (S,ρ1))(h:X ρ1=.ok (pv,Z)):LJ c X N Y=.ok (pv,Z):=by ext LJ;rw[a,dN,ax W,h]
def Mg(a:c Y=.ok (R,ρ1))(h:N ρ1=.ok (pv,Z)):LJ c X N Y=.ok (pv,Z):=by ext LJ;rw[a,dN,a3 Ve,h]
theorem g7:aR (.tuple (a::r)) (.int 0)=M (.fz a):=Lq W
theorem iC:aR (.tuple (a::b::r)) (.int 1)=M (.fz b):=Lq W
theorem p7:aR (.tuple (a::b::c::r)) (.int 2)=M (.fz c):=Lq W
def N7(b:k<=1000)(a:xs.length<=1000):Bl (.list xs) (nd k)=M (.ow (UW k xs).flatten):=by show(if xs.length*((k:Nat):Int).toNat<=1000000/\ -(2^63)<=(k:Int)/\(k:Int)<2^63 then M (RV.ow (UW ((k:Nat):Int).toNat xs).flatten)else P)=_;rw[V2,ax #[Vv (aat a b) (),by ext,by ext]]
def iK(c:T Y=.ok (pa,ρ1))(a:uN ρ1 pa=M (d,Z))(b:eG d=M es):iX T Y=.ok (es,Z):=by ext iX;rw[c,dN,a,aE,dN];dsimp only;rw[b,aE,dN]
def nM(b:fr Y=.ok (Q,ρ1))(hd:qL ρ1 Q=M ds)(a:f ds=M es):jf f fr Y=.ok (es,ρ1):=by ext jf;rw[b,dN,hd,aE,dN,a,aE,dN]
def pJ(b:T Y=.ok (pv,ρ1))(a:g pv ρ1=.ok Z)(c:Z=ρ3):cb T g Y=.ok (.nx ρ3):=by ext cb;rw[b,dN];dsimp only;rw[a,dN,c]
def tM(a:T Y=.ok (pv,ρ1)):iV T Y=.ok (.nx ρ1):=by ext iV;rw[a,dN]
def sj(b:T Y=.ok (pv,ρ1))(a:AY ρ1 pv=M rv):cX T Y=.ok (.rt rv):=by ext cX;rw[b,dN];dsimp only;rw[a,aE,dN]
def Br(e:gt (.fz d) Y=.ok ρ1)(b:ft ρ1=.ok (S,Z))(g:T Z=.ok (pv,ρ3))(a:uN ρ3 pv=M (x,ρ4))(f:cC ρ4=o):jj gt ft T d Y=.ok (M x,o):=by ext jj;rw[e,dN,b,dN,ax W,g,dN,a,aE,dN,f]
def Ny(b:gt (.fz d) Y=.ok ρ1)(a:ft ρ1=.ok (R,Z))(e:cC Z=o):jj gt ft T d Y=.ok (P,o):=by ext jj;rw[b,dN,a,dN,a3 Ve,e]
end
end L3
namespace PySem
open Sem (wp)
open Builtin
open AutoSeq1 (wpAny_loadPart')
theorem lZ:fillsNumberSlot (.type "tuple") "mul"=pure R:=
 fillsNumberSlot_seq F.slot_tuple_mul.lookup (by left) F.slot_tuple_rmul.lookup (by left)
def sN:seqRepeat? (.type "tuple")=pure (M (.builtin "tuple.__mul__")):=by unfold seqRepeat?;rw[seqSlot_of (name:= "__mul__") F.slot_tuple_mul.lookup (by left),seqSlot_of (name:= "__rmul__") F.slot_tuple_rmul.lookup (by left)];rfl
theorem oE(a:Int)(t:Tok)(l:J)(items:Array U)(n:Nat)(Zo:I J)(e:Array (I U)):
  Meets (Builtin.«int.__rmul__» #[[.int a t,.ref l],[]]) (λ_ R s=>s.heap.get? l=M {cls:=.type "tuple",dict:=Zo,data:=.seq items n,slots:=e}/\R (.ok (.ret UI.notImplemented)) s):=
 .of_wp λb w A R s h=>by let(j,g,d,f,i):=s;let(m,h):=h;wp_walk;show#[_,W,h]
theorem vZ(l:J)(items:Array U)(n:Nat)(Zo:I J)(b:Array (I U))(u:Tok):
  Meets (Builtin.«tuple.__mul__» #[[.ref l,.int 1 u],[]]) (λ_ R s=>s.heap.get? l=M {cls:=.type "tuple",dict:=Zo,data:=.seq items n,slots:=b}/\R (.ok (.ret (UI.ref l))) s):=
 .of_wp λa w A R s h=>by
  let(i,g,d,e,f):=s;let(j,h):=h
  wp_walk
  show#[_,W,h]
theorem vh(l:UP)(items:Array U)(n:Nat)(Zo:bg UP)(i:Array (bg U))(x:Int)(u:Tok)(I:2<=x)(q:x<=1000)(f:items.isEmpty=UL)(z:items.size<=1000):
  Meets (Builtin.«tuple.__mul__» #[[.ref l,.int x u],[]]) (λ_ R s=>s.heap.get? l=M {cls:=.type "tuple",dict:=Zo,data:=.seq items n,slots:=i}/\R (.ok (.ret (UI.ref s.heap.objs.size))) {s with heap:=s.heap.push {cls:=UI.type "tuple",data:=Data.seq (YD (λk c=>k++c) #v[] (UW x.toNat items))},toks:=s.toks}):=
 .of_wp λa w A R s h=>by
  let(G,g,d,E,F):=s;let(p,h):=h;let C:¬(decide (x< -(2^63))||decide (x≥2^63))=S:=by simp;ext
  let B:(x==1)=UL:=by simp;ext
  let y:decide (x<=0)=UL:=by simp;ext
  let K:(items.isEmpty||x==1)=UL:=by rw[f,B];rfl
  let J:(decide (x<=0)||items.isEmpty)=UL:=by rw[f,y];rfl
  let e:(items.size:Int)*x<=1000000:=by let:(items.size:Int)*x<=1000*1000:=Int.mul_le_mul () q () ();ext
  let v:¬(items.size:Int)*x>(2^63 - 1)/8:=by ext
  let t:¬Tuple.tupleTooMany ((items.size:Int)*x)=S:=by
   ext Tuple.tupleTooMany;simp;let:(UY:Nat)=16777216:=by decide
   ext
  wp_walk
  rw[a3 C]
  wp_walk using wpAny_loadPart' p
  rw[a3 v];dsimp only;rw[a3 t];let o:(YD (λk c=>k++c) #v[] (UW x.toNat items)).size<=UY:=by
   let r:∀(m:Nat) (b:Array U),(YD (λk c=>k++c) b (UW m items)).size=b.size+m*items.size:=by
    intro m
    induction m with
    |zero=>intro b;simp
    |succ m j=>intro b;rw[VQ,YJ,j,Array.size_append,afo];ext
   rw[r];let H:x.toNat*items.size<=1000*1000:=aat () z;let:(UY:Nat)=16777216:=by decide
   simp;ext
  wp_walk
  show#[_,W,h]
end PySem
namespace L3
open PySem PySem.Spec PyProof.Rows L2
def LQ(K:CL):R2:=λx y H Q=>∃(a:J) (k:Nat) (xs:G V),x=.ref a/\y=.int (k:Int)/\Yr K H a xs/\xs≠[]/\1<=k/\k<=1000/\xs.length<=1000/\
 (k=1->Q (.ref a) H)/\(2<=k->∀p,H p=P->Q (.ref p) (aW H p (.tup (UW k xs).flatten)))
def IT:OpR X (Wu .Mult) (LQ X.K):=by
 intro i s S H x y v u Q I C B h;let(a,k,xs,rfl,rfl,J,R,Z,O,M,G,E):=h;ext C;let(t,rfl):=B;let(f,r,L,Y):=I.tuple J;let((cls,dd,o,g),e,m,n,l):=id L;simp only at m l;subst m l;let j:=r.length;show abJ () #[_,e,W] (λA=>ZR A k t) lZ F.fills_int_mul F.slot_int_rmul sN F.slot_int_index.lookup
  (Ys F.slot_int_rmul (ZR s k t) F.entry_int_rmul (F.args_int_rmul_2 _ _) (oE k t a f.toArray n dd g) #[e,W,#[_,e,W],?_])
 by_cases N:k=1
 .subst N;show Ys F.slot_tuple_mul #[_,e,W] F.entry_tuple_mul (F.args_tuple_mul_2 _ _) (vZ a f.toArray n dd g t) #[e,#[.ref a,H,I,W,G W]]
 .show Ys F.slot_tuple_mul #[_,e,W] F.entry_tuple_mul (F.args_tuple_mul_2 _ _) (vh a f.toArray n dd g k t () () ?_ (by rw[U3];ext)) #[e,?_]
  .cases f with
   |nil=>ext r;show a7 W R
   |cons y T=>rfl
  .let P:YD (λw p=>w++p) #v[] (UW ((k:Nat):Int).toNat f.toArray)=(UW k f).flatten.toArray:=by
    let:=mw f k [];rw[Z3]at this;rw[V2];show this
   rw[P];show#[.ref s.heap.objs.size,_,I.laid (λb U q=>bt _ q) (UU _) ?_,W,E () _ (I.V4.fresh (UU _))];show#[?_,_,r.rep k,ZK.new _ _];rw[yN];show Vv (aat O M) ()
def LO(K:CL):R2:=λx y H Q=>Fp K x y H Q\/LQ K x y H Q
theorem JW:OpR X (Wu .Mult) (LO X.K):=OpR.or IA IT
def fq:D->D->I RV
 |.tuple xs,.int k=>if xs≠[]/\1<=k/\k<=1000/\xs.length<=1000 then M (.fz (.tuple (UW k.toNat xs).flatten))else P
 |d,e=>Bl d e
def EI{K:CL}:iA K (LO K) fq:=by
 intro O H x y o j l Q n g f e q;unfold fq at e;split at e
 .rename_i ds k
  split at e
  .rename_i h
   ext e;ext f;let(a,xs,rfl,i,b):=FJ g;obtain⟨m,rfl⟩:∃m:Nat,k=(m:Int):=#[k.toNat,by ext];rw[V2]at q;show .inr #[a,m,xs,W,W,i.1,λz=>h.1 (b.ne.mp z),by ext,by ext,by rw[b.length];show h.2.2.2,λe=>?_,λ_=>Fin.acE (b.flat m) n q];subst e;let e1:(UW 1 ds).flatten=ds:=by simp
   rw[e1]at q;show q.at (.tup i b)
  .ext e
 .show .inl (GP O H x y o j l Q n g f e q)
end L3
namespace PySem
open Sem (wp)
open Builtin Builtin.Str
def itAt:Bool->Heap->J->J->Nat->Prop
 |true,h,it,a,i=>h.IsTupleIter it a i
 |false,h,it,a,i=>h.IsListIter it a i
def sqAt:Bool->Heap->J->Array U->Prop
 |true,h,a,xs=>h.IsTuple a xs
 |false,h,a,xs=>h.IsList a xs
def vg:Bool->String
 |true=> "tuple_iterator"
 |false=> "list_iterator"
def itAt.ext(x:itAt b h it a i)(e:Heap.ExtBut c h h')(n:it≠c):itAt b h' it a i:=by
 cases b with
 |true=>show Heap.IsTupleIter.extBut x e n
 |false=>show Heap.IsListIter.extBut x e n
def itAt.to(x:itAt b h it a i)(e:∀o,h.get? it=M o->h'.get? it=M o):itAt b h' it a i:=by
 cases b with
 |true=>show Heap.IsTupleIter.at x e
 |false=>show Heap.IsListIter.at x e
def itAt.live(x:itAt b h it a i):∃o,h.get? it=M o/\∀v,o.data≠.cell v:=by
 cases b with
 |true=>let(o,e,_,d):=(show h.IsTupleIter it a i from x);show#[o,e,λv z=>by rw[d]at z;ext z]
 |false=>let(o,e,_,d):=(show h.IsListIter it a i from x);show#[o,e,λv z=>by rw[d]at z;ext z]
def sqAt.ext(x:sqAt b h a xs)(e:Heap.ExtBut c h h')(n:a≠c):sqAt b h' a xs:=by
 cases b with
 |true=>show Heap.IsTuple.extBut x e n
 |false=>show Heap.IsList.extBut x e n
def sqAt.psh(x:sqAt b h a xs)(o:Obj):sqAt b (h.push o) a xs:=by
 cases b with
 |true=>show Heap.IsTuple.push x o
 |false=>show Heap.IsList.push x o
def sqAt.lt(x:sqAt b h a xs):a<h.objs.size:=by
 cases b with
 |true=>let(o,e,_):=(show h.IsTuple a xs from x);show b3 e
 |false=>let(o,e,_):=(show h.IsList a xs from x);show b3 e
section
variable{prog:Vc}{w:Vw}{A:Vq}{E:UI->UQ->Prop}{s:UQ}
def su(d:itAt b s.heap it l i)(e:sqAt b s.heap l xs)(a:xs[i]?=M x)
  (q:∀c,itAt b c it l (i+1)->Heap.SameBut it s.heap c->Q x {s with heap:=c}):wpAny (model prog w) A (SmallTypes.nextOf (.ref it)) Q E s:=by
 cases b with
 |true=>show lh d e a q
 |false=>show wpAny_nextOf_list_item d e a q
def zJ(g:A.handled=P)(d:itAt b s.heap it l i)(f:sqAt b s.heap l xs)(a:xs[i]?=P)
  (q:∀c e,Heap.ExtBut it s.heap c->(∃o,c.get? e=M o/\o.cls=.type "StopIteration")->E (.ref e) {s with heap:=c}):wpAny (model prog w) A (SmallTypes.nextOf (.ref it)) Q E s:=by
 cases b with
 |true=>show lU g d f a q
 |false=>show wpAny_nextOf_list_end g d f a q
def zW(a:sqAt b s.heap l xs)
  (q:Q (.ref s.heap.objs.size) {s with heap:=s.heap.push {cls:=.type (vg b),data:=.fields #v[.ref l,.int 0 0]}}):wpAny (model prog w) A (pyIter (.ref l)) Q E s:=by
 cases b with
 |true=>show Zi a q
 |false=>show Yc a q
def AM{Q:UI->UQ->Prop}(D:Z6 z TI TO i1 i2 l1 l2)(k:abf s.heap z TI TO .none)
  (hTI:IsPair s.heap TI (.ref i1) (.ref i2)) (hTO:IsPair s.heap TO a b) (h1:itAt b1 s.heap i1 l1 n) (h2:itAt b2 s.heap i2 l2 n) (hl1:sqAt b1 s.heap l1 xs) (V:sqAt b2 s.heap l2 ys) (hx:xs[n]?=cL x) (hy:ys[n]?=cL y)
  (q:∀d,abf d z TI TO (rawInt s.heap.objs.size)->IsPair d TO x y->itAt b1 d i1 l1 (n+1)->itAt b2 d i2 l2 (n+1)->IsPair d s.heap.objs.size x y->d.objs.size=s.heap.objs.size+1->
   (∀c o,c≠z->c≠TO->c≠i1->c≠i2->s.heap.get? c=cL o->d.get? c=cL o)->Q (.ref s.heap.objs.size) {s with heap:=d}):
  wpAny (model prog w) A (Builtin.«zip.__next__» #[[.ref z],[]]) (λfin s'=>∃v,fin=.done (.ret v)/\Q v s') E s:=by
 show wpAny _ _ (field (.ref z) 2>>=_) _ _ _;show Ld (VS k W W ?_);show wpAny _ _ (field (.ref z) 3>>=_) _ _ _;show Ld (VS k W W ?_);show Ld (V7 hTI W ?_);show wpAny _ _ (SmallTypes.ownedTupleIsFree (.ref z)>>=_) _ _ _;show Ld ?_;ext SmallTypes.ownedTupleIsFree;show Ld (VS k W W (UR ?_));simp only[if_true];show Ld (Y6 ?_);show Ld (VS k W W ?_);show Ld (W6 k (by simp) λk₁ t g=>?_);let adm:=t;clear t;show Ld ?_;simp only[acZ,adh,YL,aai];show Ld (Ld (ZM ?_));show wpAny _ _ (SmallTypes.nextOf (.ref i1)>>=_) _ _ _;show Ld (su (h1.ext g.extBut D.i1z) (hl1.ext g.extBut D.l1z) hx λk₂ Y i=>UR ?_);let J:=i.extBut _ _ D.TOi1 (g.extBut _ _ D.TOz hTO);show Ld (V7 J W ?_);show Ld (Zx J λk₃ I h=>?_);let M:=I;clear I;show Ld (Xl (UR ?_));show Ld (Ld (ZM ?_));show wpAny _ _ (SmallTypes.nextOf (.ref i2)>>=_) _ _ _;show Ld (su (((h2.ext g.extBut D.i2z).ext i.extBut D.i12.symm).ext h.extBut D.TOi2.symm) (((V.ext g.extBut D.l2z).ext i.extBut D.l2i1).ext h.extBut D.l2TO) hy λk₄ X l=>UR ?_);let H:=l.extBut _ _ D.TOi2 M;show Ld (V7 H W ?_);show Ld (Zx H λf G j=>?_);let p:IsPair f TO x y:=G;clear G;show Ld (Xl (UR (UR ?_)));show Ld (V7 p W ?_);show Ld (wpAny_newTuple ?_);let U:f.objs.size=s.heap.objs.size:=by rw[j.1,l.1,h.1,i.1,g.1]
 let C:=j.extBut _ _ D.TOz.symm (l.extBut _ _ D.i2z.symm (h.extBut _ _ D.TOz.symm (i.extBut _ _ D.i1z.symm adm)));let kp:∀c o,c≠z->c≠TO->c≠i1->c≠i2->s.heap.get? c=cL o->f.get? c=cL o:=λc o N Z c3 c4 e=>
  j.extBut _ _ Z (l.extBut _ _ c4 (h.extBut _ _ Z (i.extBut _ _ c3 (g.extBut _ _ N e))))
 let T:=((Y.ext h.extBut D.TOi1.symm).ext l.extBut D.i12).ext j.extBut D.TOi1.symm;let S:=X.ext j.extBut D.TOi2.symm;let Ye:=b3 C;show wpAny _ _ (SmallTypes.ownedTupleHandOut (.ref z) (.ref f.objs.size)>>=_) _ _ _;show Ld ?_;ext SmallTypes.ownedTupleHandOut;let R:abf (f.push {cls:=.type "tuple",data:=.seq #v[x,y]}) z TI TO .ellipsis:=bt _ C;show Ld (W6 R (by simp) λk₇ P B=>?_);let L:=P;show W6 L (by simp) λr O u=>?_;let m:=O;let up:∀c o,c≠z->f.get? c=cL o->r.get? c=cL o:=λc o N e=>u.extBut _ _ N (B.extBut _ _ N (bt _ e));let F:=u.extBut _ _ (VW Ye) (B.extBut _ _ (VW Ye) (b4 _ W));let K:r.objs.size=f.objs.size+1:=by rw[u.1,B.1,cc]
 rw[U]at m F K;show UR #[_,W,?_];rw[U];show q r m (up _ _ D.TOz p) (T.to λo e=>up _ o D.i1z e) (S.to λo e=>up _ o D.i2z e) F K λc o N Z c3 c4 e=>up c o N (kp c o N Z c3 c4 e)
def DM(T:A.handled=lD)(D:Z6 z TI TO i1 i2 l1 l2)(d:abf s.heap z TI TO .none)
  (M:IsPair s.heap TI (.ref i1) (.ref i2)) (L:IsPair s.heap TO a b) (U:itAt b1 s.heap i1 l1 n) (Z:itAt b2 s.heap i2 l2 n) (F:sqAt b1 s.heap l1 xs) (J:sqAt b2 s.heap l2 ys) (O:xs[n]?=lD\/ys[n]?=lD)
  (q:∀k e,(∀c o,c≠z->c≠TO->c≠i1->c≠i2->s.heap.get? c=cL o->k.get? c=cL o)->(∃o,k.get? e=cL o/\o.cls=.type "StopIteration")->E (.ref e) {s with heap:=k}):
  wpAny (model prog w) A (Builtin.«zip.__next__» #[[.ref z],[]]) Q E s:=by
 show wpAny _ _ (field (.ref z) 2>>=_) _ _ _;show Ld (VS d W W ?_);show wpAny _ _ (field (.ref z) 3>>=_) _ _ _;show Ld (VS d W W ?_);show Ld (V7 M W ?_);show wpAny _ _ (SmallTypes.ownedTupleIsFree (.ref z)>>=_) _ _ _;show Ld ?_;ext SmallTypes.ownedTupleIsFree;show Ld (VS d W W (UR ?_));simp only[if_true];show Ld (Y6 ?_);show Ld (VS d W W ?_);show Ld (W6 d (by simp) λS y f=>?_);let H:=y;show Ld ?_;simp only[acZ,adh,YL,aai];show Ld (Ld (ZM ?_));show wpAny _ _ (SmallTypes.nextOf (.ref i1)>>=_) _ _ _;cases hx:xs[n]? with
 |none=>
  show Ld (zJ T (U.ext f.extBut D.i1z) (F.ext f.extBut D.l1z) hx λC e g K=>?_);let(I,i,j):=K;let m:=g _ _ D.i1z.symm H;let ne:e≠z:=λt=>by subst t;rw[m]at i;ext i;simp at j
  show W6 m (by simp) λr _ h=>q r e (λc o G _ N _ t=>h.extBut _ _ G (g _ _ N (f.extBut _ _ G t))) #[I,h.extBut _ _ ne i,j]
 |some x=>
  let Y:ys[n]?=lD:=by
   rcases O with t|t
   .rw[hx]at t;ext t
   .show t
  show Ld (su (U.ext f.extBut D.i1z) (F.ext f.extBut D.l1z) hx λC X g=>UR ?_);let p:=g.extBut _ _ D.TOi1 (f.extBut _ _ D.TOz L);show Ld (V7 p W ?_);show Ld (Zx p λr P h=>?_);show Ld (Xl (UR ?_));show Ld (Ld (ZM ?_));show wpAny _ _ (SmallTypes.nextOf (.ref i2)>>=_) _ _ _;show Ld (zJ T (((Z.ext f.extBut D.i2z).ext g.extBut D.i12.symm).ext h.extBut D.TOi2.symm) (((J.ext f.extBut D.l2z).ext g.extBut D.l2i1).ext h.extBut D.l2TO) Y λR e v K=>?_);let(I,i,j):=K;let l:=v _ _ D.i2z.symm (h.extBut _ _ D.TOz.symm (g.extBut _ _ D.i1z.symm H));let ne:e≠z:=λt=>by subst t;rw[l]at i;ext i;simp at j
  show W6 l (by simp) λB _ u=>q B e (λc o G c2 N c4 t=>u.extBut _ _ G (v _ _ c4 (h.extBut _ _ c2 (g.extBut _ _ N (f.extBut _ _ G t))))) #[I,u.extBut _ _ ne i,j]
end
section
variable{Y:Vc}{w:Vw}{A:Vq}{E:UI->UQ->Prop}{s:UQ}
def u7(D:Z6 z TI TO i1 i2 l1 l2)(k:abf s.heap z TI TO .none)
  (h:IsPair s.heap TI (.ref i1) (.ref i2)) (g:IsPair s.heap TO a b) (p:itAt b1 s.heap i1 l1 n) (m:itAt b2 s.heap i2 l2 n) (f:sqAt b1 s.heap l1 xs) (e:sqAt b2 s.heap l2 ys) (l:xs[n]?=M x) (j:ys[n]?=M y)
  (q:∀d,abf d z TI TO (rawInt s.heap.objs.size)->IsPair d TO x y->itAt b1 d i1 l1 (n+1)->itAt b2 d i2 l2 (n+1)->IsPair d s.heap.objs.size x y->d.objs.size=s.heap.objs.size+1->
   (∀c o,c≠z->c≠TO->c≠i1->c≠i2->s.heap.get? c=M o->d.get? c=M o)->Q (M (.ref s.heap.objs.size)) {s with heap:=d}):
  wpAny (model Y w) A (pyNext (.ref z)) Q E s:=by
 let i:s.TypeIs (.ref z) "zip":=#[_,k,W];ext pyNext;show Ld (ajH (Wx i F.slot_zip_next ?_));show WI F.slot_zip_next i F.entry_zip_next (AM D k h g p m f e l j λd G C B v u t r=>UR (q d G C B v u t r)) (F.args_zip_next_1 _)
def uL(r:A.handled=P)(D:Z6 z TI TO i1 C l1 l2)(k:abf s.heap z TI TO .none)
  (i:IsPair s.heap TI (.ref i1) (.ref C)) (h:IsPair s.heap TO a b) (y:itAt b1 s.heap i1 l1 n) (v:itAt b2 s.heap C l2 n) (g:sqAt b1 s.heap l1 xs) (f:sqAt b2 s.heap l2 ys) (j:xs[n]?=P\/ys[n]?=P)
  (q:∀d,(∀c o,c≠z->c≠TO->c≠i1->c≠C->s.heap.get? c=M o->d.get? c=M o)->Q P {s with heap:=d}):wpAny (model Y w) A (pyNext (.ref z)) Q E s:=by
 let l:s.TypeIs (.ref z) "zip":=#[_,k,W];ext pyNext;show Ld (ajH (Wx l F.slot_zip_next ?_));show WI F.slot_zip_next l F.entry_zip_next (DM r D k i h y v g f j λd e p t=>?_) (F.args_zip_next_1 _);let(o,m,u):=t;show Ld (YW #[o,m,u] isSubtype_stop (UR (q _ p)))
end
abbrev RO(h:Heap)(b:Bool)(a:J):Heap:=h.push {cls:=.type (vg b),data:=.fields #v[.ref a,.int 0 0]}
abbrev Q0(h:Heap)(f e:Bool)(b a:J):Heap:=(RO h f b).push {cls:=.type (vg e),data:=.fields #v[.ref a,.int 0 0]}
abbrev Qi(h:Heap)(b f:Bool)(a e:J):Heap:=(Q0 h b f a e).push {cls:=.type "tuple",data:=.seq #v[.ref h.objs.size,.ref (RO h b a).objs.size]}
abbrev P0(h:Heap)(f e:Bool)(b a:J):Heap:=(Qi h f e b a).push {cls:=.type "tuple",data:=.seq #v[.none,.none]}
abbrev Sz(h:Heap)(f e:Bool)(b a:J):Heap:=(P0 h f e b a).push {cls:=.type "zip",data:=.fields #v[.none,.bool R,.bool R,.ref (Q0 h f e b a).objs.size,.ref (Qi h f e b a).objs.size]}
theorem og(e f:Bool)(a b:J)(xs n:Array U):
  Meets (Builtin.«zip.__new__» #[[.type "zip",.ref a,.ref b],[]]) (λ_ R s=>sqAt e s.heap a xs/\sqAt f s.heap b n/\R (.ok (.ret (.ref (P0 s.heap e f a b).objs.size))) {s with heap:=Sz s.heap e f a b}):=
 .of_wp λp w A R s h=>by
  let(r,g,d,o,q):=s;let(j,i,h):=h;let t:=sub_zip;let m:sqAt e (UQ.heap #[r,g,d,o,q]) a xs:=j;let l:sqAt f (UQ.heap #[r.push {cls:=.type (vg e),data:=.fields #v[.ref a,.int 0 0]},g,d,o,q]) b n:=sqAt.psh i _
  wp_walk using zW m,zW l
  show#[_,W,h]
section
variable{Y:Vc}{w:Vw}{A:Vq}{E:UI->UQ->Prop}{s:UQ}
def Fc(e:h.get? it=M {cls:=.type (vg b),data:=.fields #v[.ref l,.int 0 0]}):itAt b h it l 0:=by
 cases b with
 |true=>show#[_,e,W,W]
 |false=>show#[_,e,W,W]
def Bo(l:sqAt b1 s.heap l1 xs)(j:sqAt b2 s.heap C ys)
  (q:∀d,abf d (s.heap.objs.size+4) (s.heap.objs.size+2) (s.heap.objs.size+3) .none->IsPair d (s.heap.objs.size+2) (.ref s.heap.objs.size) (.ref (s.heap.objs.size+1))->
   IsPair d (s.heap.objs.size+3) .none .none->itAt b1 d s.heap.objs.size l1 0->itAt b2 d (s.heap.objs.size+1) C 0->(∀c o,s.heap.get? c=M o->d.get? c=M o)->Q (.ref (s.heap.objs.size+4)) {s with heap:=d}):
  wpAny (model Y w) A (call (.type "zip") [.ref l1,.ref C]) Q E s:=by
 show callType_new F.called_zip () (F.typeCall_zip_2 _ _) (F.newCall_zip_2 _ _) (λobj=>F.args_object_init_3 obj _ _) F.entry_zip_new (og b1 b2 l1 C xs ys) #[l,j,?_];let i:(RO s.heap b1 l1).objs.size=s.heap.objs.size+1:=cc ..;let h:(Q0 s.heap b1 b2 l1 C).objs.size=s.heap.objs.size+2:=by rw[cc,i]
 let g:(Qi s.heap b1 b2 l1 C).objs.size=s.heap.objs.size+3:=by rw[cc,h]
 let p:(P0 s.heap b1 b2 l1 C).objs.size=s.heap.objs.size+4:=by rw[cc,g]
 let v:∀c o,s.heap.get? c=M o->(RO s.heap b1 l1).get? c=M o:=λc o e=>bt _ e;let n:∀c o,(RO s.heap b1 l1).get? c=M o->(Q0 s.heap b1 b2 l1 C).get? c=M o:=λc o e=>bt _ e;let f:∀c o,(Q0 s.heap b1 b2 l1 C).get? c=M o->(Qi s.heap b1 b2 l1 C).get? c=M o:=λc o e=>bt _ e;let b:∀c o,(Qi s.heap b1 b2 l1 C).get? c=M o->(P0 s.heap b1 b2 l1 C).get? c=M o:=λc o e=>bt _ e;let a:∀c o,(P0 s.heap b1 b2 l1 C).get? c=M o->(Sz s.heap b1 b2 l1 C).get? c=M o:=λc o e=>bt _ e;let m:(Sz s.heap b1 b2 l1 C).get? (P0 s.heap b1 b2 l1 C).objs.size=M _:=b4 _ W;let r:=a _ _ (b4 _ W);let t:=a _ _ (b _ _ (b4 _ W));let u:=a _ _ (b _ _ (f _ _ (b4 _ W)));let y:=a _ _ (b _ _ (f _ _ (n _ _ (b4 _ W))));rw[h,g,p]at m;rw[i,h]at t;rw[g]at r;rw[i]at u;rw[p];show#[#[_,m,W],q _ m t r (Fc y) (Fc u) λc o e=>a _ _ (b _ _ (f _ _ (n _ _ (v _ _ e))))]
end
end PySem
namespace L3
open PySem PySem.Spec PyProof.Rows L2
def BP(b:Bool)(K:CL)(H:Hp)(a:J)(xs:G V):Prop:=match b with
 |true=>Yr K H a xs
 |false=>Yk K H a xs
def SB(K:CL)(e b:Bool)(a c:J):It:=
 #[λi H=>∃xs ys x y,BP e K H a xs/\BP b K H c ys/\xs[i]?=M x/\ys[i]?=M y,
  λi H v f=>∃p x y,H p=P/\v=.ref p/\(∀xs,BP e K H a xs->xs[i]?=M x)/\(∀ys,BP b K H c ys->ys[i]?=M y)/\f=aW H p (.tup [x,y]),
  λi H=>∃xs ys,BP e K H a xs/\BP b K H c ys/\(xs.length<=i\/ys.length<=i)]
def Hh(I:Inv X pins σ H s)(i:Yk X.K H a xs)(h:Yk X.K H a ys):xs=ys:=by
 let(e,g,(o,k,e1,_,n,l),_):=I.list i;let(b,f,(m,k2,e2,_,p,j),_):=I.list h;rw[e1]at e2;ext e2;let:e=b:=by
  let q:e.toArray=b.toArray:=by injection l.symm.trans j
  simpa using q
 subst this;show g.inj f
def lR(I:Inv X pins σ H s)(h:BP b X.K H a xs):∃c,Vals xs c/\sqAt b s.heap a c.toArray:=by
 cases b with
 |true=>let(c,f,p,e):=I.tuple h;show#[c,f,p]
 |false=>let(c,f,p,e):=I.list h;show#[c,f,p.isList]
def yK(I:Inv X pins σ H s)(f:BP b X.K H a xs)(e:BP b X.K H a ys):xs=ys:=by
 cases b with
 |true=>show GF I f e
 |false=>show Hh I f e
def Ap{ch:G J}(I:Inv X pins σ H s)(g:∀b∈ch,kL X pins H b)
  (k:∀b u,b∉ch->s.heap.get? b=M u->C.get? b=M u):Inv X pins σ H {s with heap:=C,toks:=t'}:=by
 let f:∀b u,H b=M u->b∉ch:=λb u e z=>by rw[(g b z).1]at e;ext e
 show I.step (λb j=>?_) (λb u _ _ a e _=>k b u a e) (λb u _ _ a e _=>#[u.slots,k b u a e]) (λ_ _ _ _ n=>n)
  (λb u a e=>#[u,k b u a e]) (λ_ _ e=>e) (λ_ _ _ e=>e) (λb y e=>#[#v[],by rw[e];simp]) (λm hm=>?_) (λb u e=>?_) I.bare
 .let(_,t,_,p,o,l):=g b j;show#[p,t,o,l]
 .let(h,es,w,i,r):=hm;show#[h,es,w,k _ h (λz=>(g _ z).2.1 W) i,r]
 .show(I.V4 b u e).YY (λc v a q=>k c v ?_ q) (λ_ q=>q) λ_ _ q=>q
  rcases a with z|z
  .rw[z];show f b u e
  .show f c _ z
theorem Cg{K:CL}{d}(b1 V:Bool)(z TI TO C B U T:UP)(D:Z6 z TI TO C B U T):
  Turn Pz0 w K (.Tuple elts d tp) (SB K b1 V U T) [z,TI,TO,C,B] z (λi h=>abf h z TI TO .none/\IsPair h TI (.ref C) (.ref B)/\(∃a b,IsPair h TO a b)/\itAt b1 h C U i/\itAt V h B T i) where
 mem:=by simp
 obj:=λi h f b e=>by
  let(m,j,(a,c,p),A,r):=f;simp only[Vh,Wa,or_false]at e;rcases e with rfl|rfl|rfl|rfl|rfl
  .show#[_,m,λv q=>by cases(show Data.fields _=Data.cell v from q)]
  .show#[_,j,λv q=>by cases(show Data.seq _ _=Data.cell v from q)]
  .show#[_,p,λv q=>by cases(show Data.seq _ _=Data.cell v from q)]
  .show A.live
  .show r.live
 keep:=λi h h' f k=>by let(m,j,(a,c,p),A,r):=f;show#[k z (by simp) _ m,k TI (by simp) _ j,#[a,c,k TO (by simp) _ p],A.to λo q=>k C (by simp) o q,r.to λo q=>k B (by simp) o q]
 item:=by
  intro X hP hw hK hc i l s σ H E I N f hg;subst hP hw hK;let(m,j,(a,c,p),A,r):=f;let(xs,ys,x,y,L,J,hx,hy):=hg;let(Vz,Q,S):=lR I L;let(G,O,R):=lR I J;let(u,hu,ru):=Q.get hx;let(t,ht,rt):=O.get hy;show u7 D m j p A r S R (by simpa using hu) (by simpa using ht) λk z1 o1 g1 g2 pr sz M=>#[_,W,?_];show wpAny_letOwnedTupleGo_zip z1 λF z2 e2=>?_;let Y:=b3 m;let hIl:=b3 j;let hOl:=b3 p;let h1l:C<s.heap.objs.size:=by let(_,q,_):=A.live;show b3 q
  let h2l:B<s.heap.objs.size:=by let(_,q,_):=r.live;show b3 q
  let hn:=I.V4.fresh (UU _);let d:∀b o,b∉[z,TI,TO,C,B]->s.heap.get? b=cL o->F.get? b=cL o:=λb o e q=>by simp only[Vh,Wa,or_false,not_or]at e;show(e2.2 b e.1).trans (M b o e.1 e.2.2.1 e.2.2.2.1 e.2.2.2.2 q)
  let hT2:=(e2.2 _ (VW Y)).trans pr
  let I2:Inv X l σ (aW H s.heap.objs.size (.tup [x,y])) {s with heap:=F}:=
   I.aby N d (UU _) #[by show 2<=UY;decide,[u,t],.cons ru (.cons rt .nil),#[_,hT2,#[W,_,W],W]]
  let g:∀b o,b≠z->k.get? b=cL o->F.get? b=cL o:=λb o n q=>(e2.2 b n).trans q;show#[.ref s.heap.objs.size,_,I2,W,#[_,x,y,hn,W,λzs hs=>by rw[yK I hs L];show hx,λzs hs=>by rw[yK I hs J];show hy,W],
   #[z2,g _ _ D.TIz (M _ _ D.TIz D.TITO D.TIi1 D.TIi2 j),#[_,_,g _ _ D.TOz o1],g1.to λo q=>g _ _ D.i1z q,g2.to λo q=>g _ _ D.i2z q],λb e=>?_]
  let hb2:b<s.heap.objs.size:=by simp only[Vh,Wa,or_false]at e;rcases e with rfl|rfl|rfl|rfl|rfl<;>assumption
  rw[au (Vg hb2)];show(N b e).1
 done:=by
  intro X hP hw hK hc i l s σ H E I N f hg;subst hP hw hK;let(m,j,(a,c,p),A,r):=f;let(xs,ys,L,J,Z):=hg;let(Vz,Q,S):=lR I L;let(G,O,R):=lR I J;let hl1:=Q.length;let hl2:=O.length;let hd:Vz.toArray[i]?=lD\/G.toArray[i]?=lD:=by
   rcases Z with q|q
   .show .inl (by simp;ext)
   .show .inr (by simp;ext)
  show uL (I.ok.hd hc) D m j p A r S R hd λk M=>#[W,?_];show Ap I N λb o e q=>by simp only[Vh,Wa,or_false,not_or]at e;show M b o e.1 e.2.2.1 e.2.2.2.1 e.2.2.2.2 q
 self:=λ_ _ _ _ _ f h=>afq f.1 h
def A0(n b a:Nat)(f:b<n)(e:a<n):Z6 (n+4) (n+2) (n+3) n (n+1) b a:=by constructor<;>(show(_:Nat)≠_;ext)
def Ls(K:CL)(d:TA):TI:=λe H R=>d e H λg b=>∃a c b1 f,g=[.ref a,.ref c]/\(∃xs,BP b1 K b a xs)/\(∃ys,BP f K b c ys)/\R (SB K b1 f a c) b
def FC:VP "zip"=M (.type "zip"):=by left
def Nj{d}(S:Gl X "zip")(hm:X.mg "zip"=lD)(k:PA X [l,m] ta)(O:U7 [l,m] X.env=(UL,eval l X.env)::U7 [m] X.env:=by rfl)(P:(backTo pos (U7 [m] X.env)).any (·.1)=UL:=by rfl):
  PI X (.Tuple elts d tp) (.Call (.Name "zip" p) [l,m] [] pos) (Ls X.K ta):=by
 intro f s y H R I h;show Call_ (kh I S hm FC (Wr (bP (k pos f s y H _ I h) λus g #[vs,w,j,G,J2]=>?_) O P));let(a,c,Z,Y,e,(xs,E),(ys,C),q):=J2;subst e;let(u,t,rfl,F,rt):=D2 G;ext F;ext rt;let(Vz,rx,r):=lR j E;let(N,ry,o):=lR j C;let U:∀b∈[g.heap.objs.size+4,g.heap.objs.size+2,g.heap.objs.size+3,g.heap.objs.size,g.heap.objs.size+1],kL X f w b:=λb v=>by
  let i:g.heap.objs.size<=b:=by simp only[Vh,Wa,or_false]at v;let T:=v;ext
  show j.aa1 i (j.V4.fresh i)
 show Bo r o λh1 n M L B A Q=>?_;show afq n ?_;show#[g.heap.objs.size+4,_,_,_,w,W,j.kept Q,Cg Z Y _ _ _ _ _ a c (A0 _ _ _ r.lt o.lt),#[n,M,#[_,_,L],B,A],U,q]
def LY:Va->Bool
 |.Starred _ _=>S
 |_=>R
def rQ(e:Va)(es:G Va)(env:Env)(h:LY e=R):U7 (e::es) env=(R,eval e env)::U7 es env:=by ext e<;>first|rfl|ext h
def kB:G D->G D->G D
 |x::r,y::q=>.tuple [x,y]::kB r q
 |_,_=>[]
theorem uK:∀(xs a:G D),(kB xs a).length=min xs.length a.length
 |[],_=>by simp[kB]
 |_::_,[]=>by simp[kB]
 |_::r,_::q=>by simp only[kB,U4,uK r q];ext
theorem ve:∀(xs a:G D) (i:Nat),(kB xs a)[i]?=(xs[i]?).bind λx=>(a[i]?).map λy=>.tuple [x,y]
 |[],_,_=>by simp[kB]
 |x::r,[],i=>by ext i<;>simp[kB]
 |x::r,y::q,0=>by simp[kB]
 |x::r,y::q,i+1=>by simp only[kB,aaN];show ve r q i
section
variable{K:CL}{E:XK}{B O Z:bC}{T H X:Hp}{N:L2.St}{Y ρ':aL}{v:V}
def aaR(b:Bool)(O:bC)(K:CL)(H:Hp)(a:J)(xs:G V):Prop:=match b with
 |true=>YO O K H a xs
 |false=>ZL O K H a xs
def aaR.ev(h:aaR b O K H a xs)(e:Ev O H Z X):aaR b Z K X a xs:=by
 cases b with
 |true=>show YO.ev h e
 |false=>show ZL.ev h e
def aaR.at(h:aaR b O K H a xs):BP b K H a xs:=by
 cases b with
 |true=>show(show YO O K H a xs from h).1
 |false=>show(show ZL O K H a xs from h).1.sq
def OT(h:aaR b1 O K H a xs)(hd:Wo O K H xs ds)(g:aaR b2 O K H c ys)(F:Wo O K H ys es):xt K (SB K b1 b2 a c) O H (kB ds es):=by
 intro Z X e n;let j:=h.ev e;let f:=hd.ev e;let m:=g.ev e;let l:=F.ev e;rw[uK];show#[λi hi=>?_,#[xs,ys,j.at,m.at,?_]]
 .let w:i<ds.length:=by ext
  let u:i<es.length:=by ext
  let(x,C,dx):=f.get (U6 w);let(y,A,G):=l.get (U6 u);show#[#[xs,ys,x,y,j.at,m.at,C,A],?_];rintro t I ⟨p,L,J,b,rfl,hx',Q,rfl⟩;let r:=hx' xs j.at;let o:=Q ys m.at;rw[C]at r;rw[A]at o;ext r;ext o;show#[bJ b _,.tuple [ds[i],es[i]],?_,.tup #[Yr.of aC,λq=>a7 q (n p b)] (.cons (dx.ev (Ev.grow (bJ b _))) (.cons (G.ev (Ev.grow (bJ b _))) .nil))];rw[ve,U6 w,U6 u];rfl
 .rw[hd.length,F.length];ext
def Kq(h:DV O K H v d)(q:eG d=M ds):∃b a xs,v=.ref a/\aaR b O K H a xs/\Wo O K H xs ds:=by
 cases h with
 |tup h e=>ext q;show#[S,_,_,W,h,e]
 |lst h e=>ext q;show#[R,_,_,W,h,e]
 |_=>ext q
def AX(c:FA):FI:=λY=>(c Y).bind λa=>(Res.VO (nk a.2 a.1)).bind λb=>match b.1 with
 |[d,e]=>(Res.VO (eG d)).bind λds=>(Res.VO (eG e)).bind λes=>.ok (kB ds es,b.2)
 |_=>.bad
def MU(h:AO K E ta fa):IO K E (Ls K ta) (AX fa):=by
 intro B T O N H Y L R w;show h B T O N H Y _ R (w.bind.imp λa b M Q I e1 F m=>?_);let((ds,i),q,b):=b.VO;let(G,e2,R2,p):=pG F m q;dsimp only at b;cases p with
 |nil=>show b.elim
 |cons o e=>
  cases e with
  |nil=>show b.elim
  |cons e n=>
   cases n with
   |cons _ _=>show b.elim
   |nil=>let(es,l,b):=WR.VO b;let(fs,j,b):=WR.VO b;let(y,C,xs,rfl,g,t):=Kq o l;let(u,A,J,rfl,f,r):=Kq e j;show#[C,A,y,u,W,#[_,g.at],#[_,f.at],b G _ I (e1.trans e2) R2 (OT g t f r)]
def i7(d e:D):I RV:=match d,e with
 |.str z,.int i=>if z.length<=1000000 then(ki z.cps.toList i).map λc=>.fz (.str #[#v[c]])else P
 |_,_=>P
def Io:iA K (QI K) i7:=by
 intro O H x y l g j Q n b a e q;unfold i7 at e;split at e
 .split at e
  .rename_i z i f
   cases h:ki z.cps.toList i with
   |none=>rw[h]at e;ext e
   |some c=>rw[h]at e;ext e;ext b;ext a;show .inr (.inr #[z,i,c,W,W,qh f,h,q.at (.str _)])
  .ext e
 .ext e
def uq:G D->I RV
 |[.str z]=>if z.length<=1000000 then M (.fz (.int z.length))else P
 |_=>P
def JZ:zX K (λxs H Q=>∃x n,xs=[x]/\L5 K x H n/\Q (.int n) H) uq:=by
 intro O H xs ds h Q n a e q;unfold uq at e;split at e
 .split at e
  .rename_i z b
   ext e;cases a with
   |cons g f=>ext f;ext g;show#[_,z.length,W,#[qh b,W],q.at (.int _)]
  .ext e
 .ext e
end
end L3
namespace L3
open PySem L2
def Tk(N C:aL->Prop)(T:RV->Prop):Res Fl->Prop
 |.ok (.nx a)=>N a
 |.ok (.ct a)=>C a
 |.ok (.rt v)=>T v
 |_=>False
structure Go(r:Res Fl)(N C:aL->Prop)(T:RV->Prop):Prop where
 out:Tk N C T r
section
variable{ρ ρ1 Z ρ3:aL}{f g:FS}{fe:FE}{pv:PV}{d:D}{rv:RV}{ds:bb D}{N C:aL->Prop}{T:RV->Prop}
def Go.eq(e:r=r')(h:Go r' N C T):Go r N C T:=by rw[e];show h
def Go.imp(h:Go r N C T)(b:∀ρ,N ρ->N' ρ)(e:∀ρ,C ρ->C' ρ)(a:∀v,T v->T' v):Go r N' C' T':=by
 show#[?_];let h:=h.out;cases r with
 |bad=>show h
 |er x=>show h
 |ok i=>
  cases i with
  |nx r=>show b _ h
  |ct r=>show e _ h
  |rt v=>show a _ h
  |bk r=>show h
def xu(h:Go (f ρ) (λr=>Go (g r) N C T) C T):Go (aV f g ρ) N C T:=by
 show#[?_];let h:=h.out;ext aV;cases q:f ρ with
 |bad=>rw[q]at h;show h.elim
 |er x=>rw[q]at h;show h.elim
 |ok a=>
  rw[q]at h;cases a with
  |nx r=>show(show Go (g r) N C T from h).out
  |ct r=>show h
  |rt v=>show h
  |bk r=>show h.elim
theorem DN(b:fe ρ=.ok (pv,ρ1))(a:gt pv ρ1=.ok Z)(h:N Z):Go (cb fe gt ρ) N C T:=.eq (pJ b a W) #[h]
theorem nH(a:fe ρ=.ok (pv,ρ1))(h:N ρ1):Go (iV fe ρ) N C T:=.eq (tM a) #[h]
theorem d6(b:fe ρ=.ok (pv,ρ1))(a:AY ρ1 pv=M rv)(h:T rv):Go (cX fe ρ) N C T:=.eq (sj b a) #[h]
theorem yB(I:Nat->aL->Prop):∀(ds:G D) (k:Nat) (ρ:aL),I k ρ->(∀i d ρ,ds[i]?=M d->I (k+i) ρ->∃ρ1,gt (.fz d) ρ=.ok ρ1/\Go (b ρ1) (I (k+i+1)) (I (k+i+1)) T)->Go (mY gt b ds ρ) (I (k+ds.length)) C T
 |[],k,ρ,h0,_=>#[h0]
 |d::r,k,ρ,h0,u=>by
  let(ρ1,o,a):=u 0 d ρ W h0;let a:=a.out;let l:∀j,I (k+1) j->Go (mY gt b r j) (I (k+(r.length+1))) C T:=λj h=>by
   let e:k+(r.length+1)=k+1+r.length:=by ext
   rw[e];show yB I r (k+1) j h λi t m w n=>?_;let e:k+1+i=k+(i+1):=by ext
   rw[e]at n⊢;show u (i+1) t m (by simpa using w) n
  show#[?_];show Tk _ _ _ ((gt (.fz d) ρ).bind _);rw[o,dN];cases q:b ρ1 with
  |bad=>rw[q]at a;show a.elim
  |er x=>rw[q]at a;show a.elim
  |ok p=>
   rw[q]at a;cases p with
   |nx r=>show(l _ a).out
   |ct r=>show(l _ a).out
   |rt v=>show a
   |bk r=>show a.elim
def Pd(I:Nat->aL->Prop)(k:o ρ=.ok (ds,ρ1))(j:I 0 ρ1)(a:∀i d ρ,ds[i]?=M d->I i ρ->∃ρ1,gt (.fz d) ρ=.ok ρ1/\Go (b ρ1) (I (i+1)) (I (i+1)) T)(e:∀c,I ds.length c->N c):Go (l8 o gt b ρ) N C T:=by let:=yB (C:=C) I ds 0 ρ1 j (by simpa using a);rw[XB]at this;show .eq (wN k) (this.imp e (λ_ h=>h) λ_ h=>h)
def lX(a:ds.map (λd=>M (.fz d))++UW (n - ds.length) P=ρ)(h:Go (g ρ) (λ_=>T (.fz .none)) (λ_=>False) T):∃rv,fy n g ds=.ok rv/\T rv:=by
 let h:=h.out;ext fy;rw[a];cases q:g ρ with
 |bad=>rw[q]at h;show h.elim
 |er x=>rw[q]at h;show h.elim
 |ok b=>
  rw[q]at h;cases b with
  |nx r=>show#[_,W,h]
  |ct r=>show h.elim
  |rt v=>show#[_,W,h]
  |bk r=>show h.elim
def g9(a:ds.map (λd=>M (.fz d))++UW (n - ds.length) P=ρ)(h:Go (g ρ) (λ_=>RV.fz .none=v) (λ_=>False) (λr=>r=v)):fy n g ds=.ok v:=by let(rv,e,b):=lX (T:=λr=>r=v) a h;rw[e,b]
theorem aY(b:fe ρ=.ok (pv,ρ1))(a:gt pv ρ1=.ok Z)(c:Z=ρ3)(h:Go (g ρ3) N C T):Go (aV (cb fe gt) g ρ) N C T:=.eq (xh (pJ b a c)) h
theorem sA(a:fe ρ=.ok (pv,ρ1))(h:Go (g ρ1) N C T):Go (aV (iV fe) g ρ) N C T:=.eq (xh (tM a)) h
theorem fC(b:fe ρ=.ok (pv,ρ1))(a:AY ρ1 pv=M rv)(h:T rv):Go (aV (cX fe) g ρ) N C T:=.eq (DW (sj b a)) #[h]
theorem c7(h:Go (g ρ) N C T):Go (aV dQ g ρ) N C T:=.eq W h
def ie(i:c ρ=.ok (b,ρ1))(a:b=S->Go (aV f1 g ρ1) N C T)(h:b=R->Go (aV f2 g ρ1) N C T):Go (aV (kC c f1 f2) g ρ) N C T:=by
 let e:aV (kC c f1 f2) g ρ=if b=S then aV f1 g ρ1 else aV f2 g ρ1:=by unfold aV kC;rw[i,dN];ext b<;>rfl
 show .eq e ?_;cases b with
 |true=>show a W
 |false=>show h W
theorem oM(I:Nat->aL->Prop)(j:o ρ=.ok (ds,ρ1))(h:I 0 ρ1)(a:∀i d ρ,ds[i]?=M d->I i ρ->∃ρ1,gt (.fz d) ρ=.ok ρ1/\Go (b ρ1) (I (i+1)) (I (i+1)) T)(e:∀c,I ds.length c->Go (g c) N C T):Go (aV (l8 o gt b) g ρ) N C T:=
 xu (Pd I j h a e)
theorem rj(I:aL->Prop)(P:Nat->D->Prop):∀(ds:G D) (k:Nat) (ρ:aL) (acc:G D),I ρ->acc.length+ds.length<=1000000->(∀i d,ds[i]?=M d->∀ρ,I ρ->∃x c,jj gt ft fe d ρ=.ok (M x,c)/\I c/\P (k+i) x)->
  ∃xs,cW gt ft fe ds ρ acc=.ok (acc++xs)/\xs.length=ds.length/\∀i x,xs[i]?=M x->P (k+i) x
 |[],k,ρ,acc,_,_,_=>#[[],by show Res.ok acc=_;simp,W,λi x h=>by simp at h]
 |d::r,k,ρ,acc,h0,v,u=>by
  let(x,c,n,m,l):=u 0 d W ρ h0;rw[U4]at v;let(xs,q,p,o):=rj I P r (k+1) c (acc++[x]) m (by rw[US];simp;ext) λi t w a j=>by
   let e:k+1+i=k+(i+1):=by ext
   rw[e];show u (i+1) t (by simpa using w) a j
  show#[x::xs,?_,by rw[U4,p,U4],λi y b=>?_]
  .rw[oG n ()];show cW gt ft fe r c (acc++[x])=_;rw[q,Vy];rfl
  .cases i with
   |zero=>cases(show M x=M y from b);show l
   |succ i=>
    let e:k+(i+1)=k+1+i:=by ext
    rw[e];show o i y (by simpa using b)
def nX(I:aL->Prop)(P:Nat->D->Prop)(e:I ρ)(b:ds.length<=1000000)(a:∀i d,ds[i]?=M d->∀ρ,I ρ->∃x c,jj gt ft fe d ρ=.ok (M x,c)/\I c/\P i x):
  ∃xs,iY (cW gt ft fe ds ρ [])=.ok xs/\xs.length=ds.length/\∀i x,xs[i]?=M x->P i x:=by
 let(xs,l,j,h):=rj I P ds 0 ρ [] e (by simpa using b) (by simpa using a);show#[xs,by rw[l];rfl,j,by simpa using h]
theorem nR{α:Type}{f:α->D}{Q:Nat->α->Prop}:∀(xs:G D) (k:Nat),(∀i x,xs[i]?=M x->∃a,x=f a/\Q (k+i) a)->∃as:G α,xs=as.map f/\∀i a,as[i]?=M a->Q (k+i) a
 |[],_,_=>#[[],W,λi a h=>by simp at h]
 |x::r,k,h=>by
  let(a,e,q):=h 0 x W;let(as,e2,l):=nR (f:=f) (Q:=Q) r (k+1) λi y m=>by
   let e:k+1+i=k+(i+1):=by ext
   rw[e];show h (i+1) y (by simpa using m)
  show#[a::as,by rw[e,e2];rfl,λi b j=>?_];cases i with
  |zero=>cases(show M a=M b from j);show q
  |succ i=>
   let e:k+(i+1)=k+1+i:=by ext
   rw[e];show l i b (by simpa using j)
def Qr(c:UM.strOk a=S)(e:UM.strOk b=S):cH (.str a) (.str b)=M (.fz (.bool (a==b))):=by ext cH;rw[show j4 (.str a)=S by ext j4;rw[show UM.canLay0 (.str a)=S from c];rfl,show UM.canLay0 (.str b)=S from e,WQ,ax W];rfl
def Li(b:UM.strOk a=S):cH (.str a) (.str a)=M (.fz (.bool S)):=by rw[Qr b b,dw]
def zQ(c:UM.strOk a=S)(e:UM.strOk b=S)(h:(a==b)=R):cH (.str a) (.str b)=M (.fz (.bool R)):=by rw[Qr c e,h]
theorem tf{α:Type}{xs:G α}{i:Int}{v:α}(a:0<=i)(h:xs[i.toNat]?=M v):ki xs i=M v:=OO a h
def Rc(a:0<=i)(h:ds[i.toNat]?=M d):aR (.list ds) (.int i)=M (.fz d):=by show(ki ds i).map RV.fz=_;rw[tf a h];rfl
def xx(a:0<=n)(h:n<=1000000):fP [.int n]=M (aO (U0 n.toNat)):=by rw[za (by ext iL;ext),uR]
def J6{s:G Nat}(e:s.Pairwise (·<·))(h:∀k∈s,k<n):s.length<=n:=by
 let:∀(s:G Nat) (a:Nat),s.Pairwise (·<·)->(∀k∈s,a<=k/\k<n)->s.length<=n - a:=by
  intro s
  induction s with
  |nil=>intro a _ _;show Vu _
  |cons x r i=>intro a e h;let(l,j):=V6.mp e;let m:=h x UT;let:=i (x+1) j λk b=>#[l k b,(h k (UX _ b)).2];rw[U4];ext
 show this s 0 e λk b=>#[Vu _,h k b]
def zD(c:fr ρ=.ok (o,ρ1))(hd:nk ρ1 o=M ([d,e],Z))(b:eG d=M es)(a:eG e=M fs):AX fr ρ=.ok (kB es fs,Z):=by ext AX;rw[c,dN,hd,aE,dN];dsimp only;rw[b,aE,dN,a,aE,dN]
def Fv{f g:D->D->I RV}(k:fa ρ=.ok (pa,ρ))(j:fb ρ=.ok (pb,ρ))(i:fc ρ=.ok (pc,ρ))(b:qQ ρ (bp pa)=M dx)(a:qQ ρ (bp pb)=M o)(c:qQ ρ pc=M dz)(h:f dx o=M (.fz (.bool b1)))(e:b1=S->g o dz=M (.fz (.bool b2))):kF f g fa fb fc ρ=.ok (.fz (.bool (b1&&b2)),ρ):=by
 ext kF;rw[k,dN,j,dN];dsimp only;rw[b,aE,dN,a,aE,dN,h,aE,dN];cases b1 with
 |false=>rfl
 |true=>dsimp only;rw[i,dN];dsimp only;rw[a,aE,dN,c,aE,dN,e W,aE,dN];rfl
end
end L3
namespace L3
open PySem PySem.Spec PyProof.Rows L2 PySem.Builtin PySem.Builtin.Str
section
variable{X:Cx}
theorem ER{z:Str}{u:U}(h:RelV (.str z) u):∃t,u=.str z t:=h
theorem qU:∀{a:G Str} {b:G U},Vals (a.map V.str) b->∃l,b=strValues l/\l.map (·.1)=a
 |[],_,.nil=>#[[],W,W]
 |z::r,_,.cons h t=>by let(k,rfl):=ER h;let(l,rfl,e):=qU t;show#[(z,k)::l,W,by rw[U5,e]]
def KL(K:CL):V->G V->Hp->VK->Prop:=λx xs H Q=>∃a l b,x=.str a/\xs=[.ref l]/\Yk K H l (b.map V.str)/\acu a b=S/\Q (.str (Txt.join a b)) H
def Hc:PN X "str.join" (KL X.K):=by
 rintro f s j H x xs v m Q I h b ⟨a,l,n,rfl,rfl,y,V4,q⟩;let(t,rfl):=ER h;let(u,rfl,i):=b.one;ext i;let(r,w,pl,p):=I.list y;let(e,rfl,rfl):=qU w;let g:tooLong ((e.map (·.1)).toArray.foldl (·+·.length+a.length) 0)=R:=by unfold acu at V4;rwa [WM]at V4
 show Ys F.slot_str_join (abc _ _ _) F.entry_str_join (F.args_str_join_2 _ _) (meets_str_join_list a t l e g) #[pl.isList,post_join e #[joinFit_length g,λo k=>#[.str _,H,I.tok k,#[_,W],q]]]
def Qh:V->I Int->I Int->Hp->VK->Prop:=λx lo a H Q=>∃z,x=.str z/\z.length<=UY/\Q (.str (Txt.slice z lo a)) H
def N2:KG X Qh:=by
 rintro b s h H x v p o lo w r Q I n e pl g ⟨z,rfl,y,q⟩;let(t,rfl):=ER n;show#["str",_,F.slot_str_getitem.lookup,abc _ _ _,?_];let a:(Txt.slice z lo w).length<=UY/\∀f k,EP X b h Q (.str (Txt.slice z lo w) f) {s with toks:=k}:=#[Vv (Txt.slice_le z _ _) y,λf k=>#[.str _,H,I.tok k,#[_,W],q]];cases pl with
 |none=>cases g with
  |none=>show XF (l:=P) (u:=P) (st:=P) e W (Zb a)
  |int j u=>show XF (l:=P) (u:=M (j,u)) (st:=P) e W (Zb a)
 |int i u=>cases g with
  |none=>show XF (l:=M (i,u)) (u:=P) (st:=P) e W (Zb a)
  |int j m=>show XF (l:=M (i,u)) (u:=M (j,m)) (st:=P) e W (Zb a)
end
section
variable{K:CL}{E:XK}{B O N:bC}{Y H L:Hp}{Z:L2.St}{X T:aL}{v:V}
def zF:PV->I Str
 |.fz (.str z)=>M z
 |_=>P
def C4{pv:PV}{z:Str}(p:YA K Y O Z H X v pv)(e:zF pv=M z):v=.str z:=by
 unfold zF at e;split at e
 .ext e;cases(show DV O K H v (.str z)from p);rfl
 .ext e
def Tc(K:CL)(r:V->G V->Hp->VK->Prop)(f:Str->G D->I RV):Prop:=∀(O:bC) (H:Hp) (z:Str) (xs:G V) (ds:G D) (a:RV) (Q:VK),kQ O H->Paired (DX O K H) xs ds->f z ds=M a->Fin O K H Q a->r (.str z) xs H Q
def PP(f:Str->G D->I RV)(c:FE)(d:FA):FE:=λX=>(c X).bind λa=>(Res.VO (zF a.1)).bind λz=>(d a.2).bind λb=>(Res.VO (qL b.2 b.1)).bind λds=>(Res.VO (f z ds)).bind λe=>.ok (e.pv,b.2)
def RQ{r:V->bb V->Hp->VK->Prop}{f:Str->bb D->I RV}{to:TE}{c:TA}{d:FE}{k:FA}(o:Tc K r f)(p:EO K E to d)(s:AO K E c k):EO K E (P4 K "str" r to c) (PP f d k):=by intro B Y O Z H X Q R w;show p B Y O Z H X _ R (w.bind.imp λa g A x G e1 t n=>?_);let(z,h,g):=g.VO;obtain rfl:=C4 n h;show#[W,?_];show s B Y A Z G a.2 _ t (g.bind.imp λb e y xs F e2 R2 m=>?_);let(ds,j,e):=e.VO;let(rv,i,e):=e.VO;show o y F z xs ds rv Q R2.od (tH R2 m j) i (jy R2 λu v C e3 q l=>e u v C (e1.trans (e2.trans e3)) q l)
def ub:G D->I (G Str)
 |[]=>M []
 |.str b::r=>(ub r).map (b::·)
 |_=>P
theorem zM{O:bC}{H:Hp}:∀{xs:G V} {ds:G D} {bs:G Str},Wo O K H xs ds->ub ds=M bs->xs=bs.map V.str
 |_,_,_,.nil,e=>by ext e;rfl
 |_,_,bs,.cons (vs:=g) (ds:=r) h t,e=>by
  cases h with
  |str b=>
   let a:(ub r).map (b::·)=M bs:=e;cases q:ub r with
   |none=>rw[q]at a;ext a
   |some f=>rw[q]at a;ext a;rw[zM t q];rfl
  |_=>ext e
def EC(a:G Str):ub (a.map .str)=M a:=by
 induction a with
 |nil=>rfl
 |cons n r b=>show(ub (r.map .str)).map (n::·)=_;rw[b];rfl
def ro(z:Str):G D->I RV
 |[.list ds]=>(match ub ds with
  |some a=>if acu z a=S then M (.fz (.str (Txt.join z a)))else P
  |none=>P)
 |_=>P
def Iq:Tc K (KL K) ro:=by
 intro O H z xs ds m Q n h e q;unfold ro at e;split at e
 .rename_i es
  cases l:ub es with
  |none=>rw[l]at e;ext e
  |some g=>
   rw[l]at e;dsimp only at e;split at e
   .rename_i i
    ext e;cases h with
    |cons f b=>ext b;let(a,j,rfl,f,b):=Bi f;let:=zM b l;subst this;show#[z,a,g,W,W,f.sq,i,q.at (.str _)]
   .ext e
 .ext e
def nY:D->I Int->I Int->I RV
 |.str z,lo,a=>if z.length<=1000000 then M (.fz (.str (Txt.slice z lo a)))else P
 |_,_,_=>P
def Kj:Q4 K Qh nY:=by
 intro O H x lo g h f Q n a e q;unfold nY at e;split at e
 .split at e
  .rename_i b;ext e;ext a;show#[_,W,qh b,q.at (.str _)]
  .ext e
 .ext e
def xL:D->D->I RV
 |.str i,.str j=>if i.length+j.length<=1000000 then M (.fz (.str (i++j)))else P
 |_,_=>P
def Cd:iA K (λx y H Q=>∃i j,x=.str i/\y=.str j/\i.length+j.length<=UY/\Q (.str (i++j)) H) xL:=by
 intro O H x y l g h Q n b a e q;unfold xL at e;split at e
 .split at e
  .rename_i f;ext e;ext b;ext a;show#[_,_,W,W,qh f,q.at (.str _)]
  .ext e
 .ext e
end
end L3
namespace L2
open PySem PySem.Spec PyProof.Rows
section
variable{Y:Type}[DecidableEq Y]
def iZ(b:G (Y×V))(k:Y):I V:=(b.find? λa=>decide (a.1=k)).map (·.2)
def ig(b:G (Y×V))(k:Y)(v:V):G (Y×V):=
 if(b.any λa=>decide (a.1=k))=S then b.map (λa=>if a.1=k then(a.1,v)else a)else b++[(k,v)]
def lj(b:G (Y×V))(k:Y):G (Y×V):=b.filter λa=>decide (a.1≠k)
def pP{k:Y}(e:p.1=k):iZ (p::r) k=M p.2:=by simp[iZ,VG,e]
def pY{k:Y}(e:¬p.1=k):iZ (p::r) k=iZ r k:=by simp[iZ,VG,e]
theorem uv(k:Y):∀a:G (Y×V),(a.any λb=>decide (b.1=k))=(iZ a k).isSome
 |[]=>rfl
 |p::r=>by
  rw[Xm];by_cases e:p.1=k
  .simp only[pP e,a4 e,YE,abI]
  .rw[pY e,a5 e,Zj];show uv k r
def jh(a:G (Y×V))(k:Y)(v:V):(ig a k v).length<=a.length+1:=by
 ext ig;split
 .rw[UK];ext
 .rw[US,U4,W2];ext
def Yi.Yj(r:Yi o u):o.isSome=u.isSome:=by
 cases o with
 |none=>cases u with
  |none=>rfl
  |some _=>show(show False from r).elim
 |some _=>cases u with
  |none=>show(show False from r).elim
  |some _=>rfl
def KV.val{d:G (Y×V)}{c:G (Y×U)}(r:KV d c)(k:Y):Yi (iZ d k) (valueAt c k):=by
 unfold KV at r
 induction r with
 |nil=>show True.intro
 | @cons p q l i h t j=>
  let(f,g):=h;by_cases e:p.1=k
  .let a:q.1=k:=f.symm.trans e
   let b:valueAt (q::i) k=M q.2:=by simp[valueAt,VG,a]
   rw[pP e,b];show g
  .let a:¬q.1=k:=λz=>e (f.trans z)
   let b:valueAt (q::i) k=valueAt i k:=by simp[valueAt,VG,a]
   rw[pY e,b];show j
def KV.any(r:KV Vi vs)(k:Y):(Vi.any λb=>decide (b.1=k))=vs.any λb=>decide (b.1=k):=by
 unfold KV at r
 induction r with
 |nil=>rfl
 |cons h t a=>rw[Xm,Xm,a,h.1]
def KV.aef(r:KV Vi vs)(k:Y)(b:RelV y u):
  KV (Vi.map λc=>if c.1=k then(c.1,y)else c) (vs.map λc=>if c.1=k then(c.1,u)else c):=by
 unfold KV at r⊢
 induction r with
 |nil=>show .nil
 | @cons p q j i h t g=>
  rw[U5,U5];show .cons ?_ g;let(a,f):=h;by_cases e:p.1=k
  .rw[ax e,ax (a.symm.trans e)];show#[a,b]
  .rw[a3 e,a3 (λz=>e (a.trans z))];show#[a,f]
def KV.put(r:KV Vi vs)(k:Y)(a:RelV y u):KV (ig Vi k y) (stored vs k u):=by
 unfold ig stored;rw[r.any k];by_cases e:(vs.any λb=>decide (b.1=k))=S
 .rw[ax e,ax e];show r.aef k a
 .rw[a3 e,a3 e];show Paired.snoc r #[W,a]
def KV.drop(r:KV Vi vs)(k:Y):KV (lj Vi k) (without vs k):=by
 unfold KV at r⊢;unfold lj without
 induction r with
 |nil=>show .nil
 | @cons p q m l h t j=>
  let(f,g):=h;rw[XN,XN];by_cases e:p.1=k
  .let a:¬decide (p.1≠k)=S:=by simp[e]
   let b:¬decide (q.1≠k)=S:=by simp[f.symm.trans e]
   rw[a3 a,a3 b];show j
  .let i:¬q.1=k:=λz=>e (f.trans z)
   let a:decide (p.1≠k)=S:=by simp[e]
   let b:decide (q.1≠k)=S:=by simp[i]
   rw[ax a,ax b];show .cons #[f,g] j
def KV.keys{b:G (Y×U)}(r:KV Vi b):Vi.map (·.1)=b.map (·.1):=by
 unfold KV at r
 induction r with
 |nil=>rfl
 |cons h t a=>rw[U5,U5,a,h.1]
theorem KV.length(r:KV Vi vs):Vi.length=vs.length:=Paired.length r
theorem EY(a:G (Y×V))(k:Y):(lj a k).length<=a.length:=XJ _ _
end
def rM(r:RelV (kV k) u):(cz a w).is k u=S:=by
 cases k with
 |inl i=>let(t,e):=(show∃t,u=UI.int i t from r);subst e;show wa a w i t
 |inr x=>let(t,e):=(show∃t,u=UI.str x t from r);subst e;show vv a w x t
theorem rA:∀{b:G b9} {us:G U},Vals (b.map kV) us->ItemsAre (cz a w) b us
 |[],_,r=>by rw[X0]at r;ext r;show .nil
 |k::b,_,r=>by
  rw[U5]at r;cases r with
  |cons h t=>show .cons (rM h) (rA t)
abbrev KT(H:Hp):G (G b9×V)->G (G b9×J×U)->Prop:=Paired λp q=>p.1=q.1/\H q.2.1=M (.tup (p.1.map kV))/\RelV p.2 q.2.2
def KT.val(r:KT H Vi xs)(k:G b9):Yi (iZ Vi k) ((atKey xs k).map (·.2)):=by
 induction r with
 |nil=>show True.intro
 | @cons p q l i h t j=>
  let(f,_,g):=h;by_cases e:p.1=k
  .let a:=f.symm.trans e
   let b:atKey (q::i) k=M q.2:=by simp[atKey,VG,a]
   rw[pP e,b];show g
  .let a:¬q.1=k:=λz=>e (f.trans z)
   let b:atKey (q::i) k=atKey i k:=by simp[atKey,VG,a]
   rw[pY e,b];show j
def KT.aef(r:KT H Vi xs)(k:G b9)(f:RelV y u):
  KT H (Vi.map λc=>if c.1=k then(c.1,y)else c) (xs.map (putAt k u)):=by
 induction r with
 |nil=>show .nil
 | @cons p q l j h t i=>
  rw[U5,U5];show .cons ?_ i;let(a,b,g):=h;ext putAt;by_cases e:p.1=k
  .rw[ax e,ax (a.symm.trans e)];show#[a,b,f]
  .rw[a3 e,a3 (λz=>e (a.trans z))];show#[a,b,g]
def KT.put(r:KT H Vi xs)(k:G b9)(g:H b=M (.tup (k.map kV)))(a:RelV y u):
  KT H (ig Vi k y) (storedH xs k b u):=by
 let e:(Vi.any λf=>decide (f.1=k))=(atKey xs k).isSome:=by rw[uv,(r.val k).Yj,X9]
 unfold ig storedH;rw[e];by_cases q:(atKey xs k).isSome=S
 .rw[ax q,ax q];show r.aef k a
 .rw[a3 q,a3 q];show Paired.snoc r #[W,g,a]
theorem KT.keeps(r:KT H Vi xs)(a:∀b ys,H b=M (.tup ys)->H' b=M (.tup ys)):KT H' Vi xs:=
 Paired.Yb r λ_ _ z=>#[z.1,a _ _ z.2.1,z.2.2]
section
variable{P:Vc}{w:Vw}{H:Hp}{h:Heap}{a:UP}
theorem Kr(ok:YT P w H h)(e:Rd H a u):ObjOk P w H h a u:=e.ok ok
theorem uP(ok:YT P w H h)(e:Rd H a (.dK o)):o.length<=UY/\(a==WJ)=R/\∃b,KV o b/\h.DictOf (cz P w) a b:=
 show ObjOk P w H h a (.dK o)from Kr ok e
theorem vO(ok:YT P w H h)(e:H a=M (.dK o)):o.length<=UY/\(a==WJ)=R/\∃b,KV o b/\h.DictOf (cz P w) a b:=uP ok (.inl e)
def tT{c:G b9}(ok:YT P w H h)(e:H a=M (.tup (c.map kV))):(tupleKind (cz P w)).is h c a:=by let(_,i,r,o,g,(f,n,b),_):=(show ObjOk P w H h a (.tup (c.map kV))from ok a _ e);show#[o,i.toArray,n,g,f,b,by simpa using rA r]
def vL(ok:YT P w H h)(e:Rd H a (.dT C)):C.length<=UY/\(a==WJ)=R/\
  ∃xs,KT H C xs/\h.DictOfH (tupleKind (cz P w)) a xs:=by
 let(z,y,xs,r,o,es,u,n,j,i,g,f):=(show ObjOk P w H h a (.dT C)from Kr ok e);show#[z,y,xs,r,o,es,u,n,j,i,g,λx b=>?_,f];let all:∀{l:G (G b9×V)} {m:G (G b9×J×U)},KT H l m->∀x∈m,(tupleKind (cz P w)).is h x.1 x.2.1:=by
  intro l m q
  induction q with
  |nil=>intro x b;show nomatch b
  | @cons p q E B v t A=>
   intro x b;rcases Vh.mp b with e|b
   .subst e;show tT ok (by rw[<-v.1];show v.2.1)
   .show A x b
 show all r x b
theorem Qo(ok:YT P w H h)(e:H a=M (.dT o)):o.length<=UY/\(a==WJ)=R/\
  ∃xs,KT H o xs/\h.DictOfH (tupleKind (cz P w)) a xs:=vL ok (.inl e)
end
def aav(H:Hp)(a:J)(y:V)(r:I V):Prop:=
 (∃e k,Rd H a (.dK e)/\y=kV k/\r=iZ e k)\/∃e k b,Rd H a (.dT e)/\y=.ref b/\H b=M (.tup (k.map kV))/\r=iZ e k
def acP(H:Hp)(a:J)(y v:V)(H':Hp):Prop:=
 (∃e k,H a=M (.dK e)/\y=kV k/\e.length<UY/\H'=aW H a (.dK (ig e k v)))\/
 ∃e k b,H a=M (.dT e)/\y=.ref b/\H b=M (.tup (k.map kV))/\e.length<UY/\H'=aW H a (.dT (ig e k v))
theorem aav.k{k:b9}(e:H a=M (.dK Vi)):aav H a (kV k) (iZ Vi k):=.inl #[Vi,k,.inl e,W,W]
theorem acP.k{k:b9}(e:H a=M (.dK Vi))(b:Vi.length<UY):acP H a (kV k) v (aW H a (.dK (ig Vi k v))):=.inl #[Vi,k,e,W,b,W]
section
variable{X:Cx}{Z:bb (UP×Obj)}{Y:St}{H:Hp}{s:UQ}{a:UP}{y v:V}{u r:UI}{o:bg V}{A:Vq}{E:UI->UQ->Prop}
def Inv.big(I:Inv X Z Y H s):WJ<s.heap.objs.size:=by let h:=(I.mod.glob.keeps I.bk).lt;show XA () h
def BJ{Q:U->UQ->Prop}(t:A.units+1<cLine)(I:Inv X Z Y H s)(g:aav H a y (M v))(q:RelV y u)(h:∀c d,Inv X Z Y H d->RelV v c->Q c d):
  wpAny (model X.prog X.w) A (getItem (.ref a) u) Q E s:=by
 rcases g with⟨L,k,e,n,l⟩|⟨L,k,b,e,n,F,l⟩
 .subst n;let(z,C,w,i,dd):=uP I.V4 e;let(c,j,f):=Yi.some_of (v:=v) (o:=valueAt w k) (by rw[l];show i.val k);show wpAny_getItem_of (rM q) dd.mapOf j (h c _ (I.tok _) f)
 .subst n;cases(show u=UI.ref b from q);let(z,C,xs,i,dd):=vL I.V4 e;let(c,j,f):=Yi.some_of (v:=v) (o:=(atKey xs k).map (·.2)) (by rw[l];show i.val k);let(p,B,m):=Yw.mp j;show ad8 (ZS t) (tT I.V4 F) dd B ?_;rw[m];show h c _ (I.tok _) f
def S9{Q:U->UQ->Prop}(n:A.units+1<cLine)(I:Inv X Z Y H s)(g:aav H a y o)(m:RelV y u)(h:∀c,Inv X Z Y H c->Q (.bool o.isSome) c):
  wpAny (model X.prog X.w) A (V1 .In u (.ref a)) Q E s:=by
 rcases g with⟨t,k,e,j,l⟩|⟨t,k,b,e,j,p,l⟩
 .subst j;let(z,i,w,f,dd):=uP I.V4 e;show wpAny_in_of (rM m) i dd.mapOf ?_;rw[<-(f.val k).Yj,<-l];show h _ (I.tok _)
 .subst j;cases(show u=UI.ref b from m);let(z,i,xs,f,dd):=vL I.V4 e;show ajI (ZS n) (tT I.V4 p) i dd ?_;let q:=(f.val k).Yj;rw[X9]at q;rw[<-q,<-l];show h _ (I.tok _)
theorem nQ{c:Heap}{d:Nat}{f:HO}(I:Inv X Z Y H s)(g:QG (H a))(h:Heap.SameBut a s.heap c)(i:∃q,c.get? a=M q)(new:ObjOk X.prog X.w (aW H a f) c a f):
  Inv X Z Y (aW H a f) {s with heap:=c,toks:=d}:=
 I.write (x:=a) (e:=a) g (.inl W) (λb q j z=>(h.2 b j).trans z) i new
theorem xb(z:Vi.length<=UY)(hd:(a==WJ)=R)(b:KV Vi C)(dd:h'.DictOf (cz e w) a C):
  ObjOk e w H' h' a (.dK Vi):=#[z,hd,C,b,dd]
def AZ{H':Hp}{Q:Unit->UQ->Prop}(L:A.units+1<cLine)(I:Inv X Z Y H s)(g:acP H a y v H')(F:RelV y u)(x:RelV v r)(h:∀d,Inv X Z Y H' d->Q ⟨⟩ d):
  wpAny (model X.prog X.w) A (setItem (.ref a) u r) Q E s:=by
 rcases g with⟨w,k,e,B,l,C⟩|⟨w,k,b,e,B,K,l,C⟩
 .subst B C
  let(z,t,vs,f,dd):=vO I.V4 e;let m:vs.length<=UY:=by rw[<-f.length];show z
  let p:(ig w k v).length<=UY:=by let:=jh w k v;ext
  show wpAny_setItem_pairs (hsz:=m) (rM F) dd λG i n=>h _ ?_;let M:∃q,G.get? a=cL q:=let#[q,_,_,j,_]:=i;#[q,j]
  show nQ I (by rw[e];show True.intro) n M (xb p t (f.put k x) i)
 .subst B C
  cases(show u=UI.ref b from F);let(z,t,xs,f,dd):=Qo I.V4 e;let m:xs.length<=UY:=by rw[<-Paired.length f];show z
  let p:(ig w k v).length<=UY:=by let:=jh w k v;ext
  show ad9 (hsz:=m) (ZS L) (tT I.V4 K) dd λG i n=>h _ ?_;let(q,es,S,j,R,P,O,_,N):=i;show nQ I (by rw[e];show True.intro) n #[q,j] #[p,t,_,(f.put k K x).keeps λc T J=>?_,q,es,S,j,R,P,O,N];rw[au (QH J e (λz=>nomatch z))];show J
end
section
variable{X:Cx}{Z:bb (UP×Obj)}{T:St}{H:Hp}{s:UQ}{a:UP}{Y:bb (b9×V)}{k:b9}{u:UI}{A:Vq}{E:UI->UQ->Prop}
def Sb{v:V}{b:G U}{Q:U->UQ->Prop}(I:Inv X Z T H s)(e:H a=M (.dK Y))(j:RelV (kV k) u)(l:iZ Y k=M v)(hm:b=[]\/∃x,b=[x])
  (h:∀c d,Inv X Z T (aW H a (.dK (lj Y k))) d->RelV v c->Q c d):wpAny (model X.prog X.w) A (call (.builtin "dict.pop") (.ref a::u::b)) Q E s:=by
 let(z,B,w,f,dd):=vO I.V4 e;let(c,n,m):=Yi.some_of (v:=v) (o:=valueAt w k) (by rw[<-l];show f.val k);let r:(keyPart u).isSome=S:=by
  cases k with
  |inl i=>let(t,q):=(show∃t,u=UI.int i t from j);subst q;rfl
  |inr x=>let(t,q):=(show∃t,u=UI.str x t from j);subst q;rfl
 let N:argsOk "dict.pop" #[.ref a::u::b,[]]:=by
  rcases hm with q|⟨x,q⟩
  .subst q;show PySem.F.args_dict_pop_2 _ _
  .subst q;show PySem.F.args_dict_pop_3 _ _ _
 show call_meetsIn aaI dd.typeIs PySem.F.entry_dict_pop N (meets_dict_pop_there (cz X.prog X.w) a (rM j) b hm r)
  #[w,c,dd,by rw[<-f.length];show z,n,λC g p=>h c _ ?_ m]
 let y:∃q,C.get? a=M q:=let#[q,_,_,L,_]:=g;#[q,L]
 show nQ I (by rw[e];show True.intro) p y (xb (Vv (EY Y k) z) B (f.drop k) g)
end
def PF(i:Va):Prop:=∀a b,subscripted i R a b=operate [a,b] (getItem a b)
def yY{T id:String}
  (m:typeLookup (.type T) "__getitem__"=pure (M (.builtin id))) (l:PF slice)
  (h:wpAny (model prog w) A (eval value env) (λo d=>wpAny (model prog w) A (eval slice env) (λi c=>c.TypeIs o T/\wpAny (model prog w) A (getItem o i) Q E c) E d) E s):
  wpAny (model prog w) A (eval (.Subscript value slice pos) env) Q E s:=by
 show Subscript_ (wpAny_mono h (λo d g=>wpAny_mono g (λi c a=>?_) λ_ _ x=>x) λ_ _ x=>x);let(j,a):=a;ext subscriptTail;show Ld ?_;rw[getitemInPython_of_ne j.not_modules];show Ld (Zc j m ?_);let e:wpAny (model prog w) A (subscripted slice R o i) (λr b=>wpAny (model prog w) A (letTemporaryGo value o r>>=λ_=>pure r) Q E b) E c:=by rw[l o i];show wpAny_operating (wpAny_mono a (λr b f=>Ld (wpAny_letTemporaryGo (UR f))) λ_ _ x=>x)
 first
  |show UR (Ld e)
  |show Ld (UR (Ld e))
  |show Ld e
def v8(I:Inv X pins σ H s)(g:aav H a y o):s.TypeIs (.ref a) "dict":=by
 rcases g with⟨f,k,e,_,_⟩|⟨f,k,b,e,_,_,_⟩
 .let(_,_,h,_,dd):=uP I.V4 e;show dd.typeIs
 .let(_,_,xs,_,dd):=vL I.V4 e;show dd.typeIs
def Lw(f ty:TE):TE:=λb H Q=>f b H λx g=>ty b g λy e=>∃a v,x=.ref a/\aav e a y (M v)/\Q v e
def Qy(ty f:TE):TE:=λb H Q=>ty b H λy g=>f b g λx e=>∃a o,x=.ref a/\aav e a y o/\Q (.bl o.isSome) e
def Ll(f ty e:TE):TS:=λD b H=>e b H λv i=>f b i λx h=>ty b h λy g=>∃a j,x=.ref a/\acP g a y v j/\D.nx b j
section
variable{X:Cx}{o i e Z:Va}{pos Y ajB:Pos}{T U tv:TE}
def GA(t:X.A.units+1<cLine)(B:PE X o T)(c:PE X i U)(w:PF i):PE X (.Subscript o i pos) (Lw T U):=by intro b s j H Q I h;show yY Z4.lookup w (bP (B b s j H _ I h) λu m #[x,A,F,p,r]=>bP (c b m j A _ F r) λN M a=>?_);let(y,G,l,n,a,v,C,g,q):=a;subst C;obtain rfl:=p;show#[v8 l g,BJ t l g n λK L E f=>#[v,G,E,f,q]]
def DT(r:X.A.units+1<cLine)(c:PE X i U)(t:PE X o T):PC X .In i o (Qy U T):=by intro b s f H Q I h;show bP (c b s f H _ I h) λK j #[y,F,C,l,p]=>bP (t b j f F _ C p) λu J a=>?_;let(x,E,B,m,a,q,v,g,n):=a;subst v;obtain rfl:=m;show S9 r B g l λG w=>#[.bl q.isSome,E,w,W,n]
def Ju(B:X.A.units+1<cLine)(E:PE X o T)(c:PE X i U)(w:PE X Z tv)(C:Xe Z (cL (.Subscript o i Y)) pos.line X.env=pure UL):
  PS X (.Assign [.Subscript o i Y] Z pos) (Ll T U tv):=by
 intro b s f H D I h;show acv (bP (w b s f H _ I h) λr l #[v,O,L,rv,t]=>bP (E b l f O _ L t) λu j #[x,N,K,n,q]=>bP (c b j f N _ K q) λR Q a=>?_) C;let(y,S1,A,m,a,Mz0,F,g,p):=a;subst F;obtain rfl:=n;show AZ B A g m rv λP G=>#[f,Mz0,G,p]
end
def lK(c a:G (b9×V)):G (b9×V):=a.foldl (λb e=>ig b e.1 e.2) c
def KV.merge:∀{a:G (b9×V)} {b:G (b9×U)} {d:G (b9×V)} {c:G (b9×U)},KV a b->KV d c->KV (lK d a) (merged c b):=by
 intro a b d c r;unfold KV at r
 induction r generalizing d c with
 |nil=>intro q;show q
 | @cons p q j i h t g=>
  intro f;let e:KV (ig d p.1 p.2) (stored c q.1 q.2):=by let:=f.put p.1 h.2;rw[<-h.1];show this
  show g e
theorem jZ:∀(a c:G (b9×V)),(lK c a).length<=c.length+a.length
 |[],c=>by show c.length<=c.length+0;ext
 |p::r,c=>by let e:=jZ r (ig c p.1 p.2);let b:=jh c p.1 p.2;show(lK (ig c p.1 p.2) r).length<=_;rw[U4];ext
structure M1(X:Cx)(o:Va)(m:Str)(apos:Pos)(e:Va)(Xt:Pos):Prop where
 base:attributeBase o m X.env (eval o X.env)=eval o X.env
 few:((backTo Xt (U7 [e] X.env)).all (λx=> !x.1)&&(backToKw Xt (keywordEach [] X.env)).all (λx=>x.1.isSome)
  &&decide (([e]:G Va).length+([]:G YC).length+(if([]:G YC).isEmpty then 0 else 1)<30))=S
 line:(apos.endLine==Xt.line)=S
 trees:backTo Xt (U7 [e] X.env)=[(R,eval e X.env)]
structure M2(X:Cx)(o:Va)(m:Str)(apos:Pos)(e f:Va)(Xt:Pos):Prop where
 base:attributeBase o m X.env (eval o X.env)=eval o X.env
 few:((backTo Xt (U7 [e,f] X.env)).all (λx=> !x.1)&&(backToKw Xt (keywordEach [] X.env)).all (λx=>x.1.isSome)
  &&decide (([e,f]:G Va).length+([]:G YC).length+(if([]:G YC).isEmpty then 0 else 1)<30))=S
 line:(apos.endLine==Xt.line)=S
 trees:backTo Xt (U7 [e,f] X.env)=[(R,eval e X.env),(R,eval f X.env)]
def Tz(H:Hp)(a:J):Prop:=(∃b,Rd H a (.dK b))\/∃b,Rd H a (.dT b)
def O0(I:Inv X pins σ H s)(d:Tz H a):
  s.TypeIs (.ref a) "dict"/\(∀b,UI.ref a=.ref b->∃c,s.heap.get? b=M c/\c.dict=P)/\(a==WJ)=R:=by
 rcases d with⟨i,e⟩|⟨i,e⟩
 .let(_,f,j,_,dd):=uP I.V4 e;show#[dd.typeIs,λb q=>?_,f];ext q;let(c,_,_,h,g,_):=dd;show#[c,h,g.2.1]
 .let(_,f,xs,_,dd):=vL I.V4 e;show#[dd.typeIs,λb q=>?_,f];ext q;let(c,_,_,h,g,_):=dd;show#[c,h,g.2.1]
def Fs(g ty:TE):TE:=λb H Q=>g b H λx f=>∃a,x=.ref a/\Tz f a/\ty b f λy e=>∃h k v,e a=M (.dK h)/\y=kV k/\iZ h k=M v/\Q v (aW e a (.dK (lj h k)))
section
variable{X:Cx}{o e f:Va}{Z Xt:Pos}{td ty tx:TE}
def Ew(B:PE X o td)(C:PE X e ty)(m:M1 X o "pop" Z e Xt):PE X (.Call (.Attribute o "pop" Z) [e] [] Xt) (Fs td ty):=by intro b s i H Q I h;show wpAny_Call_method m.base m.few m.line aaj aaI PySem.F.type_dict_pop (bP (B b s i H _ I h) λu q a=>?_);let(x,T,j,t,a,G,d,A):=a;subst G;obtain rfl:=t;let(p,n,_):=O0 j d;show#[p,n,?_];rw[m.trees];show Calls.callWith_builtin W (Calls.evalArgs_plain (Calls.spliced_cons (bP (C b q i T _ j A) λR P a=>?_)));let(y,Y,L,r,Vi,k,v,F,E,l,w):=a;show Calls.spliced_nil ?_;subst E;show Sb L F r l (.inl W) λN O K g=>#[v,_,K,g,w]
end
end L2
namespace L4
open PySem PySem.Spec PyProof.Rows L2 L3
def Rk(h:Heap)(e:J)(c:U)(d:I J)(a:U)(hd:I J):Prop:=
 ∃b fs,h.get? e=M b/\b.cls=c/\b.dict=d/\b.data=.fields fs/\fs[0]?=M a/\
  match hd with
  |none=>fs[1]?=M .none
  |some T=>fs[1]?=M (.ref T)/\T≠e/\∃g f,h.get? T=M g/\g.data=.fields f/\f[3]?=M .none
structure Lft(l:G Env)(e:J)(hd:I J)(h h':Heap):Prop where
 keep:∀b o,h.get? b=M o->b≠e->hd≠M b->b∉xK l->h'.get? b=M o
 slot:∀b o,h.get? b=M o->b≠e->hd≠M b->∃sl,h'.get? b=M {o with slots:=sl}
 here:∀b o,h.get? b=M o->∃o',h'.get? b=M o'
section
variable{M:Model}{A:Vq}{E:UI->UQ->Prop}{s:UQ}
def on
  (I:A.frames=cL (env::outer)) (B:s.heap.FunFrames base (env::outer)) (H:env.frame=cL L) (C:s.heap.get? e=cL ob) (p:ob.data=.fields fs) (m:1<fs.size) (J:fs[0]?=cL a0)
  (k:∀D T,s.heap.objs.size<=T->Rk D e ob.cls ob.dict a0 (cL T)->Lft (env::outer) e lD s.heap D->Q ⟨⟩ {s with heap:=D}):
  wpAny M A (frameOf env>>=λfr=>entryPlaceOf L nx>>=λpl=>EntryCells.newEntry hv fr .none (rawInt L) .none pl>>=λb=>setField (.ref e) 1 b) (λ_ V=>wpAny M A (setFlight (.ref e) lD) Q E V) E s:=by
 let j:e∉(env::outer).filterMap (·.frame):=λz=>by let(_,o,q,n):=B.mem z;rw[C]at q;ext q;show n fs p
 show Ld (wpAny_frameOf_fun I B H λa S=>?_);show Ld (wpAny_entryPlaceOf λpl P=>?_);unfold EntryCells.newEntry newFields;show Ld (V0 ?_ (P.sizeOk5 _ _ _ _ _));let y:=(S.2.1 e j).trans C;generalize X:({cls:=.type "traceback",dict:=lD,data:=.fields ([hv,.ref L,.none,rawInt L,.none]++(if pl.isEmpty then UW 6 UI.none else pl)).toArray}:Obj)=N;let g:N.data=.fields ([hv,.ref L,.none,rawInt L,.none]++(if pl.isEmpty then UW 6 UI.none else pl)).toArray:=by rw[<-X]
 let K:=cv g;let w:=bt N y;show XS w p m ?_;let l:=VW (b3 y);let r:=cn p (·.setIfInBounds 1 (UI.ref a.objs.size));let i:=b7 (Obj.mapFields (·.setIfInBounds 1 (UI.ref a.objs.size))) w (cv r)
 let u:=
  (b5 (a.push N) (Obj.mapFields (·.setIfInBounds 1 (UI.ref a.objs.size))) l.symm).trans (b4 a K)
 ext setFlight;show Ld (VS i r (x:=.ref a.objs.size) (by simp[m]) ?_);rw[ax (show(UI.ref a.objs.size !=UI.none)=UJ from by simp)];let t:3<([hv,.ref L,.none,rawInt L,.none]++(if pl.isEmpty then UW 6 UI.none else pl)).toArray.size:=by simp only[U3,US,U4,W2];ext
 show XS u g t ?_;let v:=b5 ((a.push N).update e (Obj.mapFields (·.setIfInBounds 1 (UI.ref a.objs.size)))) (Obj.mapFields (·.setIfInBounds 3 ((lD:bg UP).elim UI.none λf=>rawInt f))) l;let F:=b7 (Obj.mapFields (·.setIfInBounds 3 ((lD:bg UP).elim UI.none λf=>rawInt f))) u (cv (cn g _));let YY:∀b o,b≠e->a.get? b=cL o->(((a.push N).update e (Obj.mapFields (·.setIfInBounds 1 (UI.ref a.objs.size)))).update a.objs.size (Obj.mapFields (·.setIfInBounds 3 ((lD:bg UP).elim UI.none λf=>rawInt f)))).get? b=cL o:=λb o ne q=>by rw[b5 _ _ (VW (b3 q)),b5 _ _ ne.symm];show bt N q
 show k _ a.objs.size (by rw[S.1];show UU _) #[_,_,v.trans i,Obj.cls_mapFields _ _,?_,r,?_,?_,l,_,_,F,cn g _,?_] #[λb o q ne _ G=>YY b o ne ((S.2.1 b G).trans q),λb o q ne _=>?_,λb o q=>?_]
 .cases ob with
  |mk c d O h=>ext O<;>rfl
 .rw[ZC ()];show J
 .simp[m]
 .rw[Array.getElem?_setIfInBounds_self_of_lt t];rfl
 .let(h,z):=S.2.2 b o q;show#[h,YY b _ ne z]
 .by_cases ne:b=e
  .subst ne;show#[_,v.trans i]
  .let(h,z):=S.2.2 b o q;show#[_,YY b _ ne z]
def Ba
  (v:A.frames=cL (env::outer)) (u:s.heap.FunFrames base (env::outer)) (h:env.frame=cL L) (F:Rk s.heap e c dx a0 hd)
  (k:∀x T,s.heap.objs.size<=T->Rk x e c dx a0 (cL T)->Lft (env::outer) e hd s.heap x->Q ⟨⟩ {s with heap:=x}):wpAny M A (leaving env (.ref e)) Q E s:=by
 let(N,fs,q,I,H,d,w,r):=F;subst I H;cases hd with
 |none=>let r:=r;unfold leaving noteFrame;simp only[h];show Ld (Ld (VS q d r ?_));rw[a3 ()];show on v u h q d (Xd.mp r).1 w k
 |some T=>
  let(r,C,O,B,g,dT,p):=r;unfold leaving noteFrame;simp only[h];show Ld (Ld (VS q d r ?_));rw[ax (show(UI.ref T !=UI.none)=S from by simp)];show Ld (VS g dT p ?_);rw[a3 (show¬((UI.none==rawInt L)=S)from by simp[rawInt])];show Ld (XS g dT (Xd.mp p).1 ?_);let a:∀b,b≠T->(s.heap.update T (Obj.mapFields (·.setIfInBounds 3 UI.none))).get? b=s.heap.get? b:=λb ne=>b5 _ _ ne.symm;let f:=b7 (Obj.mapFields (·.setIfInBounds 3 UI.none)) g (cv (cn dT _));let m:∀b o,s.heap.get? b=cL o->(∀X,o.data≠.fields X)->b≠T:=λb o z n y=>by rw[y,g]at z;ext z;show n B dT
  show on v (u.of_keeps λb o z n=>#[o,(a b (m b o z n)).trans z,W]) h ((a e C.symm).trans q) d (Xd.mp r).1 w λx J t K i=>k x J (by rw[Heap.size_after_update]at t;show t) K #[λb o z l j G=>?_,λb o z l j=>?_,λb o z=>?_]
  .show i.keep b o ((a b λy=>j (by rw[y])).trans z) l (by simp) G
  .show i.slot b o ((a b λy=>j (by rw[y])).trans z) l (by simp)
  .by_cases y:b=T
   .subst y;show i.here b _ f
   .show i.here b o ((a b y).trans z)
end
theorem Lft.V4{P:Vc}{w:Vw}{l:G Env}{e:J}{hd:I J}{H:Hp}{h d:Heap}(L:Lft l e hd h d)(m:YT P w H h)(ne:H e=lD)(i:∀T,hd=M T->H T=lD)(j:∀b∈xK l,H b=lD):YT P w H d:=λb u q=>by
 let free:∀c v,H c=M v->c≠e/\hd≠M c/\c∉xK l:=λc v z=>#[(λy=>by rw[y,ne]at z;ext z),(λy=>by rw[i c y]at z;ext z),(λy=>by rw[j c y]at z;ext z)];show(m b u q).YY (λc v n z=>?_) (λ_ z=>z) λ_ _ z=>z;rcases n with y|y
 .rw[y]at z⊢;let(g,f,a):=free b u q;show L.keep b v z g f a
 .let(g,f,a):=free c _ y;show L.keep c v z g f a
def lB(P:Vc)(w:Vw):tE:=λa H s E x b=>
 ∃e c f a0 T H',x=.ref e/\s.heap.get? e=lD/\s.heap.get? T=lD/\Rk b.heap e c f a0 (M T)/\H' e=lD/\H' T=lD/\
  b.os=s.os/\AllBare b.gens/\Un (xK a) [] H H' s.heap b.heap/\YT P w H' b.heap/\E c f H'
def LS{P:Vc}{w:Vw}{K:CL}{k:Str->bg UI}{base:Heap}{N:bb Str}{i:Str}{a:WO}{f:UP}{v:UI}{A:Vq}{outer:bb Env}{g:UQ}{G:Hp}{E:XK}
  {l:bb (UP×Obj)} {J:L2.St} {H:Hp} {s:UQ} {e:UP} {c C:UI} {d hd:bg UP} (I:L2.Inv (eZ (lB P w) P w K k base N i a f v A outer g G E) l J H s)
  (F:Rk s.heap e c d C hd) (u:g.heap.get? e=lD) (S:∀T,hd=cL T->g.heap.get? T=lD) (ne:H e=lD) (Q:∀T,hd=cL T->H T=lD) (q:E c d H):
  (eZ (lB P w) P w K k base N i a f v A outer g G E).xe (.ref e) s:=by
 let Z:=I.ok.frames;let Y:=I.stack;show Ba (L:=g.heap.objs.size) Z Y W F λh' T t F' L=>?_;let R:=L.V4 I.V4 ne Q I.aax;let X:H T=lD:=I.V4.fresh t;let p:∀b o,g.heap.get? b=cL o->b<g.heap.objs.size:=λb o z=>b3 z;let h:∀b o,g.heap.get? b=cL o->b≠e/\hd≠cL b:=λb o z=>#[(λy=>by rw[y,u]at z;ext z),(λy=>by rw[S b y]at z;ext z)];let sz:=I.sz;show#[e,c,d,C,T,H,W,u,ck (Vv sz t),F',ne,X,I.os,I.bare,?_,R,q];let B:=I.base;show#[λb o z n r _=>?_,λb o z n U _=>?_,λb o z n _=>?_,λb o z _=>?_,B.aad,B.ZY,B.aaf]
 .let j:=B.keep b o z n r (λy=>nomatch y)
  show L.keep b o j (h b o z).1 (h b o z).2 λy=>?_;rcases Vh.mp (I.aaE b y)with y|y
  .let y:b=g.heap.objs.size:=y;show a7 (p b o z) (by rw[y];show Wd _)
  .show r y
 .let(sl,j):=B.slot b o z n U (λy=>nomatch y);let(m,M):=L.slot b _ j (h b o z).1 (h b o z).2;show#[m,M]
 .show B.free b o z n (λy=>nomatch y)
 .let(O,j):=B.there b o z (λy=>nomatch y);show L.here b O j
def DP{P:Vc}{w:Vw}{K:CL}{d:Str->bg U}{base:Heap}{N:G Str}{g:Str}{a:WO}{f:J}{l:U}{A:Vq}{outer:G Env}{h:UQ}{p:Hp}{E:XK}:
  d9 (lB P w) (eZ (lB P w) P w K d base N g a f l A outer h p E) E:=by
 rintro j r H s x t I ⟨e,c,Q,v,T,B,rfl,le,L,F,ne,C,os,bare,un,V4,q⟩;let n:=I.adR (ch:=[]) os un V4 bare (λb z=>nomatch z);let old:∀b,s.heap.get? b=lD->h.heap.get? b=lD:=λb z=>by
  cases y:h.heap.get? b with
  |none=>rfl
  |some o=>let(u,i):=I.base.there b o y (λy=>nomatch y);rw[z]at i;ext i
 show LS n F (old e le) (λm z=>by ext z;show old T L) ne (λm z=>by ext z;show C) q
def Ov(x:ObjOk b w H h a o):∃c,h.get? a=M c:=by
 cases o with
 |lst xs=>let(_,_,_,_,e):=x;show#[_,e]
 |tup xs=>let(_,_,_,c,e,_):=x;show#[c,e]
 |dK i=>let(_,_,_,_,o,_,_,e,_):=x;show#[o,e]
 |dT i=>let(_,_,_,_,o,_,_,e,_):=x;show#[o,e]
 |set S n=>let(o,_,_,_,e,_):=x;show#[o,e]
 |ins C m fs=>let(_,_,_,e,_):=x;show#[_,e]
 |own y=>show x
 |xd fs=>let(_,(o,_,_,e,_),_):=x;show#[o,e]
 |rng lo l=>let(_,_,_,e):=x;show#[_,e]
 |frz c u=>show#[c,x.1]
 |tbl j=>show#[_,x]
 |met f y=>show#[_,x]
 |ext g=>show x.2.1
 |exw g=>show x.2.1
def vQ(k:YT e w H h)(n:h.get? a=lD):H a=lD:=by
 cases q:H a with
 |none=>rfl
 |some o=>let(b,z):=Ov (k a o q);rw[n]at z;ext z
section
variable{P:Vc}{w:Vw}{K:CL}{L:Str->bg UI}{base:Heap}{N:bb Str}{Q:Str}{Y:WO}{f:UP}{C:UI}{A:Vq}{T:bb Env}{B:UQ}{y:Hp}{E:XK}{v:tE}
  {u:L2.St} {H:Hp} {s:UQ} {t:Heap} {X:Cx}
end
def Ko(K:CL)(C:J)(m:G U):Prop:=∃nm q N bs hd sn sub b col dd a k1 k2 k3 k5 id,K.lookup C=M (excClassObj nm q C N bs m hd sn sub b col dd a k1 k2 k3 k5 id)
structure Apart(X:Cx)(a:J):Prop where
 n0:X.s₀.heap.get? a=P
 nL:a≠X.env.locals
 nC:∀y c,X.env.cells.lookup y=M c->c≠a
 nP:∀p∈X.pn,p.1≠a
end L4
namespace L4
open PySem PySem.Spec PySem.W PyProof.Rows L2 L3
section
variable{Y:Vc}{w:Vw}{A:Vq}{E:UI->UQ->Prop}{h:Heap}{g:Array Zt}{d:adb}{t:Nat}{T:acw}{a C:UP}{o:Obj}{K:CL}
  {Q N:Str} {L:UP} {B y:bb UI} {v:Bool} {u:bb Str} {r:bb UI} {q:Bool} {p:bg Bool} {n:bg UP} {l j i f e:bg UI} {X:String}
structure ai1(K:CL)(C:J)(m:G U):Prop where
 cl:Ko K C m
 be:m.contains (.type "BaseException")=S
 ga:findIn K (.ref C) "__getattribute__"=M (M (.builtin "BaseException.__getattribute__"))
 gt:findIn K (.ref C) "__getattr__"=M P
 cs:findIn K (.ref C) "__class__"=M (M (.builtin "object.__class__"))
 ob:mroIn K C (.type "object")=M S
end
end L4
namespace HT
open PySem PySem.Spec PyProof.Rows
section
variable{Y:Vc}{w:Vw}{A:Vq}{E:UI->UQ->Prop}{s:UQ}
def getItem_tuple_all{t b:J}{items:Array U}{l j:U}{lo c:I Int}{Q:U->UQ->Prop}(a:IsTup s.heap t items)(o:s.heap.IsSliceOf b l j .none)(pl:Zv l lo)(p:Zv j c)
  (n:sIx items.size 0 lo=0/\sIx items.size items.size c=items.size) (h:Q (.ref t) s):wpAny (model Y w) A (getItem (.ref t) (.ref b)) Q E s:=by
 let(q,e,f,r):=id o;let g:s.TypeIs (.ref b) "slice":=#[q,e,f];ext getItem
 try specialize Wj ?_
 first|show Ld (UR ?_)|skip
 show Ld (aeL a.typeIs () ?_);show Ld (Wx (name:=Str.ofString "__getitem__") a.typeIs VX
  (WI VX a.typeIs entry_tuple_getitem ?_ (args_tuple_getitem _ _)))
 show wpAny _ _ (Builtin.Tuple.tupleItemsOf (.ref t)>>=_) _ _ s;show Ld (tupleItemsOf_ a ?_);show Ld (XQ g ?_);rw[ax ()];show Ld (iy o pl p ?_);let i:((((sIx items.size 0 lo:Nat):Int)==0&&(1:Int)==1&&(sIx items.size items.size c - sIx items.size 0 lo)==items.size)=S):=by rw[n.1,n.2];simp
 show wpAny _ _ (if(((sIx items.size 0 lo:Nat):Int)==0&&(1:Int)==1&&(sIx items.size items.size c - sIx items.size 0 lo)==items.size)=S then _ else _) _ _ s;rw[ax i];show Ld (m:=Builtin.Tuple.tupleIsExact _) ?_;ext Builtin.Tuple.tupleIsExact;show Ld (XQ a.typeIs (UR ?_));rw[ax ()];show Ld (Y6 ?_);show UR #[_,W,UR h]
end
end HT
namespace L3
open PySem PySem.Spec PyProof.Rows L2
def Qw(K:CL):V->I Int->I Int->Hp->VK->Prop:=λx lo b H Q=>∃(a:J) (xs:G V),x=.ref a/\Yr K H a xs/\(HT.sIx xs.length 0 lo=0/\HT.sIx xs.length xs.length b=xs.length)/\Q (.ref a) H
def Ef{X:Cx}:KG X (Qw X.K):=by
 intro e s o H x v t p lo y u Q I g m pl i h;let(a,xs,rfl,j,l,q):=h;ext g;let(n,r,f,w):=I.tuple j;let b:n.toArray.size=xs.length:=by rw[U3];show r.length.symm
 show#["tuple",_,VX.lookup,f.typeIs,?_];show HT.getItem_tuple_all f m pl i (by rw[b];show l) #[.ref a,H,I,W,q]
def QQ(K:CL):V->I Int->I Int->Hp->VK->Prop:=λx lo a H Q=>Nr K x lo a H Q\/Qw K x lo a H Q
def G0{X:Cx}:KG X (QQ X.K):=by
 intro a s b H x v f e lo l g Q I h j pl i q;rcases q with q|q
 .show D5 a s b H x v f e lo l g Q I h j pl i q
 .show Ef a s b H x v f e lo l g Q I h j pl i q
def Sk:D->I Int->I Int->I RV
 |.list ds,lo,a=>M (.ow (mq ds lo a))
 |.tuple ds,lo,a=>M (.fz (.tuple (mq ds lo a)))
 |_,_,_=>P
def Ib{ds:G D}{lo a:I Int}(h:HT.sIx ds.length 0 lo=0/\HT.sIx ds.length ds.length a=ds.length):mq ds lo a=ds:=by ext mq;rw[h.1,h.2,adH,afr,ac0]
def Qk{K:CL}:Q4 K (QQ K) Sk:=by
 intro O H x lo i l j Q n b e q;cases l with
 |list ds=>show .inl (sR O H x lo i _ j Q n b e q)
 |tuple ds=>
  ext e;by_cases f:HT.sIx ds.length 0 lo=0/\HT.sIx ds.length ds.length i=ds.length
  .let(a,xs,rfl,h,g):=FJ b;rw[Ib f]at q;show .inr #[a,xs,W,h.1,by rw[g.length];show f,q.at (.tup h g)]
  .show .inl (sR O H x lo i (.tuple ds) _ Q n b ?_ q)
   show(if jt ds.length lo i=S then P else M (RV.fz (.tuple (mq ds lo i))))=_;let z:jt ds.length lo i=R:=by ext jt;show a5 f
   rw[z,a3 Ve]
 |_=>ext e
section
variable{K:CL}{E:XK}
end
end L3
namespace L9
open PySem PySem.Spec PyProof.Rows
section
variable{M:Model}{A:Vq}{E:UI->UQ->Prop}{Y:Env}
variable{nm q:Str}{C N:UP}{bs Z:bb UI}{hdct:Bool}{sn:bb Str}{sub:bb UI}{ab:Bool}{col:bg Bool}{dd:bg UP}{k0 k1 k2 k3 k5:bg UI}{newId:String}
def gZ(r:Z.contains (.type "BaseException")=S)(n:A.handled=P)
  (h:wpAny M A x (λv c=>∃e k,v=.ref e/\c.heap.get? C=cL (excClassObj nm q C N bs Z hdct sn sub ab col dd k0 k1 k2 k3 k5 newId)/\c.heap.get? e=cL k/\k.cls=.ref C/\(∃fs,k.data=.fields fs/\fs[1]?=cL UI.none)/\E (.ref e) c) E s):
  wpAny M A (raiseStmt Y (cL x) P) Q E s:=by
 let f:(UI.ref C::Z).contains (.type "BaseException")=S:=by rw[List.contains_cons,r,aa3]
 ext raiseStmt;show Ld (wpAny_mono h (λv c a=>?_) λ_ _ x=>x);let(e,k,rfl,l,o,j,(fs,i,b),p):=a;let(y,w,m):=k;dsimp only at j i;subst j i;let(B,g,d,t,u):=c
 repeat (first|specialize XT o ?_|specialize XT l ?_|(specialize adI l ?_;rw[f])|wp_step)
 rw[b]
 repeat wp_step
 show adJ n p
end
section
variable{prog:Vc}{w:Vw}{A:Vq}{E:UI->UQ->Prop}{h:Heap}{g:Array Zt}{d:adb}{t:Nat}{os:acw}
variable{nm q:Str}{C N:UP}{bs S Z:bb UI}{hdct:Bool}{sn:bb Str}{sub:bb UI}{ab:Bool}{col:bg Bool}{dd:bg UP}{k0 k1 k2 k3 k5:bg UI}{B R L Y Y8 X:String}{U:bb UI}
def mW(Fn:XU R L X U)(j:Z.contains (.type R)=UJ)(F:XU B Y Y8 Z)(T:aeN h Z S)
  (i:h.get? C=M (excClassObj nm q C N bs S hdct sn sub ab col dd k0 k1 k2 k3 k5 L)) (s:h.Ns N mN) (z:mN "__init__"=M (.ref fI)) (p:h.get? fI=M oI) (n:oI.cls=.type "function")
  (G:∀k e,Heap.MadeExcOf h k e (.ref C) rest->wpAny (model prog w) A (call (.ref fI) (.ref e::rest)) (λr c=>r=.none/\Q (.done (.ret (.ref e))) c) E #[k,g,d,t,os]) (hrest:rest.length<=UY):
  wpAny (model prog w) A (Builtin.«type.__call__» #[.ref C::rest,[]]) Q E #[h,g,d,t,os]:=by
 repeat (first|specialize XT i ?_|specialize wpAny_madeBy_exc i ?_|wp_step)
 show codeAny_call_builtin_code (abb.quiet_builtin _ Fn.quiet) (wpAny_check_new_subU Fn j T i ?_);show codeAny_exc_new_subU Fn j F T i ?_ hrest
 let a:=bt {cls:=.ref C,data:=.fields #v[.ref h.objs.size,.none,.none,.none,.bool UL,.none]}
  (bt {cls:=.type "tuple",data:=.seq rest.toArray} i)
 let v:=bt {cls:=.ref C,data:=.fields #v[.ref h.objs.size,.none,.none,.none,.bool UL,.none]}
  (bt {cls:=.type "tuple",data:=.seq rest.toArray} p)
 let f:((h.push {cls:=.type "tuple",data:=.seq rest.toArray}).push {cls:=.ref C,data:=.fields #v[.ref h.objs.size,.none,.none,.none,.bool UL,.none]}).Ns N mN:=
  let#[o,es,ep,e,r]:=s;#[o,es,ep,bt _ (bt _ e),r]
 let l:((h.push {cls:=.type "tuple",data:=.seq rest.toArray}).push
   {cls:=.ref C,data:=.fields #v[.ref h.objs.size,.none,.none,.none,.bool UL,.none]}).get? (h.objs.size+1)=M
   {cls:=.ref C,data:=.fields #v[.ref h.objs.size,.none,.none,.none,.bool UL,.none]}:=by heap_get
 let u:(UI.ref C::S).contains (.ref C)=UJ:=by simp
 let m:=T.keeps (h':=(h.push {cls:=.type "tuple",data:=.seq rest.toArray}).push {cls:=.ref C,data:=.fields #v[.ref h.objs.size,.none,.none,.none,.bool UL,.none]})
  λb o e=>bt _ (bt _ e)
 ext isInstance
 repeat (first|specialize XT l ?_|(specialize adI a ?_;rw[u])|wp_step)
 show wpAny_typeLookup_tail a f m F.mroIs F.init.lookup ?_;rw[z];show Wj (Ld ?_);ext bindSpecial;show Ld (XQ #[_,v,n] ?_);rw[ax ()];show UR (Ld (wpAny_mono (G _ (h.objs.size+1) #[λb o H=>bt _ (bt _ H),ck (Yl _),h.objs.size,l,ck (UU _),?_]) (λr c y=>?_) λ_ _ x=>x))
 .show bt _ (Heap.get?_push_at W W)
 .let(rfl,I):=y
  wp_walk
  show I
def xi(Fn:XU R L X U)(i:Z.contains (.type R)=UJ)(F:XU B Y Y8 Z)(T:aeN h Z S)
  (a:h.get? C=M (excClassObj nm q C N bs S hdct sn sub ab col dd k0 k1 k2 k3 k5 L)) (p:h.Ns N mN) (s:mN "__init__"=M (.ref fI)) (f:h.get? fI=M o) (b:o.cls=.type "function")
  (j:∀c e,Heap.MadeExcOf h c e (.ref C) rest->wpAny (model prog w) (A.under (.builtin "type.__call__" #[.ref C::rest,[]])) (call (.ref fI) (.ref e::rest)) (λr k=>r=.none/\Q (.ref e) k) E #[c,g,d,t,os]) (hrest:rest.length<=UY):
  wpAny (model prog w) A (call (.ref C) rest) Q E #[h,g,d,t,os]:=by
 let n:=tc_lookup;let m:=tc_bind (.ref C);let l:(#[h,g,d,t,os]:UQ).TypeIs (.ref C) "type":=#[_,a,W];show Y3 (codeAny_of_tree ?_)
 repeat (any_goals (first|assumption|specialize XT a ?_|wp_step))
 show#[W,?_];show codeAny_call_builtin_at (abb.quiet_builtin _ (by left)) entry_typeCall (wpAny_check_type_call_sub a (mW (hrest:=hrest) Fn i F T a p s f b λc e hm=>?_));show j c e hm
end
section
variable{prog:Vc}{w:Vw}{A:Vq}{E:UI->UQ->Prop}{s:UQ}{env:Env}
variable{nm q:Str}{C N:UP}{bs Y Z:bb UI}{hdct:Bool}{sn:bb Str}{sub:bb UI}{ab:Bool}{col:bg Bool}{dd:bg UP}{k0 k1 k2 k3 k5:bg UI}{B Bn newId X Y8 U:String}{S:bb UI}
def uZ(Fn:XU Bn newId U S)(t:Z.contains (.type Bn)=UJ)(F:XU B X Y8 Z)
  (y:Y.contains (.type "BaseException")=UJ) (o:A.handled=lD) (u:(backTo Xt (U7 args env)).any (·.1)=UL) (hi:mN "__init__"=cL (.ref fI)) (p:oI.cls=.type "function")
  (h:wpAny (model prog w) A (eval (.Name x np) env) (λf k=>f=.ref C/\wpAny (model prog w) A (evalArgs (.ref C) UJ (backTo Xt (U7 args env)) [])
   (λa c=>a.kw=[]/\a.pos.length<=UY/\c.heap.get? C=cL (excClassObj nm q C N bs Y hdct sn sub ab col dd k0 k1 k2 k3 k5 newId)/\c.heap.Ns N mN/\c.heap.get? fI=cL oI/\aeN c.heap Z Y/\
    ∀V e,Heap.MadeExcOf c.heap V e (.ref C) a.pos->wpAny (model prog w) (A.under (.builtin "type.__call__" #[.ref C::a.pos,[]])) (call (.ref fI) (.ref e::a.pos)) (λr D=>r=.none/\∃z,D.heap.get? C=cL (excClassObj nm q C N bs Y hdct sn sub ab col dd k0 k1 k2 k3 k5 newId)/\D.heap.get? e=cL z/\z.cls=.ref C/\(∃fs,z.data=.fields fs/\fs[1]?=cL UI.none)/\E (.ref e) D) E {c with heap:=V}) E k) E s):
  wpAny (model prog w) A (exec (.Raise (cL (.Call (.Name x np) args [] Xt)) lD pos) env) Q E s:=by
 rw[arm_exec_Raise]
 first
  |show Ld (WY (gZ y o (Ld (wpAny_mono (Z7 (wpAny_mono h (λf k i=>?_) λ_ _ x=>x)) (λv l b=>Ld (WY (UR b))) λ_ _ x=>x))))
  |(simp only[evalOpt,Option.map];show Ld (WY (gZ (C:=C) (nm:=nm) (q:=q) (N:=N) (bs:=bs) (hdct:=hdct) (sn:=sn) (sub:=sub) (ab:=ab) (col:=col) (dd:=dd) (k0:=k0) (k1:=k1) (k2:=k2) (k3:=k3) (k5:=k5) (newId:=newId) y o (Ld (wpAny_mono (Z7 (wpAny_mono h (λf k i=>?_) λ_ _ x=>x)) (λv l b=>Ld (WY (UR b))) λ_ _ x=>x)))))
  |(show Ld (WY (gZ y o ?_));show Ld (wpAny_mono (Z7 (wpAny_mono h (λf k i=>?_) λ_ _ x=>x)) (λv l b=>Ld (WY (UR b))) λ_ _ x=>x))
 let(rfl,i):=i;ext callWith;show Ld (Wj (wpAny_mono i (λa c j=>Ld (WY ?_)) λ_ _ x=>x));let(H,R):=a;let(n,m,G,hn,J,T,j):=j;obtain rfl:=n;let(hp,g,d,tk,os):=c;simp only[u];show Ld (wpAny_keeperOf_exc G ?_);show Ld (xi (hrest:=m) Fn t F T G hn hi J p λV e hm=>wpAny_mono (j V e hm) (λr D #[I,z,Pz0,O,Mz0,L,K]=>#[I,Ld (Wj (wpAny_point (UR ?_)))]) λ_ _ x=>x);show#[e,z,W,Pz0,O,Mz0,L,K]
end
end L9
namespace L9
open PySem PySem.W PyProof.Rows Builtin Builtin.ObjectAttr
abbrev Gn:G U:=[.type "ValueError",.type "Exception",.type "BaseException",.type "object"]
section
variable{prog:Vc}{w:Vw}{A:Vq}{K:Frag}{B C x:UP}{s:UQ}{R:Zu->UQ->Prop}{Z:ClassData}{name:Str}{Y:Tok}{v:UI}{fs:Array UI}
def Iu(X:K.In s.heap)(E:clsIn K C=cL Z)(hm:Z.mro=.ref C:: .ref B::Gn)(hd:Z.hasDict=UJ)(z:findIn K (.ref C) name=cL lD)(i:s.heap.get? x=cL #[.ref C,lD,.fields fs,#v[]])
  (J:∀c k,c.get? x=cL #[.ref C,cL s.heap.objs.size,.fields fs,#v[]]->c.Ns1 s.heap.objs.size (λy=>if y=name then cL v else lD)->(∀b o,b≠x->s.heap.get? b=cL o->c.get? b=cL o)->R (.ok (.ret .none)) {s with heap:=c,toks:=k}):
  codeAny (model prog w) A (.call (.builtin "object.__setattr__") #[[.ref x,.str name Y,v],[]]) R s:=by
 let I:InstAt s.heap x #[.ref C,lD,.fields fs,#v[]] C lD:=#[i,W,W,True.intro];let m:=PySem.F.store_object;let sub:Looks (model prog w) s.heap (isInstance (.ref x) (.type "object")) UJ:=I.type.andThen (looks_mroIn X (by ext mroIn;rw[E,Option.bind_some,hm,a3 (by simp)];simp));show X3 m.slot.plain m.entry (@check_slot (model prog w) _ _ s "object.__setattr__" "object" "__setattr__" (.ref x) [.str name Y,v] [] _ m.kind m.split sub (m.args (.ref x) (.str name Y) v) ?_);let l:Looks (model prog w) s.heap (mroOf (.ref C)) Z.mro:=(looks_clsIn X E).andThen .now;rw[osa_eq,refuse_eq];show Ld (Ld (I.type.here (Ld (l.here ?_))));rw[hm,ahF,ahF,PySem.F.store_ValueError.passes];show UR (Ld (I.type.here (Ld ((looks_findIn X z).here (Ld (UR ?_))))));ext storeInOwnDict;show Ld (UR (Ld ?_));unfold ownDictForStores instanceDict;show Ld (ahy i (Ld ((looks_clsIn X E).here ?_)));rw[hd,a3 ()];show wpAny _ _ (if(!UJ|| !typeHasDict (.ref C))=UJ then pure lD else(do
        let d<-alloc {cls:=UI.type "dict",data:=Data.dict #v[]}
        update x λo=>{cls:=o.cls,dict:=cL d,data:=o.data,slots:=o.slots}
        dictMade (.ref C) x d)) _ _ _
 rw[a3 (by simp[typeHasDict])];let(h,g,d,t,T):=s;dsimp only at X i J I sub l⊢;let f:(h.push {cls:=.type "dict",data:=.dict #v[]}).get? x=cL #[.ref C,lD,.fields fs,#v[]]:=bt _ i;let a:=Vg (b3 i);show Ld (wpAny_alloc' ?_);show Ld (wpAny_update' f ?_);show UR ?_
 let q:((h.push {cls:=.type "dict",data:=.dict #v[]}).update x λo=>{cls:=o.cls,dict:=cL h.objs.size,data:=o.data,slots:=o.slots}).get? h.objs.size
   =cL {cls:=.type "dict",data:=.dict #v[]}:=
  (Heap.get?_update_ne _ _ _ _ a.symm).trans (Heap.get?_push_at W W)
 let p:((h.push {cls:=.type "dict",data:=.dict #v[]}).update x λo=>{cls:=o.cls,dict:=cL h.objs.size,data:=o.data,slots:=o.slots}).Ns h.objs.size (λ_=>lD):=
  #[_,#v[],_,q,W,λe N=>a7 N (by simp),λ_=>W]
 unfold storeInDict newKeyGuard;show Ld (UR (Ld (wpAny_nsSet1 (Heap.Ns1.of_empty p) λc j H=>?_)));let(oD,P,Q,n,r,u):=j.count (Within.cons name v Within.nil);show Ld (afk n (by rw[r];show afl (Vv u (by rw[U4,W2,W5];ext))) ?_);show UR (J c _ ?_ ?_ λb U G L=>?_)
 .show(H.2 x a).trans (b7 _ f W)
 .let(M,es,S,e1,e2,e3,O,e4):=j;show#[M,es,S,e1,e2,e3,O,λy=>by rw[e4 y]]
 .show(H.2 b (Vg (b3 L))).trans ((Heap.get?_update_ne _ _ _ _ G).trans (bt _ L))
theorem HD(X:K.In s.heap)(g:clsIn K C=M Z)(hm:Z.mro=.ref C:: .ref B::Gn)(hd:Z.hasDict=S)(a:findIn K (.ref C) "__setattr__"=M (M (.builtin "object.__setattr__")))(h:findIn K (.ref C) name=M P)(e:s.heap.get? x=M #[.ref C,P,.fields fs,#v[]])
  (f:∀c d,c.get? x=M #[.ref C,M s.heap.objs.size,.fields fs,#v[]]->c.Ns1 s.heap.objs.size (λy=>if y=name then M v else P)->(∀b o,b≠x->s.heap.get? b=M o->c.get? b=M o)->Q ⟨⟩ {s with heap:=c,toks:=d}):
  wpAny (model prog w) A (setAttr (.ref x) name v) Q E s:=
 set_plain X (#[e,W,W,True.intro]:InstAt s.heap x #[.ref C,P,.fields fs,#v[]] C P) a (Iu X g hm hd h e f)
end
section
variable{L:Vc}{w:Vw}{A:Vq}{E:UI->UQ->Prop}{h:Heap}{g:Array Zt}{d:adb}{t:Nat}{v:acw}
variable{nm q:Str}{C N:UP}{bs u Z:bb UI}{y:Bool}{sn:bb Str}{sub:bb UI}{ab:Bool}{col:bg Bool}{dd:bg UP}{k0 k1 k2 k3 k5:bg UI}{B X Y r:String}
def Bf(F:XU B Y r Z)(T:aeN h Z u)
  (p:h.get? C=M (excClassObj nm q C N bs u y sn sub ab col dd k0 k1 k2 k3 k5 X)) (j:h.get? e=M #[.ref C,P,.fields fs,#v[]]) (l:fs[0]?=M (.ref t0))
  (m:∀s k,s.get? e=M #[.ref C,P,.fields k,#v[]]->k[0]?=M (.ref h.objs.size)->(∀i,i≠0->k[i]?=fs[i]?)->(∀b o,b≠e->h.get? b=M o->s.get? b=M o)->Q .none #[s,g,d,t,v]) (c:rest.length<=UY):
  wpAny (model L w) A (call (.builtin r) (.ref e::rest)) Q E #[h,g,d,t,v]:=by
 show Y3 (X3 F.init.plain F.initEntry (wpAny_check_init_subU F T p j W ?_));unfold Builtin.«BaseException.__init__»;dsimp only;rw[a3 (by simp)];unfold newTuple Builtin.BaseException.bexcPut;let f:=(Xd.mp l).1;let a:(h.push {cls:=.type "tuple",data:=.seq rest.toArray}).get? e=M #[.ref C,P,.fields fs,#v[]]:=bt _ j;show Ld (V0 (Ld (Ld (VS a W l (Ld (XS a W f ?_))))) (by show rest.toArray.size<=UY;rw[U3];show c));show Xl (UR (m _ (fs.setIfInBounds 0 (.ref h.objs.size)) ?_ (by simp[f]) (λi hi=>by rw[ZC (da hi)]) λb o n z=>?_))
 .show b7 (Obj.mapFields (·.setIfInBounds 0 (.ref h.objs.size))) a W
 .show(b5 _ _ (da n)).trans (bt _ z)
end
end L9
namespace L9
open PySem PySem.Spec PyProof.Rows L2
def P1(v:V):Prop:=v=.W9\/∃i:Int,v=.int i/\i.natAbs.log2<1920
def Jc{i:Int}(h:i.natAbs.log2<1920):(Str.ofString (toString i)).length<=5000:=by let e:=int_text_length_le () h;rw[PySem.ofString_length];ext
def Nm(I:Inv X pins σ H s)(r:RelV v u)(f:P1 v)
  (h:∀(y:Str) (t:Tok) (a:UQ),y.length<=5000->Inv X pins σ H a->Q (.str y t) a):wpAny (model X.prog X.w) A (formatField u Str.empty) Q E s:=by
 rcases f with rfl|⟨i,rfl,b⟩
 .obtain rfl:=r;show wpAny_formatField_none (h _ _ _ () (I.tok _))
 .let(t,rfl):=r;show formatField_int_small b (h _ _ _ (Jc b) (I.tok _))
def PJ(X:Cx)(es:G Va)(n:Nat)(t:L2.St->Hp->(Hp->Prop)->Prop):Prop:=
 ∀(a:G (J×Obj)) (s:UQ) (e:L2.St) (H:Hp) (b:Str) (Q:Hp->Prop),Inv X a e H s->b.length+n<=1000000->t e H Q->
  wpAny (model X.prog X.w) X.A (joinParts b (evalEach es X.env)) (λv h=>∃(y:Str) (g:Tok) (f:Hp),v=.str y g/\Inv X a e f h/\Q f) X.xe s
section
variable{X:Cx}{e:Va}{es:bb Va}{n:Nat}{T:TE}{t:L2.St->Hp->(Hp->Prop)->Prop}{Y:Pos}
def MW:PJ X [] 0 (λ_ H Q=>Q H):=by intro a s f H b Q I g h;show joinParts_nil #[_,_,H,W,I.tok _,h] (by rw[W5];ext)
def Ol(i:x.length<=5000)(g:PJ X es n t):PJ X (.Constant (.str x) k Y::es) (n+5000) t:=by intro a s f H b Q I j h;show joinParts_consE (joinParts_cons (Calls.Constant_str ?_));let e:=ajJ b x;show#[by rw[W5];ext,g a _ f H (b++x) Q (I.tok _) () h]
def Oa(i:PE X e T)(g:PJ X es n t):PJ X (.FormattedValue e (-1) P Y::es) (n+5000) (λσ H Q=>T σ H λv H1=>P1 v/\t σ H1 Q):=by intro a s σ H b Q I A h;show joinParts_consE (joinParts_cons (FormattedValue_plain (bP (i a s σ H _ I h) λu o a=>?_)));let(v,H1,j,r,f,q):=a;show Nm j r f λy m p w l=>?_;let e:=ajJ b y;show#[by rw[W5];ext,g a _ σ H1 (b++y) Q l () q]
def JS(h:PJ X (e1::e2::es) n t)(c:n<=900000):PE X (.JoinedStr (e1::e2::es) Y) (λσ H Q=>t σ H λH1=>∀y:Str,Q (.str y) H1):=by intro a s σ H Q I b;show JoinedStr_many (bP (h a s σ H Str.empty _ I (by show 0+n<=1000000;ext) b) λv j #[y,i,H1,f,g,q]=>?_);subst f;show#[.str y,H1,g,#[_,W],q y]
end
def Gu(C e:J):Heap->Prop:=λh=>∃fs t0,h.get? e=M #[.ref C,P,.fields fs,#v[]]/\fs[0]?=M (.ref t0)/\fs[1]?=M .none
def PR(C e p:J):Heap->Prop:=λh=>∃fs a0,h.get? e=M #[.ref C,M p,.fields fs,#v[]]/\fs[0]?=M a0/\fs[1]?=M .none
structure XC(K:CL)(C B fI:J):Prop where
 obj:∃nm q N bs sn sub ab col dd k0 k1 k2 k3 k5,K.lookup C=M (excClassObj nm q C N bs (.ref B::Gn) S sn sub ab col dd k0 k1 k2 k3 k5 "ValueError.__new__")/\ZT K N=S/\Vj K N "__init__"=M (M (.ref fI))
 base:XG K B Gn "ValueError.__new__"=S
 sa:VH K (.ref C) "__setattr__"=M (M (.builtin "object.__setattr__"))
def vF{K:CL}(q:XG K B Gn n=S):YM K Gn (.ref B::Gn)=S:=by
 unfold XG at q;split at q
 .rename_i dd f e b
  split at q
  .simp only[UH,beq_iff_eq,WM]at q;let(((((_,_),_),_),V4),a):=q;ext YM;dsimp only;rw[b];dsimp only;rw[V4,a,show YM K Gn Gn=S from by ext YM;rw[dw,YE],dw,WQ,WQ,aa3]
  .ext q
 .ext q
section
variable{X:Cx}{B C fI:UP}{pos U Y:Pos}{Z:Va}{as:bb Va}{t:TA}{b:Str}
def Da(h:H a=M o):aW H a o=H:=by
 funext c;by_cases z:c=a
 .rw[z,aC,h]
 .rw[au z]
def MD(C:J)(t:TA):TE:=λf H Q=>t f H λg a=>∃e y,g=[.ref e,.str y]/\a e=M (.ext (Gu C e))/\Q .W9 a
def F0{pl:Sem Bool}(V:Gl X b)(hm:X.mg b=cL (.ref B))(D:ZH X.K B (.type "type")=UJ)(hf:ZI X.K (.ref B) (.type "type") "__init__"=cL (.val (.builtin "ValueError.__init__")))
  (k:Xr X.K (.ref B) "__getattribute__"=cL (cL (.builtin "type.__getattribute__"))) (v:XC X.K C B fI) (ha:PA X (Z::as) t)
  (dG:U7 (Z::as) X.env=(UL,eval Z X.env)::U7 as X.env:=by rfl) (ZP:(backTo pos (U7 as X.env)).any (·.1)=UL:=by rfl) (l:(b==("__debug__":Str))=UL:=by decide)
  (c:eval (.Call (.Attribute (.Name b U) "__init__" Y) (Z::as) [] pos) X.env=(do
   let ov<-eval (.Name b U) X.env
   standAt Y.atName
   let(f,first)<-holding [ov] (getMethod ov "__init__" pl)
   callWith pos f first (backTo pos (U7 (Z::as) X.env)) (backToKw pos (keywordEach [] X.env))):=by rfl):
  PE X (.Call (.Attribute (.Name b U) "__init__" Y) (Z::as) [] pos) (MD C t):=by
 intro a s F H Q I h;show Yz (pl:=pl) (kO I V hm ?_ l) c;show PySem.W.method_cls I.ZX k (PySem.W.cls_value I.ZX D hf () ?_);let A:=ha pos a {s with toks:=s.toks+1} F H _ (I.tok _) h;rw[dG]at A⊢;show Calls.callWith_builtin (by show(UL||(backTo pos (U7 as X.env)).any (·.1))=UL;rw[ZP]<;>rfl) (Calls.evalArgs_plain (bP A λus p #[vs,E,i,r,e,y,ev,m,q]=>?_));subst ev;let(M,u2,rfl,R,P):=D2 r;obtain rfl:M=.ref e:=R;let(tk,rfl):=P;let((fs,t0,g1,g2,g3),_,gk):=(show ObjOk X.prog X.w E p.heap e (.ext (Gu C e))from i.V4 e _ m);let(nm,q',N,bs,sn,sub,ab,col,dd,k0,k1,k2,k3,k5,S,V4,hin):=v.obj;let T:=abg i.ZX (vF v.base);let(h2,g,d,j,os):=p;show Bf W7 T (i.ZX _ _ S) g1 g2 (λh' n e1 e2 e3 e4=>?_) (by show 1<=UY;decide);show#[.W9,E,?_,W,q];let w:=i.write (x:=e) (e:=e) (o:=.ext (Gu C e)) (h':=h') (t':=j) (by rw[m];show True.intro) (.inl W) (λb u hb z=>e4 b u hb z) #[_,e1] #[#[n,_,e1,e2,by rw[e3 1 ()];show g3],#[_,e1],λh1 h2 #[f1,O,L,J2,G] hk=>#[f1,O,hk _ L,J2,G]];rw[Da m]at w;show w
def Q3(C:J)(f:Str)(c h:TE):TS:=λD a H=>h a H λv i=>c a i λx g=>∃e,x=.ref e/\g e=M (.ext (Gu C e))/\∀p,g p=P->p≠e->D.nx a (aW (aW g e (.ext (PR C e p))) p (.xd [(f,v)]))
def Gx(O:XC X.K C B fI)(V:VH X.K (.ref C) f=cL lD)(ha:PE X o ta)(c:PE X value tv)(d:Xe value (cL (.Attribute o f pos')) pos.line X.env=pure UL):PS X (.Assign [.Attribute o f pos'] value pos) (Q3 C f ta tv):=by
 intro l s F H D I h;show aag (bP (c l s F H _ I h) λu s1 #[v,H1,I1,rv,q]=>bP (ha l s1 F H1 _ I1 q) λov p a=>?_) d;let(x,Q,A,rx,e,ex,j,q2):=a;subst ex;obtain rfl:=rx;let((fs,t0,P,g2,g3),_,gk):=(show ObjOk X.prog X.w Q p.heap e (.ext (Gu C e))from A.V4 e _ j);let(nm,q',N,bs,sn,sub,ab,col,dd,k0,k1,k2,k3,k5,lk,V4,hin):=O.obj;obtain⟨E,hc,J,L⟩:∃E,ac1 X.K C=cL E/\E.mro=.ref C:: .ref B::Gn/\E.hasDict=UJ:=by ext ac1;rw[lk];show#[_,W,W,W]
 show HD A.ZX hc J L O.sa V P λh' tk' e1 e2 e3=>?_;let pe:=VW (b3 P);let r:=A.V4.fresh (UU _);show#[F,_,?_,q2 p.heap.objs.size r pe];let m:∀b o,p.heap.get? b=cL o->b≠p.heap.objs.size:=λb o z=>Vg (b3 z);show A.un #[λb o z n _ _=>e3 b o (λy=>by rw[y,j]at n;ext n) z,λb o z n _ _=>#[o.slots,e3 b o (λy=>by rw[y,j]at n;ext n) z],λb o z n _=>?_,λb o z _=>?_,λb xs z=>?_,λb o u z=>?_,λb ps z=>#[#v[],?_]] ?_
 .rw[au (m b o z),au (λy=>by rw[y,j]at n;ext n)];show n
 .by_cases y:b=e
  .subst y;show#[_,e1]
  .show#[o,e3 b o y z]
 .rw[au (λy=>by rw[y,r]at z;ext z),au (λy=>by rw[y,j]at z;ext z)];show z
 .rw[au (λy=>by rw[y,r]at z;ext z),au (λy=>by rw[y,j]at z;ext z)];show z
 .rw[au (λy=>by rw[y,r]at z;ext z),au (λy=>by rw[y,j]at z;ext z),z];simp
 .intro a o z
  by_cases M:a=p.heap.objs.size
  .subst M
   rw[aC]at z;ext z;show#[_,e2,λg=>?_];show Yi (match g==f with|true=>cL v|false=>WL g []) (if g=f then cL u else lD);cases i:g==f with
   |true=>rw[ax (beq_iff_eq.mp i)];show rv
   |false=>rw[a3 (λw=>by rw[beq_iff_eq.mpr w]at i;ext i)];show True.intro
  .rw[au M]at z
   by_cases G:a=e
   .subst G;rw[aC]at z;ext z;show#[#[fs,_,e1,g2,g3],#[_,e1],λh1 h2 #[f1,t1,T,S1,R1] hk=>#[f1,t1,hk _ T,S1,R1]]
   .rw[au G]at z
    let own:∀b,Q b=cL (.own a)->b≠e/\b≠p.heap.objs.size:=λb y=>#[(λk=>by rw[k,j]at y;ext y),(λk=>by rw[k,r]at y;ext y)];show(A.V4 a o z).YY (λb w i y=>e3 b w (λk=>?_) y) (λb y=>by rw[au (own b y).2,au (own b y).1];show y) λb xs y=>by rw[au (λk=>by rw[k,r]at y;ext y),au (λk=>by rw[k,j]at y;ext y)];show y
    rcases i with i|i
    .show G (i.symm.trans k)
    .show(own b i).1 k
end
end L9
namespace L9
open PySem PySem.Spec PyProof.Rows L2 L4
def PL(H:Hp)(e:J):Hp:=λa=>if a=e then P else H a
theorem ph:PL H e e=P:=ax W
theorem iM(h:a≠e):PL H e a=H a:=a3 h
def xD{K:CL}(X:K.In h)(G:h.Ns N C)(e:Vj K N n=M (M v)):C n=M v:=by
 let(o,es,p,f,j,_,g):=G;unfold Vj at e;split at e
 .rename_i l m b a
  let:=(X _ _ a).symm.trans f;ext this;ext j;split at e
  .rename_i q i;ext e;rw[<-g];unfold nsFind findBy;rw[<-abU,i];rfl
  .split at e<;>ext e
 .ext e
def Pt{K:CL}(i:WX K (.ref f)=S)(l:K.lookup f=M o):o.cls=.type "function":=by unfold WX acr at i;dsimp only at i;rw[l]at i;show Vd (beq_iff_eq.mp i)
section
variable{X:Cx}{Z:bb (UP×Obj)}{Y:L2.St}{H:Hp}{s:UQ}{T:Heap}{e:UP}{o:HO}
def Hf(I:L2.Inv X Z Y H s)(k:∀b u,s.heap.get? b=M u->T.get? b=M u)(n:s.heap.get? e=P)(new:ObjOk X.prog X.w (aW H e o) T e o):L2.Inv X Z Y (aW H e o) {s with heap:=T,toks:=t'}:=by
 let f:=vQ I.V4 n;let ne:∀b u,s.heap.get? b=M u->b≠e:=λb u z y=>by rw[y,n]at z;ext z
 show I.un #[λb u z _ _ _=>k b u z,λb u z _ _ _=>#[u.slots,k b u z],λb u z q _=>by rw[au (ne b u z)];show q,λb u z _=>#[u,k b u z],λb xs z=>?_,λb u v z=>?_,λb g z=>#[#v[],?_]] ?_
 .rw[au (λy=>by rw[y,f]at z;ext z)];show z
 .rw[au (λy=>by rw[y,f]at z;ext z)];show z
 .rw[au (λy=>by rw[y,f]at z;ext z),z];simp
 .intro a u z
  by_cases y:a=e
  .subst y;rw[aC]at z;ext z;show new
  .rw[au y]at z;show(I.V4 a u z).YY (λb w _ q=>k b w q) (λb q=>by rw[au (λw=>by rw[w,f]at q;ext q)];show q) λb xs q=>by rw[au (λw=>by rw[w,f]at q;ext q)];show q
def IS(I:L2.Inv X Z Y H s)(f:H e=M (.ext C)):L2.Inv X Z Y (PL H e) s:=by
 let:=I.un (t':=s.toks) (H':=PL H e) #[λb u z _ _ _=>z,λb u z _ _ _=>#[u.slots,z],λb u z q _=>?_,λb u z _=>#[u,z],λb xs z=>?_,λb u v z=>?_,λb g z=>#[#v[],?_]] ?_
 .show this
 .by_cases y:b=e
  .rw[y];show ph
  .rw[iM y];show q
 .rw[iM (λy=>by rw[y,f]at z;ext z)];show z
 .rw[iM (λy=>by rw[y,f]at z;ext z)];show z
 .rw[iM (λy=>by rw[y,f]at z;ext z),z];simp
 .intro a u z
  let y:a≠e:=λy=>by rw[y,ph]at z;ext z
  rw[iM y]at z;show(I.V4 a u z).YY (λb w _ q=>q) (λb q=>by rw[iM (λw=>by rw[w,f]at q;ext q)];show q) λb xs q=>by rw[iM (λw=>by rw[w,f]at q;ext q)];show q
end
def zl(C:J)(sp:Sp)(E:XK)(c:TA):TS:=λ_ f H=>c f H λg b=>g.length<=UY/\∀e,b e=P->sp (.ref e::(g++[])) (aW b e (.ext (Gu C e))) (λv a=>v=.W9/\∃p,a e=M (.ext (PR C e p))/\E (.ref C) (M p) (PL a e)) E0
def A9{K:CL}
  (Z:XC K C B fI) (S:K.lookup fI=cL oI) (c:WX K (.ref fI)=UJ) (FI:FnOk Pz0 w K mg base j0 k fI fdI ps sp) (bI:Binds K fdI ps [])
  (d:WC (k+1) (eZ (lB Pz0 w) Pz0 w K mg base N qual scope f cd A outer s0 H0 E).A)
  (hg:Gl (eZ (lB Pz0 w) Pz0 w K mg base N qual scope f cd A outer s0 H0 E) x) (hm:mg x=cL (.ref C)) (ha:PA (eZ (lB Pz0 w) Pz0 w K mg base N qual scope f cd A outer s0 H0 E) (e0::es) ta)
  (G:(x==("__debug__":Str))=UL:=by decide)
  (X:U7 (e0::es) (eZ (lB Pz0 w) Pz0 w K mg base N qual scope f cd A outer s0 H0 E).env=(UL,eval e0 (eZ (lB Pz0 w) Pz0 w K mg base N qual scope f cd A outer s0 H0 E).env)::U7 es (eZ (lB Pz0 w) Pz0 w K mg base N qual scope f cd A outer s0 H0 E).env:=by rfl)
  (ZP:(backTo Xt (U7 es (eZ (lB Pz0 w) Pz0 w K mg base N qual scope f cd A outer s0 H0 E).env)).any (·.1)=UL:=by rfl):
  PS (eZ (lB Pz0 w) Pz0 w K mg base N qual scope f cd A outer s0 H0 E) (.Raise (cL (.Call (.Name x np) (e0::es) [] Xt)) lD pos) (zl C sp E ta):=by
 intro l s σ H D I h;let(nm,qn,Nn,bs,sn,sub,ab,col,dd,k0,k1,k2,k3,k5,R,V4,F):=Z.obj;let a:=I.ok.mod.kin;let oC:=a _ _ R;let Q:=Heap.Ns.of_isNs (PySem.W.isNs_of_in a V4);let ni:=xD a Q F;let oF:=a _ _ S;let T:=abg a (vF Z.base);show uZ (nm:=nm) (q:=qn) (N:=Nn) (bs:=bs) (hdct:=UJ) (sn:=sn) (sub:=sub) (ab:=ab) (col:=col) (dd:=dd) (k0:=k0) (k1:=k1) (k2:=k2) (k3:=k3) (k5:=k5) W7 (by left) W7 (T.hasType W7.hasBase) (I.ok.hd W)
  (by rw[X];show(Zj _).trans ZP) ni (Pt c S) (kO I hg hm #[W,?_] G)
 let go:=ha Xt l s σ H _ I h;rw[X]at go⊢;show Calls.evalArgs_plain (bP go λg j a=>?_);let(vs,H1,i,r,hl,q):=a;show#[W,by rw[<-r.length];show hl,i.bk _ _ oC,Q.keeps i.bk,i.bk _ _ oF,T.keeps i.bk,λh' e m=>?_];let(t,y,y2,y3):=m.there;let hn:=vQ i.V4 m.new;let U:=q e hn;let L:=Hf (t':=j.toks) (o:=.ext (Gu C e)) i m.keeps m.new #[#[_,t,y,W,W],#[_,y],λh1 h2 #[f1,t1,z1,z2,z3] hk=>#[f1,t1,hk _ z1,z2,z3]];let O:Vals (V.ref e::(vs++[])) (UI.ref e::(g++[])):=.cons W (r.append .nil);let n:(UI.ref e::g++[]).length=ps.length:=by let z:=O.length;rw[FI.len _ _ _ _ U]at z;show z.symm
 let old:s0.heap.get? e=lD:=by
  cases z:s0.heap.get? e with
  |none=>rfl
  |some o=>let(o',M):=i.base.there e o z (λy=>nomatch y);rw[m.new]at M;ext M
 let bi:=bI {heap:=h',gens:=j.gens,drawn:=j.drawn,toks:=j.toks,os:=j.os} (UI.ref e::g) L.ZX n;rw[ac2]at bi;show Y3 (Y4 (FI.run _ (eZ (lB Pz0 w) Pz0 w K mg base N qual scope f cd A outer s0 H0 E).stack _ _ #[UI.ref e::g,[]] (UI.ref e::(g++[])) _ _ E0 (d.make C g []) (L.aeg.make C g []) bi O U) λr s' b=>?_);cases r with
 |error e=>show b.elim
 |ok fl=>
  cases fl with
  |ret u=>let(v,H',J,rv,ev,p,Y,q3):=L.after b;subst ev;let((fs,a0,g1,g2,g3),_,_):=(show ObjOk _ _ H' s'.heap e (.ext (PR C e p))from J.V4 e _ Y);show#[rv,_,J.ZX _ _ R,g1,W,#[fs,W,g3],?_];show LS (hd:=lD) (IS J Y) #[_,_,g1,W,W,W,g2,g3] old (λT z=>nomatch z) ph (λT z=>nomatch z) q3
  |next=>show False.elim b
  |brk=>show False.elim b
  |cont=>show False.elim b
end L9
namespace L9
open PySem PySem.Spec PySem.W PyProof.Rows L2 L3 L4
section
variable{Y:Vc}{w:Vw}{A:Vq}{E:UI->UQ->Prop}{h:Heap}{g:Array Zt}{d:adb}{t:Nat}{Q:acw}{a C:UP}{o:Obj}{K:CL}{N:bg Obj}{X:Str}{v:UI}
  {L B:Str} {y:UP} {u r:bb UI} {q:Bool} {p:bb Str} {n:bb UI} {m:Bool} {l:bg Bool} {j:bg UP} {i f e b i5:bg UI} {T:String}
end
def sX(C:J)(f:Str):Sp:=λa H Q _=>∃e v,a=[.ref e,v]/\P1 v/\H e=M (.ext (Gu C e))/\∀p,H p=P->p≠e->Q .W9 (aW (aW H e (.ext (PR C e p))) p (.xd [(f,v)]))
def Q7:D->Bool
 |.none=>S
 |.int i=>decide (i.natAbs.log2<1920)
 |_=>R
end L9
namespace L3
open PySem PySem.Spec PyProof.Rows L2
mutual
def TJ:UM->Bool
 |.tuple ds=>ML ds
 |.int _=>UJ
 |.str _=>UJ
 |.bool _=>UJ
 |.none=>UJ
 |_=>UL
def ML:bb UM->Bool
 |[]=>UJ
 |d::r=>TJ d&&ML r
end
section
variable{K:CL}{E:XK}{B:bC}{Y:Hp}{O Z:bC}{X:L2.St}{H T:Hp}{Q:aL}
def J9(h:Yr K H a xs)(l:H a=M (.lst ys)):Yr K (λ_=>P) a xs:=by
 rcases h with(h|⟨o,h⟩)|h
 .rw[l]at h;ext h
 .rw[l]at h;ext h
 .show .inr h
mutual
theorem Jt(f:∀b,O b->¬Z b->∃ys,H b=cL (.lst ys)):∀{v:V} {d:D},DV Z K H v d->TJ d=UJ->DV O K H v d
 |_,_,.W9,_=>.W9
 |_,_,.bl b,_=>.bl b
 |_,_,.int i,_=>.int i
 |_,_,.str x,_=>.str x
 |_,_,.tup (a:=a) h hs,e=>.tup ⟨h.1,λz=>by
   by_cases y:Z a
   .exact h.2 y
   .obtain⟨ys,q⟩:=f a z y;exact J9 h.1 q⟩ (vV f hs e)
 |_,_,.lst h hs,e=>by cases e
theorem vV(a:∀b,O b->¬Z b->∃ys,H b=cL (.lst ys)):∀{vs:bb V} {ds:bb D},Wo Z K H vs ds->ML ds=UJ->Wo O K H vs ds
 |_,_,.nil,_=>.nil
 |_,_,.cons h hs,e=>by have f:=Bool.and_eq_true_iff.mp e;exact .cons (Jt a h f.1) (vV a hs f.2)
end
end
end L3
namespace PyProof.Rows
open PySem
section
variable{Y:Vc}{w:Vw}{A:Vq}{E:UI->UQ->Prop}{s:UQ}
def oW(b:h.get? a=M (seqObj "list" o.toArray n)):∃e,(sortedHeap h a o out).get? a=M (seqObj "list" out e):=by let f:=get?_update_seq b (λ_=> #v[]);show#[_,get?_update_seq (bt _ (bt _ f)) _]
theorem my(f:b≠a)(e:h.get? b=M o):(sortedHeap h a C out).get? b=M o:=
 (b5 _ _ (da f)).trans (bt _ (bt _ ((b5 _ _ (da f)).trans e)))
def xN{l:J}{c:bb U}{j:bb Int}{Q:U->UQ->Prop}(p:s.heap.IsTuple l c.toArray)(y:IntsAre c j)(i:c.length<64)
  (h:∀(a d:Heap) (out:Array U) (e:Nat) (f:bb Int),(∀b o,s.heap.get? b=M o->a.get? b=M o)->d.get? a.objs.size=M (seqObj "list" out e)->(∀b o,a.get? b=M o->d.get? b=M o)->IntsAre out.toList f->f.Perm j->f.Pairwise (·<=·)->Q (.ref a.objs.size) {s with heap:=d}):
  wpAny (model Y w) A (call (.builtin "sorted") [.ref l]) Q E s:=by
 let(o,q,v,n,u):=p;show Calls.call_function_entry kind_sorted plain_sorted entry_sorted (args_sorted1 _) (Ld (m:=checkCount "sorted" 1 1 _) (UR (Ld (wpAny_collect_seq l (.inr W) q v u (λa r=>Ld (ajK ?_)) (by rw[U3,W5];ext)))));let g:(a.push (seqObj "list" c.toArray 0)).get? a.objs.size=M (seqObj "list" c.toArray 0):=b4 _ W;show Ld (Wj (WI slot_list_sort #[_,g,W] entry_list_sort (list_sort_tree g y i λout f F C B=>#[_,W,UR #[_,W,?_]]) (args_list_sort _)));let(e,t):=oW (out:=out) g;show h a _ out e f r t (λb G z=>my (Vg (b3 z)) (bt _ z)) F C B
end
end PyProof.Rows
namespace L9
open PySem PySem.Spec PyProof.Rows L2 L3
section
variable{K:CL}{E:XK}
def tX:Xg X (.builtin "sorted") (λxs H Q=>∃(p:UP) (f:bb Int),xs=[.ref p]/\Yr X.K H p (f.map V.int)/\f.length<64/\∀(l:UP) (a:bb Int),H l=P->a.Perm f->a.Pairwise (·<=·)->Q (.ref l) (aW H l (.lst (a.map V.int)))):=by
 intro j s F H xs G Q I r h;let(p,f,rfl,v,B,q):=h;let(u,rfl,o):=ju r;ext o;let(M,N,pl,J):=I.tuple v;let w:=N.length;rw[UK]at w;show xN pl (ku N) () λC L g e a y A i T m t=>?_;let b:=m.length_eq;let n:=I.kept (t':=s.toks) y;show#[.ref C.objs.size,_,n.laid i (UU _) ?_,W,q _ a (n.V4.fresh (UU _)) m t];show#[?_,g.toList,e,ip T,A];rw[UK,b];let:(64:Nat)<=UY:=by decide
 ext
theorem tZ:Xg X (.builtin "sorted") (λxs H Q=>(∃(p:J) (a:G Int),xs=[.ref p]/\Yk X.K H p (a.map V.int)/\a.length<64/\∀(l:J) (b:G Int),H l=P->b.Perm a->b.Pairwise (·<=·)->Q (.ref l) (aW H l (.lst (b.map V.int))))\/
  (∃(p:J) (a:G Int),xs=[.ref p]/\Yr X.K H p (a.map V.int)/\a.length<64/\∀(l:J) (b:G Int),H l=P->b.Perm a->b.Pairwise (·<=·)->Q (.ref l) (aW H l (.lst (b.map V.int))))):=L2.Xg.or vT tX
def fK:G D->I RV
 |[.tuple ds]=>(match mj ds with
  |some a=>if a.length<64 then M (.ow ((jw a).map .int))else P
  |none=>P)
 |ds=>t9 ds
def xf:zX K (λxs H Q=>(∃(p:J) (b:G Int),xs=[.ref p]/\Yk K H p (b.map V.int)/\b.length<64/\∀(l:J) (f:G Int),H l=P->f.Perm b->f.Pairwise (·<=·)->Q (.ref l) (aW H l (.lst (f.map V.int))))\/
  (∃(p:J) (b:G Int),xs=[.ref p]/\Yr K H p (b.map V.int)/\b.length<64/\∀(l:J) (f:G Int),H l=P->f.Perm b->f.Pairwise (·<=·)->Q (.ref l) (aW H l (.lst (f.map V.int))))) fK:=by
 intro O H xs ds u Q n h e q;unfold fK at e;split at e
 .split at e
  .rename_i b j
   split at e
   .rename_i v
    ext e;cases h with
    |cons r o=>ext o;let(a,w,rfl,i,t):=FJ r;rw[nr t j]at i;show .inr #[a,b,W,i.1,v,λl f m g dG=>?_];let e2:=jK (g.trans (eE b).symm) dG (dS b);subst e2;show q.new (ox _) l m
   .ext e
  .ext e
 .show .inl (AE O H xs ds u Q n h e q)
end
end L9
namespace L9
open PySem PySem.W PyProof.Rows Builtin Builtin.ObjectAttr
open PySem.Spec L2
open L3 L4
def Db(C:J)(f g:Str):Sp:=λa H Q _=>∃e v u,a=[.ref e,v,u]/\P1 v/\P1 u/\H e=M (.ext (Gu C e))/\∀p,H p=P->p≠e->Q .W9 (aW (aW H e (.ext (PR C e p))) p (.xd [(g,u),(f,v)]))
end L9
namespace LD
open PySem PyProof.Rows L2 L3
mutual
def kd:UM->Bool
 |.none=>UJ
 |.int _=>UJ
 |.str x=>UM.strOk x
 |.tuple xs=>kds xs
 |_=>UL
def kds:bb UM->Bool
 |[]=>UJ
 |x::r=>kd x&&kds r
end
def keyD:UM->Bool
 |.tuple xs=>kds xs&&decide ((UM.tuple xs).depth<=8)
 |_=>R
mutual
theorem kd_lay:∀d:UM,kd d=UJ->d.canLay0=UJ
 |.none,_=>rfl
 |.int _,_=>rfl
 |.str x,h=>by unfold UM.canLay0;unfold kd at h;exact h
 |.tuple xs,h=>by unfold UM.canLay0;unfold kd at h;exact yg xs h
 |.bool _,h|.list _,h|.dict _,h=>by simp[kd]at h
theorem yg:∀xs:bb UM,kds xs=UJ->UM.canLayAll0 xs=UJ
 |[],_=>rfl
 |x::r,h=>by unfold kds at h;rw[UH]at h;unfold UM.canLayAll0;rw[kd_lay x h.1,yg r h.2];rfl
end
mutual
theorem kd_eqv:∀d e:UM,kd d=UJ->kd e=UJ->UM.eqv d e=UJ->d=e
 |.none,e,_,h,q=>by cases e<;>simp_all [kd,UM.eqv]
 |.int i,e,_,h,q=>by cases e<;>simp_all [kd,UM.eqv]
 |.str x,e,_,h,q=>by cases e<;>simp_all [kd,UM.eqv]
 |.tuple xs,e,g,h,q=>by
  cases e with
  |tuple a=>rw[UM.eqv]at q;unfold kd at g h;rw[zU xs a g h q]
  |_=>simp_all [kd,UM.eqv]
 |.bool _,_,h,_,_|.list _,_,h,_,_|.dict _,_,h,_,_=>by simp[kd]at h
theorem zU:∀xs ys:bb UM,kds xs=UJ->kds ys=UJ->UM.eqvAll xs ys=UJ->xs=ys
 |[],[],_,_,_=>rfl
 |[],_::_,_,_,q=>by simp[UM.eqvAll]at q
 |_::_,[],_,_,q=>by simp[UM.eqvAll]at q
 |x::xs,y::ys,g,h,q=>by unfold kds at g h;rw[UM.eqvAll]at q;rw[UH]at g h q;rw[kd_eqv x y g.1 h.1 q.1,zU xs ys g.2 h.2 q.2]
end
def E2[Decidable (d=e)](hd:kd d=S)(a:kd e=S):UM.eqv d e=decide (d=e):=by
 by_cases q:d=e
 .subst q;rw[a4 W];show SeqAt.eqv_refl d (kd_lay d hd)
 .rw[a5 q]
  cases z:UM.eqv d e with
  |false=>rfl
  |true=>show a7 (kd_eqv d e hd a z) q
def keyD_kd(h:keyD d=S):kd d=S/\d.depth<=8:=by
 cases d with
 |tuple xs=>unfold keyD at h;rw[UH]at h;show#[by ext kd;show h.1,a6 h.2]
 |_=>simp[keyD]at h
mutual
def nW(w:Vw):UM->Int
 |.none=>reduceHash 0xFCA86420
 |.int i=>hashInt i
 |.str x=>hashStr w x
 |.tuple xs=>reduceHash (Builtin.Tuple.tupleHashOf (nV w xs))
 |_=>0
def nV(w:Vw):bb UM->bb Int
 |[]=>[]
 |x::r=>nW w x::nV w r
end
mutual
def Sj:UM->Nat
 |.tuple xs=>HY xs+1
 |_=>1
def HY:bb UM->Nat
 |[]=>0
 |x::r=>Sj x+HY r
end
section
variable{prog:Vc}{w:Vw}{E:UI->UQ->Prop}
mutual
theorem yp:∀(d:UM) (v:UI) (as:bb UP) (A:Vq) (s:UQ) (Q:Int->UQ->Prop),kd d=UJ->abe s.heap v d as->A.units+d.depth<cLine->Q (nW w d) {s with toks:=s.toks+Sj d}->wpAny (model prog w) A (pyHash v) Q E s
 |.none,_,_,A,s,Q,_,r,hu,h=>by cases r;exact aa4 (T:= "NoneType") rfl F.slot_NoneType_hash F.entry_NoneType_hash (F.args_NoneType_hash_1 _) (afs _) (.inr (by ext)) (Ld (UR (Ld (wpAny_mkInt (UR ⟨_,_,rfl,h⟩)))))
 |.int i,_,_,A,s,Q,_,r,_,h=>by cases r;exact afg h
 |.str x,_,_,A,s,Q,_,r,_,h=>by cases r;exact afh h
 |.tuple xs,_,_,A,s,Q,hk,r,hu,h=>by
  cases r with
  | @tuple a o vs n _ _ h1 h2 h3 h4=>
   refine aa4 (T:= "tuple") ⟨_,h1,h2⟩ F.slot_tuple_hash F.entry_tuple_hash (F.args_tuple_hash_1 _) (afs _) (.inr (by ext)) ?_;show wpAny _ _ (Builtin.Tuple.tupleItemsOf (.ref a)>>=_) _ _ s;refine Ld (wpAny_tupleItemsOf h1 h3 ?_);refine Ld ?_;rw[<-abX];unfold kd at hk;refine rl xs vs.toList _ A.in1 s #v[] _ hk h4 (by simp only[UM.depth,Vq.in1_units]at hu⊢;ext) λb e=>?_;show wpAny _ _ (retInt (Builtin.Tuple.tupleHashOf b.toList)) _ _ _;rw[e];refine Ld (wpAny_mkInt (UR ⟨_,_,rfl,?_⟩));unfold nW Sj at h
   simpa [Zp]using h
 |.bool _,_,_,_,_,_,h,_,_,_|.list _,_,_,_,_,_,h,_,_,_|.dict _,_,_,_,_,_,h,_,_,_=>by simp[kd]at h
theorem rl:∀(xs:bb UM) (vs:bb UI) (as:bb UP) (A:Vq) (s:UQ) (b:Array Int) (Q:Array Int->UQ->Prop),kds xs=UJ->Zw s.heap vs xs as->A.units+UM.depthAll xs<cLine->
  (∀b':Array Int,b'.toList=b.toList++nV w xs->Q b' {s with toks:=s.toks+HY xs})->
  wpAny (model prog w) A (forIn vs b λx r=>do let h<-pyHash x;pure PUnit.unit;pure (ForInStep.yield (r.push h))) Q E s
 |[],_,_,A,s,b,Q,_,x,_,h=>by cases x;exact UR (h b (by simp[nV]))
 |k::xs,_,_,A,s,b,Q,hk,x,hu,h=>by
  cases x with
  |cons e a=>
   unfold kds at hk;simp only[UH,UM.depthAll]at hk hu;rw[YL];refine Ld (Ld (yp k _ _ A s _ hk.1 e (by ext) ?_));refine Ld (UR (UR ?_));refine rl xs _ _ A _ _ Q hk.2 a (by ext) λb' f=>?_;have:=h b' (by simp[f,nV]);unfold HY at this
   simpa [Zp]using this
end
theorem u0:∀(n:Nat) (d:UM) (v:U) (as:G J) (A:Vq) (s:UQ) (Q:Bool->UQ->Prop),kd d=S->abe s.heap v d as->d.depth<=n->Q S s->wpAny (model prog w) A (eqIsQuiet n v) Q E s
 |n,.none,_,_,A,s,Q,_,r,_,h=>by ext r;rw[Z8 _ W];show UR h
 |n,.int i,_,_,A,s,Q,_,r,_,h=>by ext r;rw[Z8 _ W];show UR h
 |n,.str i,_,_,A,s,Q,_,r,_,h=>by ext r;rw[Z8 _ W];show UR h
 |0,.tuple xs,_,_,A,s,Q,t,r,q,h=>by simp only[UM.depth]at q;ext
 |n+1,.tuple xs,_,_,A,s,Q,t,r,q,h=>by
  cases r with
  | @tuple a o L m _ _ h1 C B u=>
   let g:s.TypeIs (.ref a) "tuple":=#[_,h1,C];simp only[UM.depth]at q;ext eqIsQuiet;show Ld (Zc g F.slot_tuple_eq.lookup ?_);show Ld (YW g isSubtype_tuple_tuple ?_);simp only[aaJ,WZ,if_false];show Ld (V7 h1 B ?_);show Ld ?_;rw[<-abX];unfold kd at t;show wpAny_forIn_list _ (λb r e=>r.1=P/\e=s/\∃ys bs,kds ys=S/\Zw s.heap b ys bs/\UM.depthAll ys<=n) _ ?_ ?_ _ _ #[W,W,xs,_,t,u,by ext]
   .rintro v b r e ⟨f,rfl,ys,bs,k1,k2,k3⟩
    cases k2 with
    | @cons _ _ y p _ _ g1 g2=>unfold kds at k1;simp only[UH,UM.depthAll]at k1 k3;show Ld (u0 n y v _ A e _ k1.1 g1 () ?_);simp only[aaJ,WZ,if_false];show UR #[W,W,p,_,k1.2,g2,by ext]
   .rintro⟨l,j⟩ e ⟨f,rfl,_⟩;simp only at f;subst f;show UR h
 |_,.bool _,_,_,_,_,_,h,_,_,_|_,.list _,_,_,_,_,_,h,_,_,_|_,.dict _,_,_,_,_,_,h,_,_,_=>by simp[kd]at h
end
mutual
theorem ra{h h':Heap}{x:UP}{b:Obj}{es:Array XD}{i:Nat}(e:h.get? x=cL b)(g:b.data=.dict es i)(f:Heap.SameBut x h h'):∀(d:UM) (v:UI) (as:bb UP),kd d=UJ->abe h v d as->abe h' v d as
 |.none,_,_,_,r=>by cases r;exact .none
 |.int _,_,_,_,r=>by cases r;exact .int _ _
 |.str _,_,_,_,r=>by cases r;exact .str _ _
 |.tuple xs,_,_,k,r=>by
  cases r with
  | @tuple a o vs n _ _ h1 h2 h3 h4=>
   have j:a≠x:=by rintro rfl;rw[e]at h1;cases h1;rw[g]at h3;exact nomatch h3
   unfold kd at k;exact .tuple ((f.2 a j).trans h1) h2 h3 (oh e g f xs _ _ k h4)
 |.bool _,_,_,h,_|.list _,_,_,h,_|.dict _,_,_,h,_=>by simp[kd]at h
theorem oh{h h':Heap}{x:UP}{a:Obj}{es:Array XD}{j:Nat}(b:h.get? x=cL a)(f:a.data=.dict es j)(e:Heap.SameBut x h h'):∀(ds:bb UM) (vs:bb UI) (as:bb UP),kds ds=UJ->Zw h vs ds as->Zw h' vs ds as
 |[],_,_,_,r=>by cases r;exact .nil
 |d::ds,_,_,k,r=>by
  cases r with
  |cons i g=>unfold kds at k;rw[UH]at k;exact .cons (ra b f e d _ _ k.1 i) (oh b f e ds _ _ k.2 g)
end
abbrev KD:={d:UM//keyD d=S}
noncomputable instance kdDec:DecidableEq KD:=λ_ _=>Classical.propDecidable _
def fX(prog:Vc)(w:Vw):HeapKind prog w KD where
 is:=λh k a=>∃as,abe h (.ref a) k.1 as
 hash:=λk=>nW w k.1
 draws:=λk=>Sj k.1
 room:=λA=>A.units+8<cLine
 inj:=λ#[_,r] #[_,f]=>Subtype.ext (abe.unique r _ _ f).1
 keeps:=λ{h l k a d o es m} #[as,r] j hd i=>#[as,ra j hd i k.1 _ _ (keyD_kd k.2).1 r]
 pyHash:=λ{A E s k a Q} g #[as,r] q=>yp k.1 _ as A s Q (keyD_kd k.2).1 r (by let:=(keyD_kd k.2).2;ext) q
 eqBool:=λ{A E s x y a b Q} g #[as,r] #[bs,f] q=>SeqAt.eqAt_reads x.1 y.1 A s _ _ as bs r f (kd_lay _ (keyD_kd x.2).1) (kd_lay _ (keyD_kd y.2).1) (by let:=(keyD_kd x.2).2;ext) prog w E Q (by
  haveI:Decidable (x.1=y.1):=Classical.propDecidable _
  rw[E2 (keyD_kd x.2).1 (keyD_kd y.2).1];by_cases e:x=y
  .rw[a4 e]at q;rw[a4 (dt Subtype.val e)];show q
  .rw[a5 e]at q;rw[a5 λz=>e (Subtype.ext z)];show q)
 quiet:=λ{A E s k a Q} #[as,r] q=>u0 8 k.1 _ as A s Q (keyD_kd k.2).1 r (keyD_kd k.2).2 q
def Ur(a:J)(xs:G (KD×J×V))(w:Vw)(h:Heap):Prop:=
 (xs.length<=UY/\(a==WJ)=R/\(xs.map (·.1)).Nodup)/\∃o es b,h.get? a=M o/\o.ExactDict/\o.data=.dict es b/\Paired (λ(x:KD×J×V) (e:XD)=>e.hash=nW w x.1.1/\e.key=.ref x.2.1/\RelV x.2.2 e.val) xs es.toList
abbrev DkO(a:J)(xs:G (KD×J×V)):HO:=.exw (Ur a xs)
abbrev PrD(O:bC)(K:CL)(H:Hp):G (KD×J×V)->G (D×D)->Prop:=
 Paired λx a=>x.1.1=a.1/\L3.DV O K H (.ref x.2.1) a.1/\L3.DV O K H x.2.2 a.2
end LD
namespace L10
open PySem L2 L3
inductive AV where
 |fz (d:D)
 |rf (i:Nat)
inductive SV where
 |fz (d:D)
 |rf (i:Nat)
 |tp (l:G AV)
def AV.sv:AV->SV
 |.fz d=>.fz d
 |.rf i=>.rf i
inductive Cell where
 |lst (xs:G SV)
 |Zo (Vi:G (b9×SV))
 |obj (C:Str) (fs:G (Str×SV))
 |dd (Vi:G (D×D))
 |dead
abbrev aH:=G Cell
abbrev aQ:=G (I SV)
inductive RS(α:Type) where
 |ok (a:α) (ω:aH)
 |er (x:Xc) (ω:aH)
 |bad
def RS.bind(r:RS α)(f:α->aH->RS β):RS β:=match r with
 |.ok a b=>f a b
 |.er x b=>.er x b
 |.bad=>.bad
def RS.VO(b:aH):I α->RS α
 |some a=>.ok a b
 |none=>.bad
theorem RS.bind_ok(a:α)(b:aH)(f:α->aH->RS β):(RS.ok a b).bind f=f a b:=W
abbrev d0:=@RS.bind_ok
def Lv(α:G J)(a:aH):bC:=λb=>∃(i:Nat) (c:Cell),α[i]?=M b/\a[i]?=M c/\c≠Cell.dead
def ow(B:bC)(α:G J)(a:aH):bC:=λb=>B b\/Lv α a b
section
variable(O:bC)(K:CL)(H:Hp)(Z:bb UP)
def AOk(v:V):AV->Prop
 |.fz d=>DV O K H v d
 |.rf i=>∃a,Z[i]?=M a/\v=.ref a
def Xv(v:V):SV->Prop
 |.fz d=>DV O K H v d
 |.rf i=>∃a,Z[i]?=M a/\v=.ref a
 |.tp l=>∃a xs,v=.ref a/\YO O K H a xs/\Paired (AOk O K H Z) xs l
abbrev Xi:G V->G SV->Prop:=Paired (Xv O K H Z)
def COk(a:J):Cell->Prop
 |.lst xs=>∃e,H a=M (.lst e)/\Xi O K H Z e xs
 |.Zo b=>∃ws:G (b9×V),H a=M (.dK ws)/\Paired (λ(p:b9×V) (q:b9×SV)=>p.1=q.1/\Xv O K H Z p.2 q.2) ws b
 |.obj C fs=>∃Ca f ws,Vj K U9 C=M (M (.ref Ca))/\H a=M (.ins Ca f ws)/\Paired (λ(p:Str×V) (q:Str×SV)=>p.1=q.1/\Xv O K H Z p.2 q.2) ws fs
 |.dd b=>∃xs,H a=M (LD.DkO a xs)/\LD.PrD O K H xs b
 |.dead=>True
def Xp(a:L2.St)(b:aQ):Prop:=a.length=b.length/\∀(i:Nat) (x:SV),b[i]?=M (M x)->∃v,a[i]?=M (M v)/\Xv O K H Z v x
end
structure Vt(B:bC)(K:CL)(H:Hp)(α:G J)(ω:aH):Prop where
 len:α.length=ω.length
 nd:∀(i j:Nat) (a:J),α[i]?=M a->α[j]?=M a->i=j
 bn:∀a,B a->H a≠P
 ba:∀a,B a->∀i:Nat,α[i]?≠M a
 al:∀(i:Nat) (a:J),α[i]?=M a->H a≠P
 cel:∀(i:Nat) (a:J) (c:Cell),α[i]?=M a->ω[i]?=M c->COk (ow B α ω) K H α a c
structure WA(α:G J)(ω:aH)(H:Hp)(α':G J)(ω':aH)(H':Hp):Prop where
 pre:∀(i:Nat) (a:J),α[i]?=M a->α'[i]?=M a
 kp:∀b o,H b=M o->¬Lv α ω b->H' b=M o
 lv:∀b,Lv α' ω' b->Lv α ω b\/H b=P
section
variable{B O Q:bC}{K:CL}{E:XK}{H t S N:Hp}{Z Y U T:bb UP}{L X ω1 R:aH}{σ:L2.St}{ρ:aQ}{v:V}
theorem WA.refl:WA Z L H Z L H:=#[λ_ _ h=>h,λ_ _ h _=>h,λ_ h=>.inl h]
def WA.trans(a:WA Z L H U ω1 S)(b:WA U ω1 S T R N):WA Z L H T R N:=by
 let e:∀b o,H b=M o->¬Lv Z L b->¬Lv U ω1 b:=λb o h n z=>(a.lv b z).elim n λq=>by simp_all
 show#[λi p h=>b.pre i p (a.pre i p h),λp o h n=>b.kp p o (a.kp p o h n) (e p o h n),λp h=>?_];rcases b.lv p h with h|h
 .show a.lv p h
 .cases q:H p with
  |none=>simp_all
  |some o=>show .inl (Classical.byContradiction λn=>?_);rw[a.kp p o q n]at h;ext h
theorem WA.same(s:Wt H t):WA Z L H Z L t:=#[λ_ _ h=>h,λb o h _=>s b o h,λ_ h=>.inl h]
theorem WA.ev(e:WA Z L H Y X t):Ev (ow B Z L) H (ow B Y X) t:=λb o h n=>
 #[e.kp b o h λz=>n (.inr z),λz=>z.elim (λq=>n (.inl q)) λq=>(e.lv b q).elim (λq=>n (.inr q)) λq=>by simp_all]
def AOk.ev(e:Ev O H Q t)(p:∀(i:Nat) (a:J),Z[i]?=M a->Y[i]?=M a)(h:AOk O K H Z v x):AOk Q K t Y v x:=by
 cases x with
 |fz d=>show DV.ev e h
 |rf i=>let(a,f,b):=h;show#[a,p i a f,b]
def Xv.ev(e:Ev O H Q t)(p:∀(i:Nat) (a:J),Z[i]?=M a->Y[i]?=M a)(h:Xv O K H Z v x):Xv Q K t Y v x:=by
 cases x with
 |fz d=>show DV.ev e h
 |rf i=>let(a,f,b):=h;show#[a,p i a f,b]
 |tp l=>let(a,xs,f,b,g):=h;show#[a,xs,f,b.ev e,Paired.Yb g λ_ _ q=>q.ev e p]
theorem Xv.Xa(e:WA Z L H Y X t)(h:Xv (ow B Z L) K H Z v x):Xv (ow B Y X) K t Y v x:=h.ev e.ev e.pre
theorem Xi.Xa(e:WA Z L H Y X t)(h:Xi (ow B Z L) K H Z vs xs):Xi (ow B Y X) K t Y vs xs:=Paired.Yb h λ_ _ q=>q.Xa e
theorem Xp.Xa(e:WA Z L H Y X t)(h:Xp (ow B Z L) K H Z σ ρ):Xp (ow B Y X) K t Y σ ρ:=#[h.1,λi x q=>let#[v,h1,a]:=h.2 i x q;#[v,h1,a.Xa e]]
def COk.ev(e:Ev O H Q t)(p:∀(i:Nat) (a:J),Z[i]?=M a->Y[i]?=M a)(d:∀o,H a=M o->t a=M o)(h:COk O K H Z a c):COk Q K t Y a c:=by
 cases c with
 |lst xs=>let(j,f,b):=h;show#[j,d _ f,Paired.Yb b λ_ _ q=>q.ev e p]
 |Zo m=>let(ws,f,b):=h;show#[ws,d _ f,Paired.Yb b λ_ _ q=>#[q.1,q.2.ev e p]]
 |obj C fs=>let(Ca,l,ws,g,f,b):=h;show#[Ca,l,ws,g,d _ f,Paired.Yb b λ_ _ q=>#[q.1,q.2.ev e p]]
 |dd m=>let(xs,f,b):=h;show#[xs,d _ f,Paired.Yb b λ_ _ q=>#[q.1,q.2.1.ev e,q.2.2.ev e]]
 |dead=>trivial
theorem Vt.noO(s:Vt B K H Z L):kQ (ow B Z L) H:=λa h z=>z.elim (λq=>s.bn a q h) λ#[i,c,q,_]=>s.al i a q h
theorem Vt.owd(s:Vt B K H Z L):∀a,ow B Z L a->H a≠P:=λa z h=>s.noO a h z
def Vt.grow(s:Vt B K H Z L)(e:Wt H t):Vt B K t Z L:=by let n:∀a,H a≠P->t a≠P:=λa h z=>h (e.free z);show#[s.len,s.nd,λa h=>n a (s.bn a h),s.ba,λi a h=>n a (s.al i a h),λi a c f b=>(s.cel i a c f b).ev (Ev.grow e) (λ_ _ h=>h) λo h=>e _ _ h]
def Vt.at(s:Vt B K H Z L){i:Nat}(h:L[i]?=M c):∃a,Z[i]?=M a:=by let:i<L.length:=(UO.mp h).1;rw[<-s.len]at this;simp_all
theorem Vt.adx(s:Vt B K H Z L){i:Nat}(h:Z[i]?=M a):¬B a:=λz=>s.ba a z i h
def wW{i:Nat}{c m:Cell}(h:L[i]?=M c)(n:c≠.dead)(g:m≠.dead){b:J}:Lv Z (L.set i m) b↔Lv Z L b:=by
 constructor
 .rintro⟨j,d,f,a,l⟩
  rcases bS a with⟨rfl,rfl⟩|⟨_,a⟩
  .show#[j,c,f,h,n]
  .show#[j,d,f,a,l]
 .rintro⟨j,d,f,a,l⟩
  by_cases e:j=i
  .subst e;show#[j,m,f,by rw[We (UO.mp h).1],g]
  .show#[j,d,f,by rw[VV (λz=>e z.symm)];show a,l]
def N3(h:L[i]?=M c)(e:c≠.dead)(a:o≠.dead):ow B Z (L.set i o)=ow B Z L:=by funext b;show propext #[λz=>z.imp id (wW h e a).mp,λz=>z.imp id (wW h e a).mpr]
theorem WA.put(d:Z[i]?=M a)(h:L[i]?=M c)(g:c≠.dead)(f:c'≠.dead):WA Z L H Z (L.set i c') (aW H a o):=
 #[λ_ _ h=>h,λb j q n=>by let z:b≠a:=λe=>n #[i,c,by simp_all,h,g];rw[au z];show q,λb z=>.inl ((wW h g f).mp z)]
def Vt.put(s:Vt B K H Z L)(k:Z[i]?=M a)(h:L[i]?=M c)(m:c≠.dead)(f:c'≠.dead)(new:COk (ow B Z L) K (aW H a o) Z a c'):Vt B K (aW H a o) Z (L.set i c'):=by
 let e:WA Z L H Z (L.set i c') (aW H a o):=WA.put k h m f;let n:∀b,H b≠P->aW H a o b≠P:=λb h=>by
  by_cases z:b=a
  .subst z;rw[aC];simp
  .rw[au z];show h
 show#[by rw[V5];show s.len,s.nd,λb h=>n b (s.bn b h),s.ba,λj b h=>n b (s.al j b h),λj b d l g=>?_];rcases bS g with⟨rfl,rfl⟩|⟨p,g⟩
 .rw[k]at l;ext l;rw[N3 h m f];show new
 .show(s.cel j b d l g).ev e.ev e.pre λu q=>by rw[au (λz=>p (s.nd j i a (by simp_all) k))];show q
theorem pd{i:Nat}{a:J}{c:Cell}{o:HO}(d:Z[i]?=M a)(h:L[i]?=M c)(b:c≠.dead):Ev (ow B Z L) H (ow B Z L) (aW H a o):=Ev.mut (.inr #[i,c,d,h,b]) o
def bM{Z:Type}{l:G Z}{x y:Z}{i:Nat}(h:(l++[x])[i]?=M y):l[i]?=M y\/(i=l.length/\y=x):=by
 by_cases hi:i<l.length
 .rw[U1 hi]at h;show .inl h
 .rw[Vn ()]at h
  cases q:i - l.length with
  |zero=>rw[q]at h;ext h;show .inr #[by ext,W]
  |succ n=>rw[q]at h;ext h
def gA{Z:Type}{l:G Z}{x y:Z}{i:Nat}(h:l[i]?=M y):(l++[x])[i]?=M y:=by rw[U1 (UO.mp h).1];show h
def aM:(l++[x])[l.length]?=M x:=by simp
def sK(g:Z.length=L.length)(h:Lv (Z++[p]) (L++[c]) b):Lv Z L b\/b=p:=by
 let(i,d,e,a,f):=h;rcases bM e with e|⟨e1,e2⟩
 .rcases bM a with a|⟨e1,e2⟩
  .show .inl #[i,d,e,a,f]
  simp_all
 .show .inr e2
theorem WA.aae(f:Z.length=L.length)(s:Wt H t)(g:H p=P):WA Z L H (Z++[p]) (L++[c]) t:=
 #[λi a h=>gA h,λb u q _=>s b u q,λb z=>(sK f z).imp id λe=>by simp_all]
def Vt.aae(s:Vt B K H Z L)(e:Wt H t)(l:H p=P)(m:t p≠P)(new:COk (ow B (Z++[p]) (L++[c])) K t (Z++[p]) p c):Vt B K t (Z++[p]) (L++[c]):=by
 let ev:WA Z L H (Z++[p]) (L++[c]) t:=WA.aae s.len e l;let n:∀b,H b≠P->t b≠P:=λb h z=>h (e.free z);show#[by rw[US,US,s.len];rfl,λi j a f g=>?_,λa h=>n a (s.bn a h),λa h i q=>?_,λi a h=>?_,λi a d f g=>?_]
 .rcases bM f with g1|⟨e1,e2⟩<;>rcases bM g with g2|⟨e3,e4⟩
  .show s.nd i j a g1 g2
  .show a7 (by rw[e4];show l) (s.al i a g1)
  .show a7 (by rw[e2];show l) (s.al j a g2)
  .omega
 .rcases bM q with q|⟨_,e2⟩
  .show s.ba a h i q
  .subst e2;show s.bn a h l
 .rcases bM h with h|⟨_,e2⟩
  .show n a (s.al i a h)
  simp_all
 .rcases bM g with g|⟨e1,e2⟩
  .rcases bM f with f|⟨e1,_⟩
   .show(s.cel i a d f g).ev ev.ev ev.pre λo q=>e _ _ q
   .let:=(UO.mp g).1;let:=s.len;ext
  .rcases bM f with f|⟨_,e3⟩
   .let:=(UO.mp f).1;let:=s.len;ext
   simp_all
def WS(K:CL)(E:XK)(B:bC)(H:Hp)(Z:G J)(L:aH)(P:A->G J->aH->Hp->Prop):RS A->Prop
 |.ok a X=>∀Y t,WA Z L H Y X t->Vt B K t Y X->P a Y X t
 |.er x X=>∀c b Y t,WA Z L H Y X t->Vt B K t Y X->XOk K (ow B Y X) t c b x->E c b t
 |.bad=>False
def WS.from(e:WA Z L H U ω1 S)(h:WS K E B H Z L f r):WS K E B S U ω1 f r:=by
 cases r with
 |ok a R=>show λT N e2 b=>h T N (e.trans e2) b
 |er x R=>show λc g T N e2 b=>h c g T N (e.trans e2) b
 |bad=>show h
def WS.bind(h:WS K E B H Z L b (r.bind k)):WS K E B H Z L (λa U ω1 S=>WS K E B S U ω1 b (k a ω1)) r:=by
 cases r with
 |ok a ω1=>show λU S e1 _=>WS.from e1 h
 |er x ω1=>show h
 |bad=>show h
def WS.VO(h:WS K E B H Z L b ((RS.VO L o).bind k)):∃a,o=M a/\WS K E B H Z L b (k a L):=by
 cases o with
 |none=>show h.elim
 |some a=>show#[a,W,h]
def WS.imp(h:WS K E B H Z L e r)(g:∀a Y X t,WA Z L H Y X t->Vt B K t Y X->e a Y X t->P' a Y X t):WS K E B H Z L P' r:=by
 cases r with
 |ok a ω1=>show λU S e1 b=>g a U ω1 S e1 b (h U S e1 b)
 |er x ω1=>show h
 |bad=>show h
theorem WS.now(s:Vt B K H Z L)(h:WS K E B H Z L b (.ok a L)):b a Z L H:=h Z H .refl s
end
abbrev dj:=aQ->aH->RS SV
abbrev qK:=aQ->aH->RS Bool
abbrev uU:=aQ->aH->RS (G SV)
def cB(K:CL)(E:XK)(t:TE)(f:dj):Prop:=
 ∀(B:bC) (e:L2.St) (H:Hp) (α:G J) (h:aH) (i:aQ) (Q:VK),Vt B K H α h->Xp (ow B α h) K H α e i->WS K E B H α h (λx a b g=>∀v,Xv (ow B a b) K g a v x->Q v g) (f i h)->t e H Q
def ul(K:CL)(E:XK)(t:TT)(f:qK):Prop:=
 ∀(B:bC) (a:L2.St) (H:Hp) (α:G J) (g:aH) (h:aQ) (Q:Bool->Hp->Prop),Vt B K H α g->Xp (ow B α g) K H α a h->WS K E B H α g (λb _ _ e=>Q b e) (f h g)->t a H Q
def tP(K:CL)(E:XK)(t:TA)(f:uU):Prop:=
 ∀(B:bC) (e:L2.St) (H:Hp) (α:G J) (h:aH) (i:aQ) (Q:G V->Hp->Prop),Vt B K H α h->Xp (ow B α h) K H α e i->WS K E B H α h (λxs a b g=>∀j,Xi (ow B a b) K g a j xs->Q j g) (f i h)->t e H Q
section
variable{B O N:bC}{K:CL}{E:XK}{H H' U H2:Hp}{Z P Y J:bb UP}{ω M ω1 T:aH}{X:L2.St}{ρ:aQ}{v:V}
def Lf:I SV->I PV
 |some (.fz d)=>cL (.fz d)
 |_=>lD
def bQ(ρ:aQ):aL:=ρ.map Lf
def rL{i:Nat}(h:(bQ ρ)[i]?=cL (cL x)):∃d,x=.fz d/\ρ[i]?=cL (cL (.fz d)):=by
 unfold bQ at h;rw[UZ]at h;cases q:ρ[i]? with
 |none=>simp_all
 |some o=>
  rw[q]at h;let a:=Vd h;unfold Lf at a;split at a
  .ext a;show#[_,W,W]
  .ext a
def BR(s:Vt B K H Z ω)(a:Xp (ow B Z ω) K H Z X ρ):Rl K (ow B Z ω) H (ow B Z ω) X H (bQ ρ):=by
 show#[Wt.refl _,λ_ h=>h,s.owd,s.noO,by ext bQ;rw[UK];show a.1,λi x h=>?_,λi j ds es w h=>?_]
 .let(d,rfl,b):=rL h;let(v,g,f):=a.2 i _ b;show#[v,g,f]
 .let(d,e,_):=rL h;ext e
def j8(ω:aH):RV->RS SV
 |.fz d=>.ok (.fz d) ω
 |.ow ds=>.ok (.rf ω.length) (ω++[.lst (ds.map .fz)])
abbrev PQ(B:bC)(K:CL)(Q:VK):SV->G UP->aH->Hp->Prop:=λx P M H'=>∀v,Xv (ow B P M) K H' P v x->Q v H'
theorem jr(O:bC)(Z:G UP):∀{a:G V} {ds:G D},Wo O K H a ds->Xi O K H Z a (ds.map .fz)
 |_,_,.nil=>.nil
 |_,_,.cons h t=>.cons h (jr O Z t)
theorem Cy:∀{a:G V} {ds:G D},Xi O K H Z a (ds.map .fz)->Wo O K H a ds
 |_,[],.nil=>.nil
 |_,_::_,.cons h t=>.cons h (Cy t)
def oP(s:Vt B K H Z ω)(w:WS K E B H Z ω (PQ B K Q) (j8 ω (.ow ds)))(e:Wt H H')(a:H p=lD)(h:H' p=cL (.lst o))(hd:Wo N K H' o ds)(f:∀b,ow B Z ω b->N b)(g:N p):Q (.ref p) H':=by
 let sub:∀b,ow B (Z++[p]) (ω++[.lst (ds.map .fz)]) b->N b:=λb z=>z.elim (λq=>f b (.inl q)) λq=>(sK s.len q).elim (λq=>f b (.inr q)) λq=>by simp_all
 show w (Z++[p]) H' (WA.aae s.len e a) (s.aae e a (by rw[h];simp) #[o,h,jr _ _ (hd.ev (Ev.sub sub))]) (.ref p) #[p,by rw[<-s.len];show aM,W]
def Gg(s:Vt B K H Z ω)(w:WS K E B H Z ω (PQ B K Q) (j8 ω o)):Fin (ow B Z ω) K H Q o:=by
 cases o with
 |fz d=>show λv H' e a=>w Z H' (WA.same e) (s.grow e) v a
 |ow ds=>show λp g H' e f h a=>oP s w e f h a (λb z=>.inl z) (.inr W)
def ag(f:FE):dj:=λρ ω=>match f (bQ ρ)with
 |.ok (.fz d,_)=>.ok (.fz d) ω
 |.ok (.ow ds,_)=>j8 ω (.ow ds)
 |.ok (.pl _,_)=>.bad
 |.er x=>.er x ω
 |.bad=>.bad
def ur(h:EO K E t f):cB K E t (ag f):=by
 intro B X H Z ω ρ Q s g w;show h (ow B Z ω) H (ow B Z ω) X H (bQ ρ) Q (BR s g) ?_;unfold ag at w;cases q:f (bQ ρ)with
 |bad=>rw[q]at w;show w.elim
 |er x=>rw[q]at w;show λc u H' e k=>w c u Z H' (WA.same e) (s.grow e) k
 |ok r=>
  let(pv,b):=r;rw[q]at w;intro N v H' e R p;cases pv with
  |fz d=>show w Z H' (WA.same R.same) (s.grow R.same) v (DV.ev (Ev.sub R.bo) p)
  |ow ds=>let(a,y,rfl,n,m,l,j,o):=p;show oP s w R.same m l j R.bo n
  |pl i=>show w.elim
def bh(f:FT):qK:=λρ ω=>match f (bQ ρ)with
 |.ok (b,_)=>.ok b ω
 |.er x=>.er x ω
 |.bad=>.bad
def C7(h:TTO K E t f):ul K E t (bh f):=by
 intro B X H Z ω ρ Q s g w;show h (ow B Z ω) H (ow B Z ω) X H (bQ ρ) Q (BR s g) ?_;unfold bh at w;cases q:f (bQ ρ)with
 |bad=>rw[q]at w;show w.elim
 |er x=>rw[q]at w;show λc i H' e k=>w c i Z H' (WA.same e) (s.grow e) k
 |ok r=>let(b,a):=r;rw[q]at w;show λN H' e R=>w Z H' (WA.same R.same) (s.grow R.same)
def ar(i:Nat):dj:=λρ ω=>match ρ[i]? with
 |some (cL x)=>.ok x ω
 |_=>.bad
def Kg:cB K E (qB i) (ar i):=by
 intro B X H Z ω ρ Q s a w;unfold ar at w;cases q:ρ[i]? with
 |none=>rw[q]at w;show w.elim
 |some o=>
  cases o with
  |none=>rw[q]at w;show w.elim
  |some x=>rw[q]at w;let(v,e,b):=a.2 i x q;show#[v,e,WS.now s w v b]
def jT(K:CL)(C:Str)(fs:G Str):Prop:=∃Ca,Vj K U9 C=cL (cL (.ref Ca))/\Cls K Ca/\∀f∈fs,Ya K Ca f
def aP(C f:Str)(e:dj):dj:=λρ ω=>(e ρ ω).bind λx ω1=>match x with
 |.rf i=>(match ω1[i]? with
  |some (.obj D fs)=>if D=C then RS.VO ω1 (fs.lookup f)else .bad
  |_=>.bad)
 |_=>.bad
def A5:∀{ws:G (Str×V)} {fs:G (Str×SV)},Paired (λ(p:Str×V) (q:Str×SV)=>p.1=q.1/\Xv O K H Z p.2 q.2) ws fs->fs.lookup f=cL x->∃v,ws.lookup f=cL v/\Xv O K H Z v x:=by
 intro ws fs p
 induction p with
 |nil=>intro h;ext h
 | @cons a b _ _ q t i=>
  let(a,v):=a;let(b,y):=b;let(g,e):=q;intro h;ext g;rw[VD]at h⊢;split at h
  .ext h;show#[v,W,e]
  .show i h
def Bk:∀{ws:G (Str×V)} {fs:G (Str×SV)},Paired (λ(p:Str×V) (q:Str×SV)=>p.1=q.1/\Xv O K H Z p.2 q.2) ws fs->fs.lookup f=lD->ws.lookup f=lD:=by
 intro ws fs p
 induction p with
 |nil=>intro h;rfl
 | @cons a b _ _ q t i=>
  let(a,v):=a;let(b,y):=b;let(e,g):=q;intro h;ext e;rw[VD]at h⊢;split at h
  .ext h
  .show i h
def Ih(o:jT K C L)(n:f∈L)(k:cB K E ta fa):cB K E (OC K ta f) (aP C f fa):=by
 intro B X H Z ω ρ Q s h w;show k B X H Z ω ρ _ s h (w.bind.imp λx Y ω1 U e1 e b v j=>?_);cases x with
 |fz d=>show b.elim
 |tp l=>show b.elim
 |rf i=>
  let(a,k,rfl):=j;dsimp only at b;cases q:ω1[i]? with
  |none=>rw[q]at b;show b.elim
  |some c=>
   rw[q]at b;cases c with
   |obj D fs=>
    dsimp only at b;by_cases z:D=C
    .subst z
     rw[ax W]at b;let(Ca,dx,ws,t,r,p):=e.cel i a _ k q;cases ql:fs.lookup f with
     |none=>rw[ql]at b;show b.elim
     |some x=>rw[ql]at b;let(u,m,g):=A5 p ql;let(F,g0,A,y):=o;rw[t]at g0;ext g0;show#[a,Ca,dx,ws,u,W,r,A,y f n,m,WS.now e b u g]
    .rw[a3 z]at b;show b.elim
   |_=>show b.elim
def aF{Z a:Type}(f:Z->I a):G Z->I (G a)
 |[]=>cL []
 |x::r=>match f x with
  |some y=>(match aF f r with
   |some b=>cL (y::b)
   |none=>lD)
  |none=>lD
def AD:Nat->aH->SV->I D
 |_,_,.fz d=>cL d
 |0,_,_=>lD
 |n+1,ω,.rf i=>match ω[i]? with
  |some (.lst xs)=>(aF (AD n ω) xs).map .list
  |_=>lD
 |n+1,ω,.tp l=>(aF (λx=>AD n ω x.sv) l).map .tuple
theorem cR{Z a:Type}{f:Z->I a}{R:V->Z->Prop}{S:V->a->Prop}(h:∀v x y,R v x->f x=cL y->S v y):∀{c:G V} {xs:G Z} {g:G a},Paired R c xs->aF f xs=cL g->Paired S c g
 |_,_,_,.nil,e=>by ext e;show .nil
 |_,_,_,.cons (b:=x) (l₂:=xs) r t,e=>by
  unfold aF at e;cases q:f x with
  |none=>simp_all
  |some y=>
   rw[q]at e;dsimp only at e;cases i:aF f xs with
   |none=>simp_all
   |some g=>rw[i]at e;ext e;show .cons (h _ _ _ r q) (cR h t i)
def kg:∀{b:G V} {ds:G D},Paired (DV O K H) b ds->Wo O K H b ds:=by
 intro _ _ p
 induction p with
 |nil=>show .nil
 |cons h t a=>show .cons h a
theorem KS:Ev O H noO H:=Ev.sub λ_ z=>z.elim
theorem jD(s:Vt B K H Z ω):∀(n:Nat) {v:V} {x:SV} {d:D},Xv (ow B Z ω) K H Z v x->AD n ω x=cL d->DV noO K H v d
 |n,v,.fz o,d,h,e=>by
  let g:cL o=cL d:=by ext n<;>show e
  ext g;show DV.ev KS h
 |0,v,.rf i,d,h,e=>by ext e
 |0,v,.tp l,d,h,e=>by ext e
 |n+1,v,.rf i,d,h,e=>by
  let(a,m,rfl):=h;unfold AD at e;cases q:ω[i]? with
  |none=>simp_all
  |some c=>
   rw[q]at e;cases c with
   |lst xs=>
    dsimp only at e;cases j:aF (AD n ω) xs with
    |none=>simp_all
    |some ds=>rw[j]at e;ext e;let(p,f,b):=s.cel i a _ m q;show .lst #[X4.of f,λz=>z.elim] (kg (cR (R:=Xv (ow B Z ω) K H Z) (λv x y r e=>jD s n r e) b j))
   |_=>ext e
 |n+1,v,.tp l,d,h,e=>by
  let(a,xs,rfl,f,b):=h;unfold AD at e;cases j:aF (λx=>AD n ω x.sv) l with
  |none=>simp_all
  |some ds=>rw[j]at e;ext e;show .tup (f.ev KS) (kg (cR (λv x y r e=>jD s n (by ext x<;>show r) e) b j))
def uY:SV->I D
 |.fz d=>cL d
 |_=>lD
def sh(ω:aH):SV->I D
 |.fz d=>cL d
 |.rf i=>match ω[i]? with
  |some (.lst xs)=>(aF uY xs).map .list
  |_=>lD
 |.tp _=>lD
def DR(s:Vt B K H Z ω)(h:Xv (ow B Z ω) K H Z v x)(e:sh ω x=cL d):DX (ow B Z ω) K H v d:=by
 cases x with
 |fz g=>ext e;show DV.x h
 |tp l=>ext e
 |rf i=>
  let(a,n,rfl):=h;unfold sh at e;dsimp only at e;cases q:ω[i]? with
  |none=>simp_all
  |some c=>
   rw[q]at e;cases c with
   |lst xs=>
    dsimp only at e;cases j:aF uY xs with
    |none=>simp_all
    |some ds=>
     rw[j]at e;ext e;let(m,f,b):=s.cel i a _ n q;show#[a,m,W,X4.of f,kg (cR (λv x y r e=>?_) b j)];cases x with
     |fz d=>ext e;show r
     |rf i=>ext e
     |tp l=>ext e
   |_=>ext e
def G1:D->Bool
 |.none=>S
 |.bool _=>S
 |.int _=>S
 |.str _=>S
 |_=>R
def GL(h:G1 d=S)(a:DV O K H v d):DV N K H' v d:=by
 cases a with
 |W9=>show .W9
 |bl b=>show .bl b
 |int i=>show .int i
 |str x=>show .str x
 |tup _ _=>ext h
 |lst _ _=>ext h
def uA(ω:aH):RV->RS SV
 |.fz d=>if G1 d=S then .ok (.fz d) ω else .bad
 |.ow _=>.bad
def C0(s:Vt B K H Z ω)(w:WS K E B H Z ω (PQ B K Q) (uA ω o)):Fin noO K H Q o:=by
 cases o with
 |fz d=>
  let w:WS K E B H Z ω (PQ B K Q) (if G1 d=S then RS.ok (SV.fz d) ω else RS.bad):=w;by_cases z:G1 d=S
  .rw[ax z]at w;show λv H' e a=>w Z H' (WA.same e) (s.grow e) v (GL z a)
  .rw[a3 z]at w;show w.elim
 |ow ds=>show w.elim
theorem Ex:kQ noO H:=λ_ _ z=>z
def pV(f:D->D->I RV)(x y:SV)(ω:aH):RS SV:=match sh ω x,sh ω y with
 |some g,cL b=>(RS.VO ω (f g b)).bind λe ω1=>j8 ω1 e
 |_,_=>(RS.VO ω (AD 6 ω x)).bind λg ω1=>(RS.VO ω1 (AD 6 ω1 y)).bind λb T=>(RS.VO T (f g b)).bind λe a=>uA a e
def wU(n:iA K r f)(s:Vt B K H Z ω)(m:Xv (ow B Z ω) K H Z x a)(l:Xv (ow B Z ω) K H Z y b)(w:WS K E B H Z ω (PQ B K Q) (pV f a b ω)):r x y H Q:=by
 let o:WS K E B H Z ω (PQ B K Q) ((RS.VO ω (AD 6 ω a)).bind λq ω1=>(RS.VO ω1 (AD 6 ω1 b)).bind λe T=>(RS.VO T (f q e)).bind λp i=>uA i p)->r x y H Q:=λw=>by let(q,h,w):=w.VO;let(e,g,w):=w.VO;let(p,j,w):=w.VO;show n noO H x y q e p Q Ex (DV.x (jD s 6 m h)) (DV.x (jD s 6 l g)) j (C0 s w)
 unfold pV at w;cases h:sh ω a with
 |none=>simp_all
 |some q=>
  cases g:sh ω b with
  |none=>simp_all
  |some e=>rw[h,g]at w;let(p,j,w):=w.VO;show n _ H x y q e p Q s.noO (DR s m h) (DR s l g) j (Gg s w)
def kI(f:D->D->I RV)(a fb:dj):dj:=λρ ω=>(a ρ ω).bind λx ω1=>(fb ρ ω1).bind λy T=>pV f x y T
def Dh(l:iA K r f)(c:cB K E C fa)(m:cB K E o fb):cB K E (Gk r C o) (kI f fa fb):=by intro B X H Z ω ρ Q s a w;show c B X H Z ω ρ _ s a (w.bind.imp λx Y ω1 U e1 h e v i=>?_);show m B X U Y ω1 ρ _ h (a.Xa e1) (e.bind.imp λy J T H2 e2 g b u j=>?_);show wU l g (i.Xa e2) j b
def G5:SV->I Bool
 |.fz (.bool b)=>cL b
 |_=>lD
def IX(e:G5 x=cL b)(h:Xv O K H Z v x):v=.bl b:=by
 unfold G5 at e;split at e
 .ext e;ext h;rfl
 .ext e
def a9(a:dj):qK:=λρ ω=>(a ρ ω).bind λx ω1=>RS.VO ω1 (G5 x)
def n9(c:cB K E o C):ul K E (rN o) (a9 C):=by
 intro B X H Z ω ρ Q s e w;show c B X H Z ω ρ _ s e (w.bind.imp λx Y ω1 U e1 f a v g=>?_);cases q:G5 x with
 |none=>rw[q]at a;show a.elim
 |some b=>rw[q]at a;show#[b,IX q g,WS.now f a]
theorem D6(a:cB K E o C):ul K E (tB o) (a9 C):=n9 a
def jW(a fb:qK):qK:=λρ ω=>(a ρ ω).bind λb ω1=>if b=S then fb ρ ω1 else .ok R ω1
def BN(a fb:qK):qK:=λρ ω=>(a ρ ω).bind λb ω1=>if b=S then .ok S ω1 else fb ρ ω1
def qE(a:qK):qK:=λρ ω=>(a ρ ω).bind λb ω1=>.ok (!b) ω1
def JO(j:ul K E t f)(i:ul K E u g):ul K E (M4 t u) (jW f g):=by
 intro B X H Z ω ρ Q s e w;show j B X H Z ω ρ _ s e (w.bind.imp λb Y ω1 U e1 h a=>?_);cases b with
 |true=>show i B X U Y ω1 ρ Q h (e.Xa e1) a
 |false=>show WS.now h a
def Nf(j:ul K E t f)(i:ul K E u g):ul K E (Tv t u) (BN f g):=by
 intro B X H Z ω ρ Q s e w;show j B X H Z ω ρ _ s e (w.bind.imp λb Y ω1 U e1 h a=>?_);cases b with
 |true=>show WS.now h a
 |false=>show i B X U Y ω1 ρ Q h (e.Xa e1) a
def Hn(h:ul K E t f):ul K E (GC t) (qE f):=by intro B X H Z ω ρ Q s e w;show h B X H Z ω ρ _ s e (w.bind.imp λb Y ω1 U e1 g a=>WS.now g a)
def mQ:qK:=λ_ ω=>.ok S ω
theorem FR:ul K E D3 mQ:=λB X H Z ω ρ Q s a w=>WS.now s w
def wR(a fb:dj):dj:=λρ ω=>(a9 a ρ ω).bind λb ω1=>if b=S then fb ρ ω1 else .ok (.fz (.bool R)) ω1
def IJ(d:cB K E C fa)(g:cB K E o fb):cB K E (DG C o) (wR fa fb):=by
 intro B X H Z ω ρ Q s e w;show n9 d B X H Z ω ρ (λc U=>if c=S then o X U Q else Q (.bl R) U) s e (w.bind.imp λb Y ω1 U e1 f a=>?_);cases b with
 |true=>show g B X U Y ω1 ρ Q f (e.Xa e1) a
 |false=>show WS.now f a _ (.bl R)
def KI(c:qK)(a fb:dj):dj:=λρ ω=>(c ρ ω).bind λb ω1=>if b=S then a ρ ω1 else fb ρ ω1
def Nv(g:ul K E t c)(d:cB K E C fa)(h:cB K E o fb):cB K E (P6 t C o) (KI c fa fb):=by
 intro B X H Z ω ρ Q s a w;show g B X H Z ω ρ _ s a (w.bind.imp λb Y ω1 U e1 f e=>?_);cases b with
 |true=>show d B X U Y ω1 ρ Q f (a.Xa e1) e
 |false=>show h B X U Y ω1 ρ Q f (a.Xa e1) e
def aK:uU:=λ_ ω=>.ok [] ω
def aj(b:dj)(a:uU):uU:=λρ ω=>(b ρ ω).bind λx ω1=>(a ρ ω1).bind λxs T=>.ok (x::xs) T
theorem zE:tP K E jU aK:=λB X H Z ω ρ Q s a w=>WS.now s w [] .nil
def Df(c:cB K E o C)(j:tP K E tr fr):tP K E (im o tr) (aj C fr):=by intro B X H Z ω ρ Q s b w;show c B X H Z ω ρ _ s b (w.bind.imp λx Y ω1 U e1 h f v i=>?_);show j B X U Y ω1 ρ _ h (b.Xa e1) (f.bind.imp λxs J T H2 e2 g e l a=>?_);show WS.now g e (v::l) (.cons (i.Xa e2) a)
def Sv:SV->I AV
 |.fz d=>cL (.fz d)
 |.rf i=>cL (.rf i)
 |.tp _=>lD
def Sh(xs:G SV):I SV:=match aF uY xs with
 |some ds=>cL (.fz (.tuple ds))
 |none=>(aF Sv xs).map .tp
def kR(a:uU):dj:=λρ ω=>(a ρ ω).bind λxs ω1=>if xs.length<=1000 then RS.VO ω1 (Sh xs)else .bad
def xz(r:Xv O K H Z v x)(e:uY x=cL d):DV O K H v d:=by
 cases x with
 |fz d=>ext e;show r
 |rf i=>ext e
 |tp l=>ext e
def N0(r:Xv O K H Z v x)(e:Sv x=cL d):AOk O K H Z v d:=by
 cases x with
 |fz d=>ext e;show r
 |rf i=>ext e;show r
 |tp l=>ext e
def HR(c:tP K E C fa):cB K E (GM C) (kR fa):=by
 intro B X H Z ω ρ Q s m w;show c B X H Z ω ρ _ s m (w.bind.imp λxs Y ω1 U e1 f a n g=>?_);by_cases hn:xs.length<=1000
 .rw[ax hn]at a
  show#[by rw[g.length];show wE hn,λp j=>?_];let b:Wt U (aW U p (.tup n)):=bJ j _;let e:WA Y ω1 U Y ω1 (aW U p (.tup n)):=WA.same b;let i:YO (ow B Y ω1) K (aW U p (.tup n)) p n:=#[Yr.of aC,λz=>a7 z (f.noO p j)];unfold Sh at a;cases q:aF uY xs with
  |some ds=>rw[q]at a;show a Y _ e (f.grow b) _ (.tup i (kg (cR (R:=Xv (ow B Y ω1) K U Y) (λv x y r h=>(xz r h).ev e.ev) g q)))
  |none=>
   rw[q]at a;dsimp only at a;cases o:aF Sv xs with
   |none=>rw[o]at a;show a.elim
   |some l=>rw[o]at a;show a Y _ e (f.grow b) _ #[p,n,W,i,cR (R:=Xv (ow B Y ω1) K U Y) (λv x y r h=>(N0 r h).ev e.ev e.pre) g o]
 .rw[a3 hn]at a;show a.elim
def Mz(f:G D->I RV)(xs:G SV)(ω:aH):RS SV:=match aF (sh ω) xs with
 |some ds=>(RS.VO ω (f ds)).bind λb ω1=>j8 ω1 b
 |_=>(RS.VO ω (aF (AD 6 ω) xs)).bind λds ω1=>(RS.VO ω1 (f ds)).bind λb a=>uA a b
def Gp(f:G D->I RV)(a:uU):dj:=λρ ω=>(a ρ ω).bind λxs ω1=>Mz f xs ω1
def Pw(i:zX K r f)(c:tP K E C fa):cB K E (Fu r C) (Gp f fa):=by
 intro B X H Z ω ρ Q s j w;show c B X H Z ω ρ _ s j (w.bind.imp λxs Y ω1 U e1 b a o h=>?_);unfold Mz at a;cases n:aF (sh ω1) xs with
 |none=>rw[n]at a;let(ds,l,a):=a.VO;let(m,g,a):=a.VO;show i noO U o ds m Q Ex (cR (R:=Xv (ow B Y ω1) K U Y) (λv x y r e=>DV.x (jD b 6 r e)) h l) g (C0 b a)
 |some ds=>rw[n]at a;let(m,g,a):=a.VO;show i _ U o ds m Q b.noO (cR (R:=Xv (ow B Y ω1) K U Y) (λv x y r e=>DR b r e) h n) g (Gg b a)
end
section
variable{B O O':bC}{K:CL}{E:XK}{H H' N M:Hp}{Z L U T:bb UP}{ω X ω1 Y:aH}{S:L2.St}{ρ:aQ}{v:V}
theorem xq:∀{c:G V} {xs:G β} {i:Nat} {x:β},Paired f c xs->xs[i]?=cL x->∃v,c[i]?=cL v/\f v x
 |_,_,_,_,.nil,e=>by simp at e
 |_,_,0,_,.cons h _,e=>by simp_all
 |_,_,i+1,x,.cons _ t,e=>by let(v,b,a):=xq t (by simpa using e);simp_all
def Kl{b:G V}(h:Paired a b xs)(e:ki xs i=cL x):∃v,ki b i=cL v/\a v x:=by
 unfold ki at e⊢;rw[h.length];cases q:K7 xs.length i with
 |none=>simp_all
 |some j=>rw[q]at e;show xq h e
def DQ:SV->I Int
 |.fz (.int i)=>cL i
 |_=>P
def zY(e:DQ x=cL i)(h:Xv O K H Z v x):v=.int i:=by
 unfold DQ at e;split at e
 .ext e;ext h;rfl
 .ext e
def Oi(x y:SV)(ω:aH):RS SV:=match x with
 |.fz _=>pV aR x y ω
 |.rf j=>(match ω[j]? with
  |some (.lst xs)=>(RS.VO ω (DQ y)).bind λi ω1=>RS.VO ω1 (ki xs i)
  |_=>.bad)
 |.tp l=>(RS.VO ω (DQ y)).bind λi ω1=>RS.VO ω1 ((ki l i).map AV.sv)
def i7(a fb:dj):dj:=λρ ω=>(a ρ ω).bind λx ω1=>(fb ρ ω1).bind λy Y=>Oi x y Y
def L7(k:cB K E ta fa)(C:cB K E tb fb):cB K E (Gk (QI K) ta tb) (i7 fa fb):=by
 intro B S H Z ω ρ Q s r w;show k B S H Z ω ρ _ s r (w.bind.imp λx U ω1 N e1 A t v e=>?_);show C B S N U ω1 ρ _ A (r.Xa e1) (t.bind.imp λy T Y M e2 f b u n=>?_);let e:=e.Xa e2;unfold Oi at b;cases x with
 |fz d=>show wU ET f e n b
 |rf j=>
  let(a,k,rfl):=e;dsimp only at b;cases q:Y[j]? with
  |none=>rw[q]at b;show b.elim
  |some c=>
   rw[q]at b;cases c with
   |lst xs=>
    let(i,h,b):=WS.VO b;cases qa:ki xs i with
    |none=>rw[qa]at b;show b.elim
    |some x=>rw[qa]at b;let(vs,p,o):=f.cel j a _ k q;let(z,m,g):=Kl o qa;show .inl #[a,vs,i,z,W,zY h n,Yk.of p,m,WS.now f b z g]
   |_=>show b.elim
 |tp l=>
  let(a,xs,rfl,p,o):=e;let(i,h,b):=WS.VO b;cases qa:ki l i with
  |none=>rw[qa]at b;show b.elim
  |some x=>rw[qa]at b;let(z,m,g):=Kl o qa;show .inr (.inl #[a,xs,i,z,W,zY h n,p.1,m,WS.now f b z (by ext x<;>show g)])
def HI(h:Lv Z (ω.set i .dead) b):Lv Z ω b:=by
 let(j,c,f,a,e):=h;rcases bS a with⟨rfl,rfl⟩|⟨_,a⟩
 .simp_all
 .show#[j,c,f,a,e]
theorem WA.kill:WA Z ω H Z (ω.set i .dead) H:=#[λ_ _ h=>h,λ_ _ h _=>h,λ_ h=>.inl (HI h)]
def Vt.kill(s:Vt B K H Z ω)(i:Nat):Vt B K H Z (ω.set i .dead):=by
 let e:WA Z ω H Z (ω.set i .dead) H:=WA.kill;show#[by rw[V5];show s.len,s.nd,s.bn,s.ba,s.al,λj b d f a=>?_];rcases bS a with⟨rfl,rfl⟩|⟨g,a⟩
 .show trivial
 .show(s.cel j b d f a).ev e.ev e.pre λu q=>q
def Vt.aey(s:Vt B K H Z ω)(d:Z[i]?=cL a):¬ow B Z (ω.set i .dead) a:=by
 rintro(z|⟨j,c,f,e,b⟩)
 .show s.adx d z
 .let:=s.nd j i a f d
  subst this;rcases bS e with⟨_,rfl⟩|⟨g,_⟩
  .show b W
  .show g W
def mZ(g:aH->SV->I (D×aH)):aH->G SV->I (G D×aH)
 |ω,[]=>cL ([],ω)
 |ω,x::r=>match g ω x with
  |some (d,ω1)=>(match mZ g ω1 r with
   |some (ds,Y)=>cL (d::ds,Y)
   |none=>P)
  |none=>P
def frz:Nat->aH->SV->I (D×aH)
 |_,ω,.fz d=>cL (d,ω)
 |0,_,_=>P
 |n+1,ω,.rf i=>match ω[i]? with
  |some (.lst xs)=>(match mZ (frz n) ω xs with
   |some (ds,ω1)=>cL (.list ds,ω1.set i .dead)
   |none=>P)
  |_=>P
 |n+1,ω,.tp l=>match mZ (frz n) ω (l.map AV.sv)with
  |some (ds,ω1)=>cL (.tuple ds,ω1)
  |none=>P
theorem tY(a:∀{ω X:aH} {v:V} {x:SV} {d:D},Vt B K H Z ω->Xv (ow B Z ω) K H Z v x->g ω x=cL (d,X)->Vt B K H Z X/\WA Z ω H Z X H/\L3.DV (ow B Z X) K H v d):
  ∀{c:G V} {xs:G SV} {ds:G D} {ω X:aH},Vt B K H Z ω->Xi (ow B Z ω) K H Z c xs->mZ g ω xs=cL (ds,X)->Vt B K H Z X/\WA Z ω H Z X H/\L3.Wo (ow B Z X) K H c ds
 |_,_,_,ω,X,s,.nil,e=>by ext e;show#[s,.refl,.nil]
 |_,_,_,ω,X,s,.cons (b:=x) (l₂:=xs) r t,e=>by
  unfold mZ at e;cases q:g ω x with
  |none=>simp_all
  |some p=>
   let(d,ω1):=p;rw[q]at e;dsimp only at e;let(h,e1,l):=a s r q;cases m:mZ g ω1 xs with
   |none=>simp_all
   |some i=>let(ds,Y):=i;rw[m]at e;ext e;let(f,e2,j):=tY a h (Xi.Xa e1 t) m;show#[f,e1.trans e2,.cons (l.ev e2.ev) j]
theorem rX:∀{a:G V} {l:G AV},Paired (AOk O K H Z) a l->Xi O K H Z a (l.map AV.sv)
 |_,_,.nil=>.nil
 |_,_,.cons (b:=x) h t=>.cons (by ext x<;>show h) (rX t)
theorem r8:∀(n:Nat) {ω X:aH} {v:V} {x:SV} {d:D},Vt B K H Z ω->Xv (ow B Z ω) K H Z v x->frz n ω x=cL (d,X)->Vt B K H Z X/\WA Z ω H Z X H/\L3.DV (ow B Z X) K H v d
 |n,ω,X,v,.fz t,d,s,h,e=>by
  let m:cL (t,ω)=cL (d,X):=by ext n<;>show e
  ext m;show#[s,.refl,h]
 |0,_,_,v,.rf i,d,s,h,e=>by ext e
 |0,_,_,v,.tp l,d,s,h,e=>by ext e
 |n+1,ω,X,v,.rf i,d,s,h,e=>by
  let(a,r,rfl):=h;unfold frz at e;cases q:ω[i]? with
  |none=>simp_all
  |some c=>
   rw[q]at e;cases c with
   |lst xs=>
    dsimp only at e;let(u,g,f):=s.cel i a _ r q;cases o:mZ (frz n) ω xs with
    |none=>simp_all
    |some p=>let(ds,ω1):=p;rw[o]at e;ext e;let(b,e1,j):=tY (λs h e=>r8 n s h e) s f o;show#[b.kill i,e1.trans WA.kill,uf g (b.aey r) (j.ev (WA.kill).ev)]
   |_=>ext e
 |n+1,ω,X,v,.tp l,d,s,h,e=>by
  let(a,xs,rfl,g,f):=h;unfold frz at e;cases o:mZ (frz n) ω (l.map AV.sv)with
  |none=>simp_all
  |some p=>let(ds,ω1):=p;rw[o]at e;ext e;let(b,e1,j):=tY (λs h e=>r8 n s h e) s (rX f) o;show#[b,e1,.tup (g.ev e1.ev) j]
def Pc(x:SV)(ω:aH):RS SV:=match frz 4 ω x with
 |some (d,ω1)=>.ok (.fz d) ω1
 |none=>.bad
def jV(f:dj):dj:=λρ ω=>(f ρ ω).bind λx ω1=>Pc x ω1
def zB(h:cB K E t f):cB K E t (jV f):=by
 intro B S H Z ω ρ Q s b w;show h B S H Z ω ρ _ s b (w.bind.imp λx U ω1 N e1 g a v i=>?_);unfold Pc at a;cases q:frz 4 ω1 x with
 |none=>rw[q]at a;show a.elim
 |some p=>let(d,Y):=p;rw[q]at a;let(e,e2,j):=r8 4 g i q;show a U N e2 e v j
def XOk.sub(h:∀b,O' b->O b)(k:XOk K O H c dx x):XOk K O' H c dx x:=by let(i,fs,g,a):=k;show#[i,fs,g,λf d e=>let#[g1,v,g2,g3]:=a f d e;#[g1,v,g2,g3.ev (Ev.sub h)]]
def v5(F:FN)(n:Nat)(xs:G SV)(ω:aH):RS SV:=if xs.length=n then(match aF uY xs with
 |some ds=>(match F ds with
  |.ok a=>j8 ω a
  |.er x=>.er x ω
  |.bad=>.bad)
 |none=>(RS.VO ω (aF (AD 6 ω) xs)).bind λds ω1=>(match F ds with
  |.ok a=>uA ω1 a
  |_=>.bad))else .bad
def j7:RS A->RS A
 |.er _ _=>.bad
 |r=>r
def g8(F:FN)(n:Nat)(a:uU):dj:=λρ ω=>(a ρ ω).bind λxs ω1=>j7 (v5 F n xs ω1)
def WS.e0(h:WS K E B H Z ω b (j7 r)):WS K E0 B H Z ω b r:=by
 cases r with
 |ok a ω=>show h
 |er x ω=>show h.elim
 |bad=>show h
def J3(s:Vt B K H Z ω)(b:Xi (ow B Z ω) K H Z o xs)(w:WS K E B H Z ω (PQ B K Q) (v5 F n xs ω)):AL K n F o H Q E:=by
 unfold v5 at w;by_cases hn:xs.length=n
 .rw[ax hn]at w
  show#[b.length.trans hn,?_];cases q:aF uY xs with
  |some ds=>
   rw[q]at w;show#[ow B Z ω,ds,s.owd,kg (cR (R:=Xv (ow B Z ω) K H Z) (λv x y r e=>xz r e) b q),?_];dsimp only at w;cases g:F ds with
   |ok h=>rw[g]at w;show Gg s w
   |er x=>rw[g]at w;show λc i H' e k=>w c i Z H' (WA.same e) (s.grow e) k
   |bad=>rw[g]at w;show w.elim
  |none=>
   rw[q]at w;let(ds,f,w):=WS.VO w;show#[noO,ds,λa z=>z.elim,kg (cR (R:=Xv (ow B Z ω) K H Z) (λv x y r e=>jD s 6 r e) b f),?_];cases g:F ds with
   |ok h=>rw[g]at w;show C0 s w
   |er x=>rw[g]at w;show w.elim
   |bad=>rw[g]at w;show w.elim
 .rw[a3 hn]at w;show w.elim
def J4(c:tP K E o C):cB K E (lg (AL K n F) [] E0 o) (g8 F n C):=by intro B S H Z ω ρ Q s b w;show c B S H Z ω ρ _ s b (w.bind.imp λxs U ω1 N e1 e a g f=>?_);rw[VR];show J3 e f (WS.e0 a)
abbrev fT:=G SV->aH->RS SV
def kA(K:CL)(n:Nat)(F:fT):Sp:=λa H Q E=>a.length=n/\∃(B:bC) (Z:G J) (ω:aH) (xs:G SV),Vt B K H Z ω/\Xi (ow B Z ω) K H Z a xs/\WS K E B H Z ω (PQ B K Q) (F xs ω)
def uQ(F:fT)(n:Nat)(a:uU):dj:=λρ ω=>(a ρ ω).bind λxs ω1=>if xs.length=n then j7 (F xs ω1)else .bad
def Ar(c:tP K E o C):cB K E (lg (kA K n F) [] E0 o) (uQ F n C):=by
 intro B S H Z ω ρ Q s e w;show c B S H Z ω ρ _ s e (w.bind.imp λxs U ω1 N e1 f a g b=>?_);rw[VR];by_cases hn:xs.length=n
 .rw[ax hn]at a;show#[b.length.trans hn,B,U,ω1,xs,f,b,WS.e0 a]
 .rw[a3 hn]at a;show a.elim
def j3(ω:aH)(C m:Str):SV->Bool
 |.rf i=>match ω[i]? with
  |some (.obj D fs)=>decide (D=C)&&(fs.lookup m).isNone
  |_=>R
 |_=>R
def mF(C m:Str)(F:fT)(n:Nat)(a:dj)(b:uU):dj:=λρ ω=>(a ρ ω).bind λx ω1=>if j3 ω1 C m x=UJ then(b ρ ω1).bind λxs Y=>(if(x::xs).length=n then F (x::xs) Y else .bad)else .bad
def aG(C m:Str)(F:fT)(n:Nat)(a:dj)(b:uU):dj:=λρ ω=>(a ρ ω).bind λx ω1=>if j3 ω1 C m x=UJ then(b ρ ω1).bind λxs Y=>(if(x::xs).length=n then j7 (F (x::xs) Y)else .bad)else .bad
def DF(f:Vj K U9 C=cL (cL (.ref Ca)))(s:Vt B K H Z ω)(b:Xv (ow B Z ω) K H Z v x)(h:j3 ω C m x=UJ):∃a k fs,v=.ref a/\H a=cL (.ins Ca k fs)/\fs.lookup m=P:=by
 cases x with
 |fz d=>ext h
 |tp l=>ext h
 |rf i=>
  let(a,r,rfl):=b;unfold j3 at h;dsimp only at h;cases q:ω[i]? with
  |none=>simp_all
  |some c=>
   rw[q]at h;cases c with
   |obj D fs=>rw[UH]at h;let(j,g):=h;let e:=a6 j;subst e;let(p,k,ws,g0,o,n):=s.cel i a _ r q;rw[f]at g0;ext g0;show#[a,k,ws,W,o,Bk n (Xh.mp g)]
   |_=>ext h
def Ft(q:Vj K U9 C=cL (cL (.ref Ca)))(p:cB K E to fo)(c:tP K E ta fa):cB K E (rE Ca m (kA K n F) [] E to ta) (mF C m F n fo fa):=by
 intro B S H Z ω ρ Q s g w;show p B S H Z ω ρ _ s g (w.bind.imp λx U ω1 N e1 i e v j=>?_);by_cases h:j3 ω1 C m x=UJ
 .rw[ax h]at e
  let(a,y,fs,rfl,t,r):=DF q i j h;show#[a,y,fs,W,t,r,?_];show c B S N U ω1 ρ _ i (g.Xa e1) (e.bind.imp λxs T Y M e2 o b u f=>?_);rw[VR];let l:Xi (ow B T Y) K M T (.ref a::u) (x::xs):=.cons (j.Xa e2) f;by_cases hn:(x::xs).length=n
  .rw[ax hn]at b;show#[l.length.trans hn,B,T,Y,_,o,l,b]
  .rw[a3 hn]at b;show b.elim
 .rw[a3 h]at e;show e.elim
def BH(q:Vj K U9 C=cL (cL (.ref Ca)))(p:cB K E to fo)(c:tP K E ta fa):cB K E (rE Ca m (kA K n F) [] E0 to ta) (aG C m F n fo fa):=by
 intro B S H Z ω ρ Q s g w;show p B S H Z ω ρ _ s g (w.bind.imp λx U ω1 N e1 i e v j=>?_);by_cases h:j3 ω1 C m x=UJ
 .rw[ax h]at e
  let(a,y,fs,rfl,t,r):=DF q i j h;show#[a,y,fs,W,t,r,?_];show c B S N U ω1 ρ _ i (g.Xa e1) (e.bind.imp λxs T Y M e2 o b u f=>?_);rw[VR];let l:Xi (ow B T Y) K M T (.ref a::u) (x::xs):=.cons (j.Xa e2) f;by_cases hn:(x::xs).length=n
  .rw[ax hn]at b;show#[l.length.trans hn,B,T,Y,_,o,l,WS.e0 b]
  .rw[a3 hn]at b;show b.elim
 .rw[a3 h]at e;show e.elim
def Bb:SV->Bool
 |.fz .none=>UJ
 |_=>R
def rn(C:Str)(F:fT)(n:Nat)(xs:G SV)(ω:aH):RS SV:=if(SV.rf ω.length::xs).length=n then(F (.rf ω.length::xs) (ω++[.obj C []])).bind λr Y=>(if Bb r=UJ then .ok (.rf ω.length) Y else .bad)else .bad
def AC(C:Str)(F:fT)(n:Nat)(a:uU):dj:=λρ ω=>(a ρ ω).bind λxs ω1=>rn C F n xs ω1
def qk(C:Str)(F:fT)(n:Nat)(a:uU):dj:=λρ ω=>(a ρ ω).bind λxs ω1=>j7 (rn C F n xs ω1)
def GD(h:Bb x=UJ)(a:Xv O K H Z v x):v=.W9:=by
 unfold Bb at h;split at h
 .ext a;rfl
 .ext h
def D8(p:Vj K U9 C=cL (cL (.ref Ca)))(s:Vt B K H Z ω)(o:Xi (ow B Z ω) K H Z vs xs)(w:WS K E B H Z ω (PQ B K Q) (rn C F n xs ω)):
  ∀x c,H x=P->H c=P->c≠x->kA K n F (.ref x::(vs++[])) (aW (aW H c (.own x)) x (.ins Ca c [])) (λv M=>v=.W9/\Q (.ref x) M) E:=by
 intro x c f h q;rw[VR];unfold rn at w;let i:Wt H (aW (aW H c (.own x)) x (.ins Ca c [])):=(bJ h _).trans (bJ (by rw[au (λz=>q z.symm)];show f) _);let e:WA Z ω H (Z++[x]) (ω++[.obj C []]) (aW (aW H c (.own x)) x (.ins Ca c [])):=WA.aae s.len i f;let m:Vt B K (aW (aW H c (.own x)) x (.ins Ca c [])) (Z++[x]) (ω++[.obj C []]):=s.aae i f (by rw[aC];simp) #[Ca,c,[],p,aC,.nil];let a:∀{L:G J} {X:aH} {H':Hp},WA (Z++[x]) (ω++[.obj C []]) (aW (aW H c (.own x)) x (.ins Ca c [])) L X H'->Xv (ow B L X) K H' L (.ref x) (.rf ω.length):=λe=>#[x,e.pre _ _ (by rw[<-s.len];show aM),W];by_cases hn:(SV.rf ω.length::xs).length=n
 .rw[ax hn]at w
  let j:Xi (ow B (Z++[x]) (ω++[.obj C []])) K (aW (aW H c (.own x)) x (.ins Ca c [])) (Z++[x]) (.ref x::vs) (.rf ω.length::xs):=.cons (a .refl) (Xi.Xa e o);show#[j.length.trans hn,B,_,_,_,m,j,?_];show WS.imp (WS.from e w.bind) λr T Y M e2 l b v g=>?_;by_cases z:Bb r=UJ
  .rw[ax z]at b;show#[GD z g,WS.now l b _ (a e2)]
  .rw[a3 z]at b;show b.elim
 .rw[a3 hn]at w;show w.elim
def GQ(g:Vj K U9 C=cL (cL (.ref Ca)))(c:tP K E o fa):cB K E (uX Ca (kA K n F) [] E o) (AC C F n fa):=by intro B S H Z ω ρ Q s b w;show c B S H Z ω ρ _ s b (w.bind.imp λxs U ω1 N e1 e a h f=>?_);show D8 g e f a
def E4(g:Vj K U9 C=cL (cL (.ref Ca)))(c:tP K E o fa):cB K E (uX Ca (kA K n F) [] E0 o) (qk C F n fa):=by intro B S H Z ω ρ Q s b w;show c B S H Z ω ρ _ s b (w.bind.imp λxs U ω1 N e1 e a h f=>?_);show D8 g e f (WS.e0 a)
def gB(ω:aH):SV->I (Nat×G SV)
 |.rf i=>match ω[i]? with
  |some (.lst xs)=>cL (i,xs)
  |_=>P
 |_=>P
def tR(s:Vt B K H Z ω)(b:Xv (ow B Z ω) K H Z v x)(h:gB ω x=cL (i,xs)):ω[i]?=cL (.lst xs)/\∃a k,Z[i]?=cL a/\v=.ref a/\H a=cL (.lst k)/\Xi (ow B Z ω) K H Z k xs:=by
 cases x with
 |fz d=>ext h
 |tp l=>ext h
 |rf j=>
  let(a,n,rfl):=b;unfold gB at h;dsimp only at h;cases q:ω[j]? with
  |none=>simp_all
  |some c=>
   rw[q]at h;cases c with
   |lst m=>let e:=Vd h;ext e;let(k,g,f):=s.cel i a _ n q;show#[q,a,k,n,W,g,f]
   |_=>ext h
def tQ(h:Paired e o xs)(r:e v x):Paired e (o++[v]) (xs++[x]):=by
 induction h with
 |nil=>show .cons r .nil
 |cons a _ b=>show .cons a b
def pz(b c:dj):dj:=λρ ω=>(b ρ ω).bind λo ω1=>(RS.VO ω1 (gB ω1 o)).bind λ_ ω1=>(c ρ ω1).bind λx Y=>(RS.VO Y (gB Y o)).bind λp a=>
 if p.2.length<1000000 then .ok (.fz .none) (a.set p.1 (.lst (p.2++[x])))else .bad
def Jj(F:cB K E to fo)(G:cB K E te fe):cB K E (P4 K "list" sE to (im te jU)) (pz fo fe):=by
 intro B S H Z ω ρ Q s j w;show F B S H Z ω ρ _ s j (w.bind.imp λo U ω1 N e1 m e v n=>?_);let((P,y),A,e):=WS.VO e;let(_,t,f,_,rfl,g0,_):=tR m n A;show#[.inl #[W,f,Yk.of g0],?_];show G B S N U ω1 ρ _ m (j.Xa e1) (e.bind.imp λx T Y M e2 l b u C=>?_);let((i,xs),q,b):=WS.VO b;let(g,a,vs,ha,J,I,p):=tR l (n.Xa e2) q;ext J;dsimp only at b;by_cases hn:xs.length<1000000
 .rw[ax hn]at b;let ev:Ev (ow B T Y) M (ow B T Y) (aW M t (.lst (vs++[u]))):=pd ha g (by nofun);show#[t,vs,u,W,W,I,rF (by rw[p.length];show hn),?_];show b T _ (WA.put ha g (by nofun) (by nofun)) (l.put ha g (by nofun) (by nofun) #[_,aC,tQ (Paired.Yb p λ_ _ r=>r.ev ev λ_ _ h=>h) (C.ev ev λ_ _ h=>h)]) _ .W9
 .rw[a3 hn]at b;show b.elim
end
inductive FlS where
 |nx (ρ:aQ)
 |bk (ρ:aQ)
 |ct (ρ:aQ)
 |rt (x:SV)
abbrev dU:=aQ->aH->RS FlS
abbrev z7:=SV->aQ->aH->RS aQ
abbrev A8:=G SV->aQ->aH->RS aQ
def vf(B:bC)(K:CL)(D:Ends):FlS->G J->aH->Hp->Prop
 |.nx b,α,a,H=>∀σ,Xp (ow B α a) K H α σ b->D.nx σ H
 |.bk b,α,a,H=>∀σ,Xp (ow B α a) K H α σ b->D.bk σ H
 |.ct b,α,a,H=>∀σ,Xp (ow B α a) K H α σ b->D.ct σ H
 |.rt x,α,a,H=>∀v,Xv (ow B α a) K H α v x->D.rt v H
def mP(K:CL)(E:XK)(t:TS)(g:dU):Prop:=
 ∀(B:bC) (a:L2.St) (H:Hp) (α:G J) (b:aH) (e:aQ) (D:Ends),Vt B K H α b->Xp (ow B α b) K H α a e->WS K E B H α b (vf B K D) (g e b)->t D a H
def Lx(K:CL)(E:XK)(g:TG)(f:z7):Prop:=
 ∀(B:bC) (h:L2.St) (H:Hp) (α:G J) (j:aH) (m:aQ) (v:V) (x:SV) (Q:L2.St->Hp->Prop),Vt B K H α j->Xp (ow B α j) K H α h m->Xv (ow B α j) K H α v x->WS K E B H α j (λe a b i=>∀l,Xp (ow B a b) K i a l e->Q l i) (f x m j)->g v h H Q
def C6(K:CL)(E:XK)(g:wy)(f:A8):Prop:=
 ∀(B:bC) (h:L2.St) (H:Hp) (α:G J) (j:aH) (m:aQ) (n:G V) (xs:G SV) (Q:L2.St->Hp->Prop),Vt B K H α j->Xp (ow B α j) K H α h m->Xi (ow B α j) K H α n xs->WS K E B H α j (λe a b i=>∀l,Xp (ow B a b) K i a l e->Q l i) (f xs m j)->g n h H Q
section
variable{B O O':bC}{K:CL}{E:XK}{H H' S P:Hp}{X M U Y:bb UP}{ω N ω1 Z:aH}{T:L2.St}{ρ:aQ}{v:V}
def Xp.set(a:Xp O K H X T ρ)(h:Xv O K H X v x):Xp O K H X (T.set i (cL v)) (ρ.set i (cL x)):=by
 show#[by rw[V5,V5];show a.1,λj y f=>?_];rcases bS f with⟨rfl,e⟩|⟨m,b⟩
 .ext e;show#[v,?_,h];rw[We];let:=se f;rw[a.1];show this
 .let(u,l,g):=a.2 j y b;show#[u,by rw[VV (λz=>m z.symm)];show l,g]
def eY(i:Nat):z7:=λx ρ ω=>.ok (ρ.set i (cL x)) ω
theorem pE:Lx K E (mx i) (eY i):=λB T H X ω ρ v x Q s a h w=>WS.now s w _ (a.set h)
def Ax:A8:=λxs ρ ω=>match xs with
 |[]=>.ok ρ ω
 |_=>.bad
def qA(f:z7)(g:A8):A8:=λxs ρ ω=>match xs with
 |x::r=>(f x ρ ω).bind λa ω1=>g r a ω1
 |[]=>.bad
def JB:C6 K E Kf Ax:=by
 intro B T H X ω ρ b xs Q s a h w;cases h with
 |nil=>show#[W,WS.now s w _ a]
 |cons _ _=>show w.elim
def BW(p:Lx K E t f)(o:C6 K E u g):C6 K E (zC t u) (qA f g):=by
 intro B T H X ω ρ q xs Q s m h w;cases h with
 |nil=>show w.elim
 |cons a b=>show#[_,_,W,p B T H X ω ρ _ _ _ s m a (WS.imp (WS.bind w) λi U ω1 S e1 n l e j=>?_)];show o B e S U ω1 i _ _ _ n j (Xi.Xa e1 b) l
def FD:SV->I (G SV)
 |.fz (.tuple ds)=>cL (ds.map .fz)
 |.tp l=>cL (l.map AV.sv)
 |_=>lD
def OP(h:Xv O K H X v x)(e:FD x=cL xs):∃a c,v=.ref a/\YO O K H a c/\Xi O K H X c xs:=by
 unfold FD at e;split at e
 .ext e
  cases h with
  |tup h f=>show#[_,_,W,h,jr _ _ f]
 .ext e;let(a,b,rfl,i,g):=h;show#[a,b,W,i,rX g]
 .ext e
def KF(n:Nat)(f:A8):z7:=λx ρ ω=>(RS.VO ω (FD x)).bind λxs ω1=>if xs.length=n then f xs ρ ω1 else .bad
def JM(h:C6 K E t f):Lx K E (Ha K n t) (KF n f):=by
 intro B T H X ω ρ v x Q s e g w;let(xs,q,w):=WS.VO w;let(a,j,rfl,i,b):=OP g q;by_cases hn:xs.length=n
 .rw[ax hn]at w;show#[a,j,W,i.1,b.length.trans hn,h B T H X ω ρ j xs Q s e b w]
 .rw[a3 hn]at w;show w.elim
def bZ:dU:=λρ ω=>.ok (.nx ρ) ω
def aD(f g:dU):dU:=λρ ω=>(f ρ ω).bind λa ω1=>match a with
 |.nx b=>g b ω1
 |a=>.ok a ω1
def br(f:dj):dU:=λρ ω=>(f ρ ω).bind λ_ ω1=>.ok (.nx ρ) ω1
def bW(f:dj)(g:z7):dU:=λρ ω=>(f ρ ω).bind λx ω1=>(g x ρ ω1).bind λa Z=>.ok (.nx a) Z
def bV(c:qK)(f g:dU):dU:=λρ ω=>(c ρ ω).bind λb ω1=>if b=UJ then f ρ ω1 else g ρ ω1
def gJ(f:dj):dU:=λρ ω=>(f ρ ω).bind λx ω1=>.ok (.rt x) ω1
def pQ:dU:=λ_ ω=>.ok (.rt (.fz .none)) ω
theorem Fq:mP K E E7 bZ:=λB T H X ω ρ D s a w=>WS.now s w T a
theorem Dc:mP K E Lb pQ:=λB T H X ω ρ D s a w=>WS.now s w .W9 .W9
def HF(m:mP K E t f)(l:mP K E u g):mP K E (Cs t u) (aD f g):=by
 intro B T H X ω ρ D s j w;show m B T H X ω ρ {D with nx:=u D} s j (WS.imp (WS.bind w) λn U ω1 S e1 e b=>?_);cases n with
 |nx a=>show λh i=>l B h S U ω1 a D e i b
 |rt x=>show WS.now (E:=E) e b
 |bk a=>show WS.now (E:=E) e b
 |ct a=>show WS.now (E:=E) e b
def EK(h:cB K E t f):mP K E (uS t) (br f):=by intro B T H X ω ρ D s a w;show h B T H X ω ρ _ s a (WS.imp (WS.bind w) λx U ω1 S e1 e b v g=>WS.now e b T (a.Xa e1))
def sM(h:cB K E t f)(p:Lx K E g C):mP K E (u8 t g) (bW f C):=by intro B T H X ω ρ D s e w;show h B T H X ω ρ _ s e (WS.imp (WS.bind w) λx U ω1 S e1 n l v o=>?_);show p B T S U ω1 ρ v x _ n (e.Xa e1) o (WS.imp (WS.bind l) λi Y Z P e2 m j a b=>WS.now m j a b)
def NQ(i:ul K E c o)(l:mP K E t f)(j:mP K E u g):mP K E (HC c t u) (bV o f g):=by
 intro B T H X ω ρ D s a w;show i B T H X ω ρ _ s a (WS.imp (WS.bind w) λb U ω1 S e1 h e=>?_);cases b with
 |true=>show l B T S U ω1 ρ D h (a.Xa e1) e
 |false=>show j B T S U ω1 ρ D h (a.Xa e1) e
def Je(h:cB K E t f):mP K E (GI t) (gJ f):=by intro B T H X ω ρ D s b w;show h B T H X ω ρ _ s b (WS.imp (WS.bind w) λx U ω1 S e1 e a v g=>WS.now e a v g)
def AB(i:Nat)(f:D->D->I RV)(b:dj):dU:=λρ ω=>(ar i ρ ω).bind λx ω1=>(b ρ ω1).bind λy Z=>(pV f x y Z).bind λz a=>.ok (.nx (ρ.set i (cL z))) a
def GJ(m:iA K r f)(n:cB K E C fe):mP K E (Qs i C r) (AB i f fe):=by
 intro B T H X ω ρ D s a w;unfold AB ar at w;cases q:ρ[i]? with
 |none=>rw[q]at w;show w.elim
 |some o=>
  cases o with
  |none=>rw[q]at w;show w.elim
  |some x=>rw[q]at w;let(v,A,p):=a.2 i x q;show#[v,A,n B T H X ω ρ _ s a (WS.imp (WS.bind w) λy U ω1 S e1 h e u j=>?_)];show wU m h (p.Xa e1) j (WS.imp (WS.bind e) λz Y Z P e2 g b t l=>WS.now g b _ ((a.Xa (e1.trans e2)).set l))
def gy(f:Str)(x:SV):G (Str×SV)->G (Str×SV)
 |[]=>[(f,x)]
 |(g,y)::r=>if g=f then(g,x)::r else(g,y)::gy f x r
def M3(h:Xv O K H X v x):∀{ws:G (Str×V)} {fs:G (Str×SV)},Paired (λ(p:Str×V) (q:Str×SV)=>p.1=q.1/\Xv O K H X p.2 q.2) ws fs->Paired (λ(p:Str×V) (q:Str×SV)=>p.1=q.1/\Xv O K H X p.2 q.2) (g6 f v ws) (gy f x fs):=by
 intro ws fs p
 induction p with
 |nil=>show .cons #[W,h] .nil
 | @cons a b _ _ q t j=>
  let(g,u):=a;let(i,y):=b;let(e,k):=q;ext e;unfold g6 gy;by_cases z:g=f
  .rw[ax z,ax z];show .cons #[W,h] t
  .rw[a3 z,a3 z];show .cons #[W,k] j
def Ga(ω:aH)(C:Str):SV->I (Nat×G (Str×SV))
 |.rf i=>match ω[i]? with
  |some (.obj D fs)=>if D=C then cL (i,fs)else lD
  |_=>lD
 |_=>lD
def RB(s:Vt B K H X ω)(b:Xv (ow B X ω) K H X v x)(h:Ga ω C x=cL (i,fs)):ω[i]?=cL (.obj C fs)/\∃a Ca k ws,X[i]?=cL a/\v=.ref a/\Vj K U9 C=cL (cL (.ref Ca))/\H a=cL (.ins Ca k ws)/\Paired (λ(p:Str×V) (q:Str×SV)=>p.1=q.1/\Xv (ow B X ω) K H X p.2 q.2) ws fs:=by
 cases x with
 |fz d=>ext h
 |tp l=>ext h
 |rf j=>
  let(a,n,rfl):=b;unfold Ga at h;dsimp only at h;cases q:ω[j]? with
  |none=>simp_all
  |some c=>
   rw[q]at h;cases c with
   |obj D gs=>
    dsimp only at h;by_cases z:D=C
    .subst z;rw[ax W]at h;let e:=Vd h;ext e;let(Ca,k,ws,m,g,f):=s.cel i a _ n q;show#[q,a,Ca,k,ws,n,W,m,g,f]
    simp_all
   |_=>ext h
def eJ(C f:Str)(b c:dj):dU:=λρ ω=>(c ρ ω).bind λx ω1=>(b ρ ω1).bind λo Z=>(RS.VO Z (Ga Z C o)).bind λp a=>if p.2.length<100 then .ok (.nx ρ) (a.set p.1 (.obj C (gy f x p.2)))else .bad
def JF(I:jT K C L)(F:f∈L)(A:cB K E to fo)(G:cB K E te fe):mP K E (Od K to te f) (eJ C f fo fe):=by
 intro B T H X ω ρ D s e w;show G B T H X ω ρ _ s e (WS.imp (WS.bind w) λx U ω1 S e1 p n v t=>?_);show A B T S U ω1 ρ _ p (e.Xa e1) (WS.imp (WS.bind n) λo Y Z P e2 j b u y=>?_);let((i,fs),q,b):=WS.VO b;let(g,a,Ca,dx,ws,ha,rfl,m,J,l):=RB j y q;let(Cb,g0,R,Q):=I;rw[m]at g0;ext g0;dsimp only at b;by_cases hn:fs.length<100
 .rw[ax hn]at b;let ev:Ev (ow B Y Z) P (ow B Y Z) (aW P a (.ins Ca dx (g6 f v ws))):=pd ha g (by simp_all);let e3:WA Y Z P Y (Z.set i (.obj C (gy f x fs))) (aW P a (.ins Ca dx (g6 f v ws))):=WA.put ha g (by simp_all) (by simp_all);let hl:=Paired.length l;show#[a,Ca,dx,ws,W,J,R,Q f F,by ext,?_];show b Y _ e3 (j.put ha g (by simp_all) (by simp_all) #[Ca,dx,_,m,aC,M3 ((t.Xa e2).ev ev λ_ _ h=>h) (Paired.Yb l λ_ _ r=>#[r.1,r.2.ev ev λ_ _ h=>h])]) T ((e.Xa (e1.trans e2)).Xa e3)
 .rw[a3 hn]at b;show b.elim
abbrev Op:=aQ->aH->RS (G D)
def QO(K:CL)(E:XK)(b:TI)(e:Op):Prop:=
 ∀(B:bC) (T:L2.St) (H:Hp) (X:G UP) (ω:aH) (ρ:aQ) (a:It->Hp->Prop),Vt B K H X ω->Xp (ow B X ω) K H X T ρ->WS K E B H X ω (λds M N H'=>∀J,xt K J (ow B M N) H' ds->a J H') (e ρ ω)->b T H a
def kZ(f:FI):Op:=λρ ω=>match f (bQ ρ)with
 |.ok (ds,_)=>.ok ds ω
 |.er x=>.er x ω
 |.bad=>.bad
def Ed(h:IO K E C f):QO K E C (kZ f):=by
 intro B T H X ω ρ j s g w;show h (ow B X ω) H (ow B X ω) T H (bQ ρ) j (BR s g) ?_;unfold kZ at w;cases q:f (bQ ρ)with
 |bad=>rw[q]at w;show w.elim
 |er x=>rw[q]at w;show λc m H' e k=>w c m X H' (WA.same e) (s.grow e) k
 |ok r=>let(ds,a):=r;rw[q]at w;show λO' J H' e R i=>w X H' (WA.same R.same) (s.grow R.same) J λl P e2 n=>i l P (λb o h z=>e2 b o h λy=>z (R.bo b y)) n
def j6(a:dj):Op:=λρ ω=>(a ρ ω).bind λx ω1=>(match frz 4 ω1 x with
 |some (d,Z)=>RS.VO Z (eG d)
 |none=>.bad)
def JH(h:cB K E o C):QO K E (zx K o) (j6 C):=by
 intro B T H X ω ρ l s f w;show h B T H X ω ρ _ s f (WS.imp (WS.bind w) λx U ω1 S e1 g a v i=>?_);cases q:frz 4 ω1 x with
 |none=>rw[q]at a;show a.elim
 |some p=>
  let(d,Z):=p;rw[q]at a;let(e,e2,j):=r8 4 g i q;dsimp only at a;cases m:eG d with
  |none=>rw[m]at a;show a.elim
  |some ds=>
   rw[m]at a;cases j with
   |tup h b=>ext m;show#[_,W,.inr #[#[_,h.1],a U S e2 e _ (Eh h b)]]
   |lst h b=>ext m;show#[_,W,.inl #[#[_,h.1.sq],a U S e2 e _ (zu h b)]]
   |_=>ext m
def jp(gt:z7)(b:dU):G D->dU
 |[],ρ,ω=>.ok (.nx ρ) ω
 |d::r,ρ,ω=>(gt (.fz d) ρ ω).bind λa ω1=>(b a ω1).bind λe Z=>match e with
  |.nx f=>jp gt b r f Z
  |.ct f=>jp gt b r f Z
  |.bk f=>.ok (.nx f) Z
  |.rt x=>.ok (.rt x) Z
def sW(a:Op)(gt:z7)(b:dU):dU:=λρ ω=>(a ρ ω).bind λds ω1=>jp gt b ds ρ ω1
def Gw(c:QO K E wi fi)(k:Lx K E g gt)(z:mP K E tb b):mP K E (Ie wi g tb) (sW fi gt b):=by
 intro B T H X ω ρ D s R w;show c B T H X ω ρ _ s R (WS.imp (WS.bind w) λds U ω1 S e1 s1 w1 J it=>?_);show#[λi m a H'=>m=ds.length - i/\i<=ds.length/\∃Y Z ρ2,WA U ω1 S Y Z H'/\Vt B K H' Y Z/\Xp (ow B Y Z) K H' Y a ρ2/\WS K E B H' Y Z (vf B K D) (jp gt b (ds.drop i) ρ2 Z),#[_,W,Vu _,U,ω1,ρ,.refl,s1,R.Xa e1,w1],?_];rintro i m l P ⟨rfl,c,Y,Z,ρ2,e2,s2,sl2,w2⟩;let(go,o):=it (ow B Y Z) P e2.ev s2.noO;by_cases u:i<ds.length
 .let(g1,g2):=go i u
  show .inr #[g1,λa H'=>i+1<=ds.length/\∃Y Z ρ2,WA U ω1 S Y Z H'/\Vt B K H' Y Z/\Xp (ow B Y Z) K H' Y a ρ2/\WS K E B H' Y Z (vf B K D) (jp gt b (ds.drop (i+1)) ρ2 Z),λa H' #[h1,h2]=>#[ds.length - (i+1),by ext,W,h1,h2],λx Q y=>?_];let(s3,d,hd,dv):=g2 x Q y;let ed:ds.drop i=d::ds.drop (i+1):=by let(_,q):=UO.mp hd;rw[Xk u,q]
  rw[ed]at w2;let e3:WA Y Z P Y Z Q:=WA.same s3;show k B l Q Y Z ρ2 x (.fz d) _ (s2.grow s3) (sl2.Xa e3) dv (WS.imp (WS.bind (WS.from e3 w2)) λG I A H4 e4 s4 w3 F L=>?_);show z B F H4 I A G _ s4 L (WS.imp (WS.bind w3) λfl n j H5 e5 t r=>?_);let p:=e2.trans (e3.trans (e4.trans e5));cases fl with
  |nx f=>show λC h=>#[u,n,j,f,p,t,h,r]
  |ct f=>show λC h=>#[u,n,j,f,p,t,h,r]
  |bk f=>show WS.now (E:=E) t r
  |rt x=>show WS.now (E:=E) t r
 .let e:i=ds.length:=by ext
  subst e;rw[Wy (UU _)]at w2;show .inl #[o,WS.now s2 w2 l sl2]
def qN(c:qK)(b:dU):Nat->dU
 |0,_,_=>.bad
 |n+1,ρ,ω=>(c ρ ω).bind λk ω1=>if k=UJ then(b ρ ω1).bind λa Z=>match a with
  |.nx e=>qN c b n e Z
  |.ct e=>qN c b n e Z
  |.bk e=>.ok (.nx e) Z
  |.rt x=>.ok (.rt x) Z else .ok (.nx ρ) ω1
def oz(c:qK)(b:dU):dU:=qN c b 1000000
def Al(I:ul K E c fc)(J:mP K E tb b):mP K E (Gd c tb) (oz fc b):=by
 intro B T H X ω ρ D s F w;show#[λm e H'=>∃Y Z a,WA X ω H Y Z H'/\Vt B K H' Y Z/\Xp (ow B Y Z) K H' Y e a/\WS K E B H' Y Z (vf B K D) (qN fc b m a Z),#[_,X,ω,ρ,.refl,s,F,w],?_];rintro m g P ⟨Y,Z,a,e2,G,i,A⟩;cases m with
 |zero=>show A.elim
 |succ m=>
  show I B g P Y Z a _ G i (WS.imp (WS.bind A) λk y t Q e3 C p=>?_);cases k with
  |true=>
   rw[ax W]at p⊢;show#[λe H'=>∃Y Z a,WA X ω H Y Z H'/\Vt B K H' Y Z/\Xp (ow B Y Z) K H' Y e a/\WS K E B H' Y Z (vf B K D) (qN fc b m a Z),λe H' q=>#[m,XO m,q],?_];show J B g Q y t a _ C (i.Xa e3) (WS.imp (WS.bind p) λL l j R e5 r o=>?_);let n:=e2.trans (e3.trans e5);cases L with
   |nx f=>show λu h=>#[l,j,f,n,r,h,o]
   |ct f=>show λu h=>#[l,j,f,n,r,h,o]
   |bk f=>show WS.now (E:=E) r o
   |rt x=>show WS.now (E:=E) r o
  |false=>rw[a3 Ve]at p⊢;show WS.now C p g (i.Xa e3)
end
section
variable{B O O':bC}{K:CL}{E:XK}{H H' T M:Hp}{U S X Y:bb UP}{ω ω' ω1 Z:aH}{R:L2.St}{ρ:aQ}{v:V}
def dJ(gt:z7)(c:qK)(f:dj):G D->aQ->aH->G SV->RS (G SV)
 |[],_,ω,acc=>.ok acc ω
 |d::r,ρ,ω,acc=>(gt (.fz d) ρ ω).bind λa ω1=>(c a ω1).bind λb Z=>if b=UJ then(f a Z).bind λx e=>(if acc.length<1000000 then dJ gt c f r a e (acc++[x])else .bad)else dJ gt c f r a Z acc
def mB(n:Nat)(a:G Nat)(ρ:aQ):aQ:=UW n P++a.map λj=>(ρ[j]?).join
def mz(n:Nat)(a:G Nat)(b:Op)(gt:z7)(c:qK)(d:dj):dj:=λρ ω=>(b ρ ω).bind λds ω1=>(j7 (dJ gt c d ds (mB n a ρ) ω1 [])).bind λxs Z=>.ok (.rf Z.length) (Z++[.lst xs])
def JT{own:G Str}{e:G (Str×Nat)}{n:Nat}{g:G Nat}(c:own.length=n)(i:e.map (·.2)=g)(l:Xp O K H U R ρ):Xp O K H U (ia own e R) (mB n g ρ):=by
 unfold ia mB;rw[yx c];let m:e.length=g.length:=by rw[<-i,UK]
 show#[by simp_all,λj x b=>?_];by_cases h:j<n
 .rw[U1 (by rw[VY];show h),WT,ax h]at b;ext b
 .rw[Vn (by simp_all),VY,UZ]at b⊢
  subst i;rw[UZ]at b;cases q:e[j - n]? with
  |none=>simp_all
  |some p=>
   rw[q]at b;let a:(ρ[p.2]?).join=cL x:=Vd b;let f:ρ[p.2]?=cL (cL x):=by
    cases y:ρ[p.2]? with
    |none=>rw[y]at a;ext a
    |some o=>rw[y]at a;show dt cL a
   let(u,t,r):=l.2 p.2 x f;simp_all
def E6{p:J}{c:Cell}(a:U.length=ω.length)(e:c≠.dead):ow (cx B p) U ω=ow B (U++[p]) (ω++[c]):=by
 funext b;show propext #[λz=>?_,λz=>?_]
 .rcases z with(z|z)|⟨i,d,h1,g,f⟩
  .show .inl z
  .show .inr #[U.length,c,by rw[z];show aM,by rw[a];show aM,e]
  .show .inr #[i,d,gA h1,gA g,f]
 .rcases z with z|z
  .show .inl (.inl z)
  .rcases sK a z with z|z
   .show .inr z
   .show .inl (.inr z)
def Vt.adopt{p:J}{c:G V}{xs:G SV}(s:Vt (cx B p) K H U ω)(l:H p=cL (.lst c))(g:Xi (ow (cx B p) U ω) K H U c xs)(n:¬B p):Vt B K H (U++[p]) (ω++[.lst xs]):=by
 let eo:ow (cx B p) U ω=ow B (U++[p]) (ω++[.lst xs]):=E6 s.len (by simp_all);let b:∀(i:Nat) (a:J),U[i]?=cL a->(U++[p])[i]?=cL a:=λi a h=>gA h;let m:∀i:Nat,U[i]?≠cL p:=s.ba p (.inr W);show#[by rw[US,US,s.len];rfl,λi j a e f=>?_,λa h=>s.bn a (.inl h),λa h i q=>?_,λi a h=>?_,λi a d e f=>?_]
 .rcases bM e with g1|⟨e1,e2⟩<;>rcases bM f with g2|⟨e3,e4⟩
  .show s.nd i j a g1 g2
  .simp_all
  .simp_all
  .omega
 .rcases bM q with q|⟨_,e2⟩
  .show s.ba a (.inl h) i q
  simp_all
 .rcases bM h with h|⟨_,e2⟩
  .show s.al i a h
  simp_all
 .rw[<-eo]
  rcases bM f with g2|⟨e1,e2⟩
  .rcases bM e with g1|⟨e1,_⟩
   .show(s.cel i a d g1 g2).ev .refl b λo q=>q
   .let:=(UO.mp g2).1;let:=s.len;ext
  .rcases bM e with g1|⟨_,e3⟩
   .let:=(UO.mp g1).1;let:=s.len;ext
   .rw[e2,e3];show#[c,l,Paired.Yb g λ_ _ r=>r.ev .refl b]
def Vt.hide{p:J}{o:HO}(s:Vt B K H U ω)(j:H p=P):Vt (cx B p) K (aW H p o) U ω:=by let f:Wt H (aW H p o):=bJ j o;let g:=s.grow f;let ev:Ev (ow B U ω) H (ow (cx B p) U ω) (aW H p o):=λb u h n=>#[f b u h,λz=>z.elim (λz=>z.elim (λz=>n (.inl z)) λz=>by simp_all) λz=>n (.inr z)];show#[g.len,g.nd,λa h=>h.elim (g.bn a) λe=>by rw[e,aC];simp,λa h i q=>h.elim (λh=>g.ba a h i q) λe=>by rw[e]at q;show s.al i p q j,g.al,λi a c m l=>?_];show(s.cel i a c m l).ev ev (λ_ _ h=>h) λo q=>f _ _ q
def Vt.aiE{p:J}{o e:HO}(s:Vt (cx B p) K H U ω)(j:H p=cL o):Vt (cx B p) K (aW H p e) U ω:=by
 let ev:Ev (ow (cx B p) U ω) H (ow (cx B p) U ω) (aW H p e):=Ev.mut (.inl (.inr W)) e;let n:∀b,H b≠P->aW H p e b≠P:=λb h=>by
  by_cases z:b=p
  .subst z;rw[aC];simp
  .rw[au z];show h
 show#[s.len,s.nd,λa h=>n a (s.bn a h),s.ba,λi a h=>n a (s.al i a h),λi a c f g=>(s.cel i a c f g).ev ev (λ_ _ h=>h) λu q=>?_];let:a≠p:=λz=>s.ba p (.inr W) i (by rw[<-z];show f);rw[au this];show q
theorem WA.dd{p:J}{o:HO}(e:WA X ω1 T U ω H)(a:T p=P):WA X ω1 T U ω (aW H p o):=#[e.pre,λb u h n=>by rw[au (bB h a)];show e.kp b u h n,e.lv]
theorem Vt.aem{p:J}(s:Vt (cx B p) K H U ω):Vt B K H U ω:=
 #[s.len,s.nd,λa h=>s.bn a (.inl h),λa h=>s.ba a (.inl h),s.al,λi a c f e=>(s.cel i a c f e).ev (λb o h n=>#[h,λy=>n (y.elim (λy=>.inl (.inl y)) .inr)]) (λ_ _ h=>h) λ_ h=>h]
def xc{own:bb Str}{fv:bb (Str×Nat)}{g:TG}{tc:TT}{te:TE}{gt:z7}{s:qK}{k:dj}{n:Nat}{fj:bb Nat}{J:It}{Q:VK}{ds:bb D}(hn:own.length=n)(hf:fv.map (·.2)=fj)
  (hg:Lx K E g gt) (ht:ul K E tc s) (he:cB K E te k) (s1:Vt B K T X ω1) (sl1:Xp (ow B X ω1) K T X R ρ) (it:xt K J (ow B X ω1) T ds) (w1:WS K E B T X ω1 (PQ B K Q) ((dJ gt s k ds (mB n fj ρ) ω1 []).bind λxs Z=>.ok (.rf Z.length) (Z++[.lst xs]))):
  ∀D,T D=lD->Cm J D (ia own fv R) g tc te T λH'=>Q (.ref D) H':=by
 intro p hD;let slc:Xp (ow B X ω1) K T X (ia own fv R) (mB n fj ρ):=JT hn hf sl1;generalize qr:dJ gt s k ds (mB n fj ρ) ω1 []=rr at w1;by_cases C:rr=.bad
 .subst C;show w1.elim
 .
  let hB:¬B p:=λz=>s1.bn p z hD;let evH:∀{Y:bb UP} {Z:aH} {H':Hp},WA X ω1 T Y Z H'->Ev (ow B X ω1) T (ow (cx B p) Y Z) H':=λe b o h n=>#[e.kp b o h λz=>n (.inr z),λz=>by
   rcases z with(z|z)|z
   .show n (.inl z)
   .simp_all
   .show(e.lv b z).elim (λq=>n (.inr q)) λq=>by simp_all]
  show#[λi m σ' H'=>m=ds.length - i/\i<=ds.length/\∃Y Z ρc acc ys,WA X ω1 T Y Z H'/\Vt (cx B p) K H' Y Z/\Xp (ow (cx B p) Y Z) K H' Y σ' ρc/\H' p=cL (.lst ys)/\Xi (ow (cx B p) Y Z) K H' Y ys acc/\dJ gt s k (ds.drop i) ρc Z acc=rr,
   #[_,W,Vu _,X,ω1,mB n fj ρ,[],[],WA.same (bJ hD _),s1.hide hD,?_,aC,.nil,qr],?_]
  .show#[slc.1,λj x hx=>let#[v,h1,h2]:=slc.2 j x hx;#[v,h1,h2.ev (evH (WA.same (bJ hD _))) λ_ _ h=>h]]
  .rintro i m σ2 M ⟨rfl,hi,Y,Z,ρ2,acc,ys,e2,s2,sl2,hy,vy,f⟩
   let(go,stop):=it (ow (cx B p) Y Z) M (evH e2) s2.noO;by_cases Ye:i<ds.length
   .let(g1,g2):=go i Ye
    show .inr #[g1,λσ5 G=>i+1<=ds.length/\∃Y Z ρc acc ys,WA X ω1 T Y Z G/\Vt (cx B p) K G Y Z/\Xp (ow (cx B p) Y Z) K G Y σ5 ρc/\G p=cL (.lst ys)/\Xi (ow (cx B p) Y Z) K G Y ys acc/\dJ gt s k (ds.drop (i+1)) ρc Z acc=rr,
     λσ5 G #[h1,h2]=>#[ds.length - (i+1),by ext,W,h1,h2],λx H3 y=>?_]
    let(s3,d,hd,dv):=g2 x H3 y;let ed:ds.drop i=d::ds.drop (i+1):=by let(_,q):=UO.mp hd;rw[Xk Ye,q]
    rw[ed]at f;unfold dJ at f;let e3:WA Y Z M Y Z H3:=WA.same s3;let kD:∀{αx αy:bb UP} {ωx ωy:aH} {Hx Hy:Hp} {o:HO},Vt (cx B p) K Hx αx ωx->WA αx ωx Hx αy ωy Hy->Hx p=cL o->Hy p=cL o:=λsx ex h=>ex.kp _ _ h λ#[i,c,q,_]=>sx.ba p (.inr W) i q;let w:∀{N:bb UP} {u:aH} {H3:Hp} {z:Xc} {t:aH},WA X ω1 T N u H3->RS.er z t=rr->∀c dx S H',WA N u H3 S t H'->Vt (cx B p) K H' S t->XOk K (ow (cx B p) S t) H' c dx z->E c dx H':=λ{N u H3 z t} e3 q c dx S H' e s' x'=>by subst q;show w1 c dx S H' (e3.trans e) s'.aem (XOk.sub (λb y=>y.elim (λy=>.inl (.inl y)) .inr) x')
    show hg (cx B p) σ2 H3 Y Z ρ2 x (.fz d) _ (s2.grow s3) (sl2.Xa e3) dv ?_;cases qg:gt (.fz d) ρ2 Z with
    |er z t=>rw[qg]at f;show w (e2.trans e3) f
    |bad=>rw[qg]at f;show C f.symm
    |ok l I=>
     rw[qg]at f;intro α4 H4 e4 s4 σ4 sl4;show ht (cx B p) σ4 H4 α4 I l _ s4 sl4 ?_;let f:((s l I).bind λb Z=>if b=UJ then(k l Z).bind λx u=>(if acc.length<1000000 then dJ gt s k (ds.drop (i+1)) l u (acc++[x])else .bad)else dJ gt s k (ds.drop (i+1)) l Z acc)=rr:=f;cases qt:s l I with
     |er z t=>rw[qt]at f;show w (e2.trans (e3.trans e4)) f
     |bad=>rw[qt]at f;show C f.symm
     |ok b A=>
      rw[qt]at f;intro α5 G e5 s5;let P:=sl4.Xa e5;let N8:=e3.trans (e4.trans e5);cases b with
      |false=>let f:dJ gt s k (ds.drop (i+1)) l A acc=rr:=f;show#[Ye,α5,A,l,acc,ys,e2.trans N8,s5,P,kD s2 N8 hy,Xi.Xa N8 vy,f]
      |true=>
       let f:((k l A).bind λx u=>(if acc.length<1000000 then dJ gt s k (ds.drop (i+1)) l u (acc++[x])else .bad))=rr:=f;rw[ax W];show he (cx B p) σ4 G α5 A l _ s5 P ?_;cases qe:k l A with
       |er z t=>rw[qe]at f;show w (e2.trans N8) f
       |bad=>rw[qe]at f;show C f.symm
       |ok x6 F=>
        rw[qe]at f;intro L H6 e6 s6 v6 hv6;let f:(if acc.length<1000000 then dJ gt s k (ds.drop (i+1)) l F (acc++[x6])else .bad)=rr:=f;by_cases hl6:acc.length<1000000
        .rw[ax hl6]at f;let QA:=N8.trans e6;let hy6:H6 p=cL (.lst ys):=kD s2 QA hy;let vy6:=Xi.Xa QA vy;let em:Ev (ow (cx B p) L F) H6 (ow (cx B p) L F) (aW H6 p (.lst (ys++[v6]))):=Ev.mut (.inl (.inr W)) _;let sl6:=P.Xa e6;show#[ys,hy6,rF (by rw[vy6.length];show hl6),Ye,L,F,l,acc++[x6],ys++[v6],(e2.trans QA).dd hD,s6.aiE hy6,#[sl6.1,λj x hx=>let#[v,h1,h2]:=sl6.2 j x hx;#[v,h1,h2.ev em λ_ _ h=>h]],aC,tQ (Paired.Yb vy6 λ_ _ r=>r.ev em λ_ _ h=>h) (hv6.ev em λ_ _ h=>h),f]
        .rw[a3 hl6]at f;show a7 f.symm C
   .let e:i=ds.length:=by ext
    subst e;rw[Wy (UU _)]at f;let f:RS.ok acc Z=rr:=f;subst f;show .inl #[stop,?_];show w1 (Y++[p]) M #[λi a h=>gA (e2.pre i a h),e2.kp,λb z=>(sK s2.len z).elim (e2.lv b) λz=>.inr (by rw[z];show hD)] (s2.adopt hy vy hB) (.ref p) #[p,by rw[<-s2.len];show aM,W]
def NZ{A C:Type}{P:C->G J->aH->Hp->Prop}{r:RS A}{k:A->aH->C}{m:A->aH->aH}(w:WS K E B H U ω P ((j7 r).bind λa o=>.ok (k a o) (m a o))):WS K E0 B H U ω P (r.bind λa o=>.ok (k a o) (m a o)):=by
 cases r with
 |ok a o=>show w
 |er x o=>show w.elim
 |bad=>show w
def EJ{own:G Str}{h:G (Str×Nat)}{a:TI}{g:TG}{e:TT}{b:TE}{j:Op}{gt:z7}{c:qK}{d:dj}{n:Nat}{i:G Nat}(k:own.length=n)(r:h.map (·.2)=i)
  (u:QO K E a j) (q:Lx K E0 g gt) (p:ul K E0 e c) (t:cB K E0 b d):cB K E (qZ own h a g e b) (mz n i j gt c d):=by
 intro B R H U ω ρ Q s f w;show u B R H U ω ρ _ s f (WS.imp (WS.bind w) λds X ω1 T e1 m l J o=>?_);show xc k r q p t m (f.Xa e1) o (NZ l)
def cE(N:Nat)(g:dU):fT:=λxs ω=>(g (xs.map cL++UW (N - xs.length) P) ω).bind λa ω1=>match a with
 |.rt x=>.ok x ω1
 |.nx _=>.ok (.fz .none) ω1
 |_=>.bad
def DD{N:G Str}{c:G V}{xs:G SV}(h:Xi O K H U c xs):Xp O K H U (L2.start N c) (xs.map cL++UW (N.length - xs.length) P):=by
 let e:c.length=xs.length:=Paired.length h;ext L2.start;show#[by simp_all,λi x a=>?_];by_cases hi:i<xs.length
 .rw[U1 (by simp_all),UZ]at a
  cases q:xs[i]? with
  |none=>rw[q]at a;ext a
  |some d=>rw[q]at a;ext a;let(v,b,f):=xq h q;show#[v,?_,f];rw[U1 (by rw[UK,e];show hi),UZ,b];rfl
 .rw[Vn (by rw[UK];ext),WT]at a;split at a<;>ext a
def wS{N:G Str}{c:G V}{xs:G SV}{g:dU}{t:TS}{Q:VK}{n:Nat}(f:mP K E t g)(h:kA K n (cE N.length g) c H Q E):t {nx:=λ_ H'=>Q .W9 H',rt:=Q} (L2.start N c) H:=by
 let(l,B,U,ω,xs,s,e,w):=h;show f B _ H U ω _ _ s (DD e) (WS.imp (WS.bind w) λi X ω1 T e1 b a=>?_);cases i with
 |rt x=>show WS.now (E:=E) b a
 |nx ρ=>show λR j=>WS.now (E:=E) b a .W9 .W9
 |bk ρ=>show a.elim
 |ct ρ=>show a.elim
end
def TF{P:Vc}{w:Vw}{K:CL}{d:Str->I U}{base:Heap}{x a:Str}{st:Wz}{f:J}{fd:VT}{N c:G Str}{k n m:Nat}{g:dU}{e:fT}(F:ZD K x a st f fd)(S:W3 N c (aw st))(r:c.length=n)(hm:N.length=m)(o:e=cE m g)
  (p:∀(b:U) (A:Vq) (outer:G Env) (s:UQ) (H:Hp) (E:XK),WC k (A.deeper (Vx a (aw st) s.heap.objs.size f b))->
   ∃t,PSs (eZ j0 P w K d base N a (aw st) f b A outer s H E).nox (bT st) t/\mP K E t g):FnOk P w K d base j0 (k+1) f fd c (kA K n e):=by
 subst o hm;show F.ok S (λq H Q E h=>h.1.trans r.symm) (λb A outer s H q Q E l h=>?_);let(t,i,j):=p b A outer s H E l;show#[t,i,wS (xs:=[]) j h]
def Tb{P:Vc}{w:Vw}{K:CL}{d:Str->bg U}{base:Heap}{x a:Str}{st:Wz}{f:J}{fd:VT}{N c:bb Str}{k n m:Nat}{g:dU}{j:fT}(F:ZD K x a st f fd)(S:W3 N c (aw st))(z:c.length=n)(hm:N.length=m)(u:j=cE m g)
  (y:∀(b:U) (A:Vq) (outer:bb Env) (s:UQ) (H:Hp) (E:XK),WC k (A.deeper (Vx a (aw st) s.heap.objs.size f b))->
   ∃t,PSs (eZ (L4.lB P w) P w K d base N a (aw st) f b A outer s H E) (bT st) t/\mP K E t g):FnOk P w K d base (L4.lB P w) (k+1) f fd c (kA K n j):=by
 subst u hm;let(G,C,kV,v,B,I,b,ct,l,rfl,o,i):=F.ex;show Dp o i S (λL H Q E h=>h.1.trans z.symm) λA outer s H L Q E r e=>?_;let(t,p,q):=y b A outer s H E r;show#[t,p,wS (xs:=[]) q e]
end L10
namespace PySem.W
open PySem PySem.Calls PyProof.Rows PyProof.V PySem.Spec
section
variable{Y:Vc}{w:Vw}{A:Vq}{E:UI->UQ->Prop}{s:UQ}{T:String}{r d:UP}{n:Nat}{P:Nat->UI->Prop}{X:Heap->Prop}
def collect_kdl(K:KdlSrc Y w T r d n P X)(l:A.handled=lD)(V4:X s.heap)(u:n<=UY)
  (p:∀c k acc,(∀b o,s.heap.get? b=M o->c.get? b=M o)->YX P acc n->Q acc.toList {s with heap:=c,toks:=k}):wpAny (model Y w) A (collect (.ref r)) Q E s:=by
 let h:=K.there _ V4;ext collect;show Ld (wpAny_runValue (Xw F.entry_proto_collect ?_));rw[Vq.under_plainId F.plain_proto_collect _];show Ld (V0 ?_);show UR #[Xf F.plain_list_iadd _,Xw F.entry_list_iadd ?_];rw[Vq.under_plainId F.plain_list_iadd _];let m:(s.heap.push {cls:=.type "list",data:=.seq ([]:G U).toArray}).get? s.heap.objs.size=M {cls:=.type "list",data:=.seq ([]:G U).toArray}:=b4 _ W;show kdl_extend (R:=wants (λv i=>wpAny (model Y w) A (match v with|.ref a=>(load a>>=λo=>match o.data with|.seq xs _=>pure xs.toList|_=>unsupported "internal:collect")|_=>unsupported "internal:collect") Q E i) E) (s:={s with heap:=s.heap.push {cls:=.type "list",data:=.seq ([]:G U).toArray}}) K l (K.keep _ _ V4 λb _ o e=>bt _ e) _ (VW h.1) (VW h.2) _ 0 m (λc k q t j f g=>?_) u;show Ld (ad7 f ?_);show UR (p c k q (λb o e=>j b o (Vg (b3 e)) (bt _ e)) g)
end
end PySem.W
namespace PyProof.Rows
open PySem
section
variable{Y:Vc}{w:Vw}{A:Vq}{E:UI->UQ->Prop}{s:UQ}{T:String}{r d:UP}{n:Nat}{P:Nat->UI->Prop}{X:Heap->Prop}
def wY(K:PySem.W.KdlSrc Y w T r d n P X)(p:A.handled=lD)(V4:X s.heap)(l:n<64)(t:∀acc:Array U,YX P acc n->IntsAre acc.toList ns)
  (h:∀(a c:Heap) (g:Nat) (out:Array U) (e:Nat) (f:G Int),(∀b o,s.heap.get? b=M o->a.get? b=M o)->c.get? a.objs.size=M (seqObj "list" out e)->(∀b o,a.get? b=M o->c.get? b=M o)->IntsAre out.toList f->f.Perm ns->f.Pairwise (·<=·)->Q (.ref a.objs.size) {s with heap:=c,toks:=g}):
  wpAny (model Y w) A (call (.builtin "sorted") [.ref r]) Q E s:=by
 show Calls.call_function_entry kind_sorted plain_sorted entry_sorted (args_sorted1 _) (Ld (UR (Ld (PySem.W.collect_kdl K p V4 (by rw[W5];ext) (λa g acc m C=>Ld (ajK ?_ (hsz:=by rw[VN,C.1,W5];ext)))))));let i:(a.push (seqObj "list" acc.toList.toArray 0)).get? a.objs.size=M (seqObj "list" acc.toList.toArray 0):=b4 _ W;let j:=t acc C;show Ld (Wj (WI slot_list_sort #[_,i,W] entry_list_sort (list_sort_tree i j (by rw[VN,C.1];show l) λout f y v u=>#[_,W,UR #[_,W,?_]]) (args_list_sort _)));let(e,q):=oW i;show h a _ g out e f m q (λb B z=>my (Vg (b3 z)) (bt _ z)) y v u
end
end PyProof.Rows
namespace L10
open PySem PySem.Spec PyProof.Rows L2 L3
def Sq(p d:J):HO:=.ext λh=>h.IsValuesView p d
theorem RH(x:h.IsValuesView p d):ObjOk g w H h p (Sq p d):=#[x,let#[o,a,_]:=x;#[o,a],λf e #[o,a,b] k=>#[o,k o a,b]]
def Ku:V->G V->Hp->VK->Prop:=λx b H Q=>∃a e,x=.ref a/\b=[]/\H a=M (.dK e)/\∀p,H p=P->Q (.ref p) (aW H p (Sq p a))
def AF:PN X "dict.values" Ku:=by intro g s m H x xs v n Q I i f h;let(a,r,rfl,rfl,e,q):=h;ext i;ext f;let(z,l,p,j,dd):=vO I.V4 e;show call_meetsIn Z9 dd.typeIs PySem.F.entry_dict_values (PySem.F.args_dict_values_1 _) (meets_dict_values (cz X.prog X.w) a l) #[#[p,dd],?_];show#[.ref s.heap.objs.size,_,I.laid (λb o e=>bt _ e) (UU _) (RH #[_,b4 _ W,W,W]),W,q _ (I.V4.fresh (UU _))]
def EE:G V->Hp->VK->Prop:=λxs H Q=>∃p a b,xs=[.ref p]/\H p=M (Sq p a)/\H a=M (.dK b)/\∀l,H l=P->Q (.ref l) (aW H l (.lst (b.map (·.2))))
def HN:∀{c:G (o×V)} {b:G (o×U)},KV c b->Vals (c.map (·.2)) (b.map (·.2)):=by
 intro _ _ a
 induction a with
 |nil=>show .nil
 | @cons _ _ _ _ h t e=>show .cons h.2 (e)
def wO(n:X.calm=S):Xg X (.type "list") EE:=by intro g s C H xs E Q I r h;let(p,a,N,rfl,w,e,q):=h;let(u,rfl,l):=ju r;ext l;let(z,G,T,b,dd):=vO I.V4 e;let(K,B):=dd.dictAt;let(i,_,_):=I.V4 p _ w;show PySem.W.kdl_call (PySem.W.kdl_values) (I.ok.hd n) #[i,B] (by rw[<-b.length];show z) λJ F f c m t L=>?_;let A:=PySem.W.kdl_vals_eq f.toList (by rw[VN];show L.1) λj v y=>L.2 j v (by rw[<-XH];show y);show#[.ref s.heap.objs.size,_,I.laid (o:=.lst (N.map (·.2))) m (UU _) #[by rw[UK];show z,f.toList,c,by rw[A];show HN b,by rw[abh];show t],W,q _ (I.V4.fresh (UU _))]
def wv:G V->Hp->VK->Prop:=λxs H Q=>∃(p:J) (e:G (b9×V)) (a:G Int),xs=[.ref p]/\H p=M (.dK e)/\e.map (·.1)=a.map Sum.inl/\a.length<64/\∀(l:J) (b:G Int),H l=P->b.Perm a->b.Pairwise (·<=·)->Q (.ref l) (aW H l (.lst (b.map V.int)))
theorem oU:∀{c:G (b9×U)} {a:G Int} {us:G U},c.map (·.1)=a.map Sum.inl->us.length=c.length->(∀(j:Nat) (u:U),us[j]?=M u->∃k x,c[j]?=M (k,x)/\(cz prog w).is k u=S)->IntsAre us a
 |[],[],[],_,_,_=>.nil
 |[],[],_::_,_,h,_=>by simp at h
 |[],_::_,_,h,_,_=>by simp at h
 |_::_,[],_,h,_,_=>by simp at h
 |_::_,_::_,[],_,h,_=>by simp at h
 |(k,y)::c,n::a,u::us,h1,m,l=>by rw[U5,U5,alq]at h1;let(i,x,e,f):=l 0 u W;ext e;let g:=h1.1;subst g;let(t,rfl):=UI.isInt_shape (show UI.isInt n u=S from f);show .cons _ _ (oU h1.2 (by simpa using m) λj b e=>l (j+1) b (by simpa using e))
def wC(E:X.calm=UJ):Xg X (.builtin "sorted") wv:=by
 intro i s N H xs O Q I r h;let(p,Vi,l,rfl,e,J,F,q):=h;let(u,rfl,t):=ju r;ext t;let(z,C,vs,b,dd):=vO I.V4 e;let(T,L):=dd.dictAt;let m:vs.map (·.1)=l.map Sum.inl:=by rw[<-b.keys];show J
 let R:vs.length=l.length:=by let:=dt Yf m;simpa using this
 show wY (PySem.W.kdl_dict C) (I.ok.hd E) L () (λM Y=>oU m (by rw[VN];show Y.1) λj v K=>Y.2 j v (by rw[<-XH];show K)) λG S P f e2 w A B g Y n y=>?_;let a:=n.length_eq;let o:=I.kept (t':=s.toks) A;show#[.ref G.objs.size,_,o.laid g (UU _) ?_,W,q _ w (o.V4.fresh (UU _)) n y];show#[?_,f.toList,e2,ip Y,B];rw[UK,a];let:(64:Nat)<=UY:=by decide
 ext
end L10
namespace PySem
open Sem (wp)
namespace F
def lk_tuple_keys:typeLookup (.type "tuple") "keys"=pure P:=by rw[Zd,XX];kernel_rfl
def lk_tuple_hook:typeLookup (.type "tuple") "__getattr__"=pure P:=by rw[Zd,XX];kernel_rfl
def sub_ae:isSubtype (.type "AttributeError") (.type "AttributeError")=pure S:=by rw[ahG];kernel_rfl
end F
section
variable{Y:Vc}{w:Vw}{A:Vq}{E:UI->UQ->Prop}{h:Heap}{g:Array Zt}{d:adb}{t:Nat}{X:acw}{a:UP}{o:Obj}
def xV{α:Type}{name f:Str}{Q:α->UQ->Prop}{E:U->UQ->Prop}(hm:f.length<=UY)(l:A.handled=P)(i:∀e c k,(∀b o,h.get? b=M o->c.get? b=M o)->(#[c,g,d,k,X]:UQ).TypeIs e "AttributeError"->E e #[c,g,d,k,X]):
  wpAny (model Y w) A (raiseAttrError (.ref a) name f:Sem α) Q E #[h,g,d,t,X]:=by
 let j:¬f.length>UY:=Nat.not_lt.mpr hm;unfold raiseAttrError newExc newTuple
 repeat (any_goals (first|assumption|wp_step))
 show aaH (a:=S) F.sub_ae ?_
 repeat (any_goals (first|assumption|wp_step))
 show adJ l (i _ _ _ (λb o e=>?_) ?_)
 .show(b5 _ _ (da (Vg (b3 (bt _ e))))).trans (bt _ (bt _ e))
 .show#[_,b7 _ (b4 _ W) W,W]
def lQ{f:Tok}{Q:Fin->UQ->Prop}{E:U->UQ->Prop}{p:Array U}{n:Nat}{i:Array (I U)}(j:h.get? a=M #[.type "tuple",P,.seq p n,i])(m:A.handled=P)(l:∀e c k,(∀b o,h.get? b=M o->c.get? b=M o)->(#[c,g,d,k,X]:UQ).TypeIs e "AttributeError"->E e #[c,g,d,k,X]):
  wpAny (model Y w) A (Builtin.«object.__getattribute__» #[[.ref a,.str "keys" f],[]]) Q E #[h,g,d,t,X]:=by
 let q:(#[h,g,d,t,X]:UQ).TypeIs (.ref a) "tuple":=#[_,j,W];let r:=F.lk_tuple_keys
 repeat (any_goals (first|assumption|wp_step))
 show xV (by left) m l
def qu{f:Tok}{Q:U->UQ->Prop}{E:U->UQ->Prop}{u:Array U}{n:Nat}{l:Array (I U)}(i:h.get? a=M #[.type "tuple",P,.seq u n,l])(q:A.handled=P)(m:∀e c k,(∀b o,h.get? b=M o->c.get? b=M o)->(#[c,g,d,k,X]:UQ).TypeIs e "AttributeError"->E e #[c,g,d,k,X]):
  wpAny (model Y w) A (getAttrBy (.ref a) (.str "keys" f) R) Q E #[h,g,d,t,X]:=by
 let r:(#[h,g,d,t,X]:UQ).TypeIs (.ref a) "tuple":=#[_,i,W];let B:=F.slot_tuple_getattribute.lookup;let y:=F.slot_tuple_getattribute.bind (.ref a);let v:=F.lk_tuple_hook
 repeat (any_goals (first|assumption|wp_step))
 show X3 F.slot_tuple_getattribute.plain F.entry_tuple_ga (F.slot_tuple_getattribute.check _ _ _ _ _ _ _ _ r (F.args_tuple_getattribute_2 _ _) (lQ i q λe c k p j=>?_));let fs:=F.sub_ae;show wpAny (model Y w) A (getattributeRaised (UI.ref a) (UI.str (Str.ofString "keys") f) (UI.type "tuple") e P R R) Q E _;ext getattributeRaised;show Ld (YW j fs ?_)
 repeat (any_goals (first|assumption|wp_step))
 show m e c k p j
def mV(f:h.get? a=M #[.type "tuple",P,.seq Vz n,C])(l:A.handled=P)(i:∀c k,(∀b o,h.get? b=M o->c.get? b=M o)->Q P #[c,g,d,k,X]):
  wpAny (model Y w) A (getAttr? (.ref a) "keys") Q E #[h,g,d,t,X]:=by
 unfold getAttr? getAttrBy?;let fs:=F.sub_ae;show Ld ?_
 repeat (any_goals (first|assumption|(specialize qu f l λe c k j m=>?_)|wp_step))
 show i c k j
namespace F
theorem entry_upd_loop:entryFor table "dict.update.loop"=M Builtin.«dict.update.loop»:=entryFor_of_tree (by kernel_rfl)
def plain_upd_loop:plainId "dict.update.loop"=S:=by left
end F
end
section
variable{prog:Vc}{w:Vw}{A:Vq}{E:UI->UQ->Prop}{s:UQ}{K:Type}[DecidableEq K]{knd:KeyKind prog w K}{I dd Z:UP}{items:Array UI}{ks:bb (K×UI)}{R:Zu->UQ->Prop}
def wJ(a:G (K×U))(k:K)(v:U):(stored a k v).length<=a.length+1:=by
 ext stored;split
 .rw[UK];ext
 .rw[US];show UU _
theorem mH:∀(a c:G (K×U)),(merged c a).length<=c.length+a.length
 |[],c=>UU _
 |p::r,c=>by let e:=mH r (stored c p.1 p.2);let b:=wJ c p.1 p.2;show(merged (stored c p.1 p.2) r).length<=_;rw[U4];ext
def ww(a:G (K×U)):(merged [] a).length<=a.length:=by let:=mH a [];simpa using this
def Dw{P:Heap}(D:A.handled=lD)(YR:Z≠I)(O:I≠dd)(N:Z≠dd)(d:∀(i:Nat) (v:UI),items[i]?=cL v->∃q key k x,v=.ref q/\q≠dd/\q≠I/\ks[i]?=cL (k,x)/\knd.is k key=UJ/\P.IsTuple q #v[key,x])(hs:ks.length=items.size)(hz:items.size<=UY)
  (V:∀c l,c.DictOf knd dd (merged [] ks)->(∀b o,b≠dd->b≠I->P.get? b=cL o->c.get? b=cL o)->R (.ok (.ret .none)) {s with heap:=c,toks:=l}):
  ∀(m i:Nat) (h:Heap) (l:Nat),items.size - i=m->i<=items.size->h.IsTupleIter I Z i->h.IsTuple Z items->h.DictOf knd dd (merged [] (ks.take i))->(∀b o,b≠dd->b≠I->P.get? b=cL o->h.get? b=cL o)->
   codeAny (model prog w) A (.builtin "dict.update.loop" #[[.ref dd,.ref I,rawInt i,.none],[]]) R {s with heap:=h,toks:=l}:=by
 let W:=Walks.tuple (prog:=prog) (w:=w) (A:=A.in1) D I Z YR items;intro m
 induction m with
 |zero=>
  intro i h l hm hi B u t r;let e:i=items.size:=by ext
  subst e;show Xw F.entry_upd_loop ?_;rw[Vq.under_plainId F.plain_upd_loop _];show Ld (W.done _ _ _ #[B,u] λc f g=>?_);rw[YF ()]at t;show Ld (UR (UR ?_));show V c f (t.at λo e=>g dd o (by simp;show λz=>O z.symm) e) λb o j a e=>g b o (by simp;show a) (r b o j a e)
 |succ m ih=>
  intro i h l hm hi B u t r;let T:i<items.size:=by ext
  show Xw F.entry_upd_loop ?_;rw[Vq.under_plainId F.plain_upd_loop _];show Ld (W.item i _ _ _ T #[B,u] λv c f hv S g=>?_);let(q,key,k,x,rfl,G,n,J,H,ht):=d i v hv;let C:=ht.at λo e=>g q o (by simp;show n) (r q o G n e);let Q:=t.at λo e=>g dd o (by simp;show λz=>O z.symm) e;let y:=λb o j a e=>g b o (by simp;show a) (r b o j a e);let(Y,p,M,nq,L):=C;let(cq,dq,dtq,U):=Y;ext M;ext L;let hT:({s with heap:=c,toks:=f}:UQ).TypeIs (.ref q) "tuple":=#[_,p,rfl];show Ld (Wj (Ld ?_));show Zy ?_;ext Builtin.Dict.pairItems;show Ld (XQ hT ?_);rw[ax ()];show Ld ?_;unfold seqItems?;show Ld (ad7 p (UR (UR ?_)));show Wj (wpAny_dictSet_pairs H Q (λa d2 X=>?_) ?_)
  .show UR #[Xf F.plain_upd_loop _,?_];let e2:∀b o,b≠dd->c.get? b=cL o->a.get? b=cL o:=λb o hb e=>(X.2 b hb).trans e;show ih (i+1) a (f+1) () T (S.1.at λo e=>e2 I o O e) (S.2.at λo e=>e2 Z o N e) ?_ λb o j a e=>e2 b o j (y b o j a e);rw[merged_take_succ [] ks i (k,x) J];show d2
  .let:(merged [] (ks.take i)).length<=(ks.take i).length:=ww _;rw[V8]at this;ext
end
end PySem
namespace PySem
open Sem (wp)
open PyProof.Rows
section
variable{T:Vc}{w:Vw}{A:Vq}{E:UI->UQ->Prop}{s:UQ}{K:Type}[DecidableEq K]{X:KeyKind T w K}{Z:UP}{Y:Array UI}{ks:bb (K×UI)}{R:Zu->UQ->Prop}
def nc(C:A.handled=P)(B:s.heap.get? Z=cL #[.type "tuple",P,.seq Y n,sl])(H:ks.length=Y.size)(z:Y.size<=UY)
  (I:∀(i:Nat) (v:U),Y[i]?=cL v->∃q key k x,v=.ref q/\ks[i]?=cL (k,x)/\X.is k key=S/\s.heap.IsTuple q #v[key,x])
  (h:∀c d,c.DictOf X s.heap.objs.size (merged [] ks)->(∀b o,s.heap.get? b=cL o->c.get? b=cL o)->Q (.ref s.heap.objs.size) {s with heap:=c,toks:=d}):
  wpAny (model T w) A (call (.type "dict") [.ref Z]) Q E s:=by
 show ahH (Q₁:=λobj f=>obj=.ref s.heap.objs.size/\f={s with heap:=s.heap.push {cls:=.type "dict",data:=.dict #v[]}}) F.kt_called_dict (F.kt_typeCall_dict_1 _) F.entry_dict_init (kt_code_dict_new _ #[W,W]) ?_;rintro obj f ⟨rfl,rfl⟩;let a:(s.heap.push {cls:=.type "dict",data:=.dict #v[]}).DictOf X s.heap.objs.size []:=Heap.DictOf.new s.heap;let g:(s.heap.push {cls:=.type "dict",data:=.dict #v[]}).get? Z=cL #[.type "tuple",P,.seq Y n,sl]:=bt _ B;let J:({s with heap:=s.heap.push {cls:=.type "dict",data:=.dict #v[]}}:UQ).TypeIs (.ref Z) "tuple":=#[_,g,W];show#[a.typeIs,F.args_dict_init_2 _ _,?_];unfold Builtin.«dict.__init__»;show Ld ?_;ext Builtin.Dict.selfAndRest;show Ld (wpAny_notOrdered_dict a.typeIs ?_);show UR ?_;show wpAny _ _ (Builtin.Dict.updateFrom "dict.__init__" s.heap.objs.size (.ref Z) [] .none) _ _ _;ext Builtin.Dict.updateFrom;show Ld (XQ J ?_);rw[ax ()];show Ld (mV g C λc G m=>?_);rw[ax (show(P:bg U).isNone=S from rfl)];show Ld (Y6 ?_);let l:=m _ _ g;let t:c.IsTuple Z Y:=#[_,l,W,n,W];show Ld (Zi t ?_);show UR #[Xf F.plain_upd_loop _,?_];let P5:s.heap.objs.size<c.objs.size:=by let(o,_,_,p,_):=a;show b3 (m _ _ p)
 let j:=b3 B;show Dw (A:=A.in1) (knd:=X) C (Vg (XA j P5)) (VW P5) (Vg j) (λi v e=>?_) H z (λu r N k2=>?_) Y.size 0 _ G () (Vu _) #[_,b4 _ W,W,W] #[_,bt _ l,W,n,W] ?_ λb o _ _ e=>e
 .let(q,key,k,x,rfl,M,u,o,p,L):=I i v e;let y:=b3 p;show#[q,key,k,x,W,Vg y,Vg (XA y P5),M,u,o,bt _ (m _ _ (bt _ p)),L]
 .show#[W,h u r N λb o e=>?_];let lb:=b3 e;show k2 b o (Vg lb) (Vg (XA lb P5)) (bt _ (m _ _ (bt _ e)))
 .let:=a.at (h':=c.push {cls:=.type "tuple_iterator",data:=.fields #v[.ref Z,.int 0 0]}) λo e=>bt _ (m _ _ e);show this
end
end PySem
namespace L10
open PySem PySem.Spec PyProof.Rows L2 L3
inductive aam(K:CL)(H:Hp):G V->G (b9×V)->Prop
 |nil:aam K H [] []
 |cons {q:J} {k:b9} {v:V} {vs:G V} {Vi:G (b9×V)}:Yr K H q [kV k,v]->aam K H vs Vi->aam K H (.ref q::vs) ((k,v)::Vi)
def xX(K:CL):G V->Hp->VK->Prop:=λxs H Q=>∃p ys a,xs=[.ref p]/\Yr K H p ys/\aam K H ys a/\∀d,H d=P->Q (.ref d) (aW H d (.dK (lK [] a)))
theorem Ei(I:Inv X pins σ H s):∀{j:G V} {z:G (b9×V)} {us:G U},aam X.K H j z->Vals j us->∃d:G (b9×U),KV z d/\d.length=us.length/\∀(i:Nat) (v:U),us[i]?=M v->∃q key k x,v=.ref q/\d[i]?=M (k,x)/\(cz X.prog X.w).is k key=S/\s.heap.IsTuple q #v[key,x]
 |_,_,_,.nil,.nil=>#[[],.nil,W,λi v e=>by simp at e]
 |_,_,_,.cons (q:=q) (k:=k) (v:=v) h t,.cons r rs=>by
  let(d,p,o,n):=Ei I t rs;let(y,A,pl,_):=I.tuple h;ext r;obtain⟨g,f,rfl,m,l⟩:∃g f,y=[g,f]/\RelV (kV k) g/\RelV v f:=by
   cases A with
   |cons a b=>cases b with
    |cons b c=>ext c;show#[_,_,W,a,b]
  show#[(k,f)::d,.cons #[W,l] p,by rw[U4,U4,o],λi u e=>?_];cases i with
  |zero=>ext e;show#[q,g,k,f,W,W,rM m,pl]
  |succ i=>show n i u (by simpa using e)
def xQ(F:X.calm=UJ):Xg X (.type "dict") (xX X.K):=by
 intro f s G H xs L Q I r h;let(p,J,Y,rfl,t,w,q):=h;let(u,rfl,g):=ju r;ext g;let(S,T,(o,y,(b,n,E),a),m):=I.aeF t;let(P,k1,k2,k3):=Ei I w T;let(O,N,l,j):=o;ext b;ext E;ext a;let A:=T.length;let B:=k1.length;show nc (I.ok.hd F) y (by rw[U3];show k2) (by rw[U3,<-A];show m) (λi v e=>k3 i v (by simpa using e)) λR M dd C=>?_;show#[.ref s.heap.objs.size,_,I.laid C (UU _) ?_,W,q _ (I.V4.fresh (UU _))];show xb ?_ ?_ (KV.merge k1 .nil) dd
 .let:=jZ Y [];rw[W2]at this;ext
 .show beq_eq_false_iff_ne.mpr (VW I.big)
end L10
namespace L10
open PySem PyProof.Rows L2 L3
def Oo:VP "dict"=M (.type "dict"):=by left
section
variable{B O O':bC}{K:CL}{E:XK}{H H' S R:Hp}{Y α' X U:bb UP}{ω ω' ω1 Z:aH}{T:L2.St}{ρ:aQ}{v:V}
def qv:SV->I b9
 |.fz (.int i)=>M (.inl i)
 |.fz (.str x)=>M (.inr x)
 |_=>P
def nz(e:qv x=M k)(h:Xv O K H Y v x):v=kV k:=by
 unfold qv at e;split at e
 .ext e;ext h;rfl
 .ext e;ext h;rfl
 .ext e
abbrev rV(O:bC)(K:CL)(H:Hp)(Y:G J):G (b9×V)->G (b9×SV)->Prop:=Paired (λ(p:b9×V) (q:b9×SV)=>p.1=q.1/\Xv O K H Y p.2 q.2)
def gz(ω:aH):SV->I (Nat×G (b9×SV))
 |.rf i=>match ω[i]? with
  |some (.Zo a)=>M (i,a)
  |_=>P
 |_=>P
def j9(s:Vt B K H Y ω)(b:Xv (ow B Y ω) K H Y v x)(h:gz ω x=M (i,o)):ω[i]?=M (.Zo o)/\∃a ws,Y[i]?=M a/\v=.ref a/\H a=M (.dK ws)/\rV (ow B Y ω) K H Y ws o:=by
 cases x with
 |fz d=>ext h
 |tp l=>ext h
 |rf j=>
  let(a,n,rfl):=b;unfold gz at h;dsimp only at h;cases q:ω[j]? with
  |none=>rw[q]at h;ext h
  |some c=>
   rw[q]at h;cases c with
   |Zo m=>let e:=Vd h;ext e;let(ws,g,f):=s.cel i a _ n q;show#[q,a,ws,n,W,g,f]
   |_=>ext h
def iJ(b:G (b9×SV))(k:b9):I SV:=(b.find? λa=>decide (a.1=k)).map (·.2)
def iW(b:G (b9×SV))(k:b9)(x:SV):G (b9×SV):=
 if(b.any λa=>decide (a.1=k))=UJ then b.map (λa=>if a.1=k then(a.1,x)else a)else b++[(k,x)]
def kG(b:G (b9×SV))(k:b9):G (b9×SV):=b.filter λa=>decide (a.1≠k)
def t8:∀{ws:G (b9×V)} {c:G (b9×SV)},rV O K H Y ws c->(∀x,iJ c k=M x->∃v,iZ ws k=M v/\Xv O K H Y v x)/\(iJ c k=P->iZ ws k=P):=by
 intro _ _ f
 induction f with
 |nil=>show#[λx e=>(by ext e),λ_=>W]
 | @cons m l ws c j t n=>
  let(a,u):=m;let(b,y):=l;let(i,g):=j;ext i;unfold iJ iZ;rw[VG,VG];by_cases e:a=k
  .simp only[a4 e];show#[λx h=>#[u,W,by ext h;show g],λh=>by ext h]
  .simp only[a5 e];show n
def SH:∀{ws:G (b9×V)} {d:G (b9×SV)},rV O K H Y ws d->(ws.any λc=>decide (c.1=k))=d.any λc=>decide (c.1=k):=by
 intro _ _ e
 induction e with
 |nil=>show W
 | @cons j i ws d h t l=>let(a,u):=j;let(b,y):=i;let(f,g):=h;ext f;rw[Xm,Xm,l]
def SG(g:Xv O K H Y v x):∀{ws:G (b9×V)} {d:G (b9×SV)},rV O K H Y ws d->rV O K H Y (ws.map (λc=>if c.1=k then(c.1,v)else c)) (d.map (λc=>if c.1=k then(c.1,x)else c)):=by
 intro _ _ f
 induction f with
 |nil=>show .nil
 | @cons n m ws d l t j=>
  let(a,u):=n;let(b,y):=m;let(i,h):=l;ext i;rw[U5,U5];by_cases e:a=k
  .rw[ax e,ax e];show .cons #[W,g] (j)
  .rw[a3 e,a3 e];show .cons #[W,h] (j)
def DE(h:rV O K H Y ws o)(r:p.1=q.1/\Xv O K H Y p.2 q.2):rV O K H Y (ws++[p]) (o++[q]):=by
 induction h with
 |nil=>show .cons r .nil
 |cons a _ b=>show .cons a b
def yw(a:Xv O K H Y v x)(h:rV O K H Y ws o):rV O K H Y (ig ws k v) (iW o k x):=by
 unfold ig iW;rw[SH h];split
 .show SG a h
 .show DE h #[W,a]
def Du:∀{ws:G (b9×V)} {c:G (b9×SV)},rV O K H Y ws c->rV O K H Y (lj ws k) (kG c k):=by
 intro _ _ f
 induction f with
 |nil=>show .nil
 | @cons m l ws c j t i=>
  let(a,u):=m;let(b,y):=l;let(h,g):=j;ext h;unfold lj kG;rw[XN,XN];by_cases e:a=k
  .let z:decide (a≠k)=UL:=a5 λn=>n e;simp only[z];show i
  .let z:=a4 e;simp only[z];show .cons #[W,g] (i)
def qO(neg:Bool)(a fd:dj):dj:=λρ ω=>(a ρ ω).bind λx ω1=>(fd ρ ω1).bind λo Z=>(RS.VO Z (qv x)).bind λk Z=>(RS.VO Z (gz Z o)).bind λp Z=>.ok (.fz (.bool ((iJ p.2 k).isSome !=neg))) Z
def EN(h:rV O K H Y ws o):(iZ ws k).isSome=(iJ o k).isSome:=by
 let(b,a):=t8 h;cases q:iJ o k with
 |none=>rw[a q];rfl
 |some x=>let(u,e,_):=b x q;rw[e];rfl
def HV(p:cB K E C fk)(hd:cB K E td fd):cB K E (Qy C td) (qO UL fk fd):=by intro B T H Y ω ρ Q s e w;show p B T H Y ω ρ _ s e (w.bind.imp λx X ω1 S e1 h g v m=>?_);show hd B T S X ω1 ρ _ h (e.Xa e1) (g.bind.imp λo U Z R e2 f b u n=>?_);let(k,l,b):=WS.VO b;let((i,y),j,b):=WS.VO b;let(_,a,ws,t,rfl,r,q):=j9 f n j;show#[a,iZ ws k,W,by rw[nz l m];show aav.k r,?_];rw[EN q];show WS.now f b _ ?_;rw[adK];show .bl _
def pS(fd a:dj):dj:=λρ ω=>(fd ρ ω).bind λo ω1=>(a ρ ω1).bind λx Z=>(RS.VO Z (qv x)).bind λk Z=>(RS.VO Z (gz Z o)).bind λp Z=>RS.VO Z (iJ p.2 k)
def FV(hd:cB K E td fd)(t:cB K E tk fk):cB K E (Lw td tk) (pS fd fk):=by
 intro B T H Y ω ρ Q s e w;show hd B T H Y ω ρ _ s e (w.bind.imp λo X ω1 S e1 j g u r=>?_);show t B T S X ω1 ρ _ j (e.Xa e1) (g.bind.imp λx U Z R e2 f b v p=>?_);let(k,m,b):=WS.VO b;let((i,L),l,b):=WS.VO b;let(_,a,ws,N,rfl,C,A):=j9 f (r.Xa e2) l;dsimp only at b;cases q:iJ L k with
 |none=>rw[q]at b;show b.elim
 |some y=>rw[q]at b;let(z,n,h):=(t8 A).1 y q;show#[a,z,W,by rw[nz m p,<-n];show aav.k C,WS.now f b z h]
def qS(fd e b:dj):dU:=λρ ω=>(b ρ ω).bind λy ω1=>(fd ρ ω1).bind λo Z=>(e ρ Z).bind λx a=>(RS.VO a (qv x)).bind λk a=>(RS.VO a (gz a o)).bind λp a=>if p.2.length<1000000 then .ok (.nx ρ) (a.set p.1 (.Zo (iW p.2 k y)))else .bad
def Gi(hd:cB K E td fd)(N:cB K E tk fk)(L:cB K E tv fv):mP K E (Ll td tk tv) (qS fd fk fv):=by
 intro B T H Y ω ρ D s g w;show L B T H Y ω ρ _ s g (WS.imp (WS.bind w) λy X ω1 S e1 F A n m=>?_);show hd B T S X ω1 ρ _ F (g.Xa e1) (WS.imp (WS.bind A) λo U Z R e2 C t u M=>?_);show N B T R U Z ρ _ C (g.Xa (e1.trans e2)) (WS.imp (WS.bind t) λx b e j e3 p f z J=>?_);let(k,I,f):=WS.VO f;let((i,Vi),G,f):=WS.VO f;let(l,a,ws,ha,rfl,P,q):=j9 p (M.Xa e3) G;dsimp only at f;by_cases hn:Vi.length<1000000
 .rw[ax hn]at f;let ev:Ev (ow B b e) j (ow B b e) (aW j a (.dK (ig ws k n))):=pd ha l (by nofun);let e4:WA b e j b (e.set i (.Zo (iW Vi k y))) (aW j a (.dK (ig ws k n))):=WA.put ha l (by nofun) (by nofun);let Q:=Paired.length q;show#[a,_,W,by rw[nz I J];show acP.k P (rF ()),?_];show f b _ e4 (p.put ha l (by nofun) (by nofun) #[_,aC,yw ((m.Xa (e2.trans e3)).ev ev λ_ _ h=>h) (Paired.Yb q λ_ _ r=>#[r.1,r.2.ev ev λ_ _ h=>h])]) T ((g.Xa (e1.trans (e2.trans e3))).Xa e4)
 .rw[a3 hn]at f;show f.elim
def rh(fd a:dj):dj:=λρ ω=>(fd ρ ω).bind λo ω1=>(RS.VO ω1 (gz ω1 o)).bind λ_ ω1=>(a ρ ω1).bind λx Z=>(RS.VO Z (qv x)).bind λk Z=>(RS.VO Z (gz Z o)).bind λp Z=>(RS.VO Z (iJ p.2 k)).bind λy Z=>.ok y (Z.set p.1 (.Zo (kG p.2 k)))
def Ep(hd:cB K E td fd)(J:cB K E tk fk):cB K E (Fs td tk) (rh fd fk):=by intro B T H Y ω ρ Q s j w;show hd B T H Y ω ρ _ s j (w.bind.imp λo X ω1 S e1 m f u n=>?_);let((P,N),F,f):=WS.VO f;let(_,a,e,_,rfl,g0,_):=j9 m n F;show#[a,W,.inl #[e,.inl g0],?_];show J B T S X ω1 ρ _ m (j.Xa e1) (f.bind.imp λx U Z R e2 l b v I=>?_);let(k,C,b):=WS.VO b;let((i,Vi),A,b):=WS.VO b;let(g,a',ws,ha,M,L,p):=j9 l (n.Xa e2) A;ext M;dsimp only at b;let(y,q,b):=WS.VO b;let(z,G,t):=(t8 p).1 y q;let ev:Ev (ow B U Z) R (ow B U Z) (aW R a (.dK (lj ws k))):=pd ha g (by nofun);let e4:WA U Z R U (Z.set i (.Zo (kG Vi k))) (aW R a (.dK (lj ws k))):=WA.put ha g (by nofun) (by nofun);show#[ws,k,z,L,nz C I,G,?_];show b U _ e4 (l.put ha g (by nofun) (by nofun) #[_,aC,Du (Paired.Yb p λ_ _ r=>#[r.1,r.2.ev ev λ_ _ h=>h])]) z (t.Xa e4)
def kJ(s:Vt B K H Y ω)(a:H p=P)(w:WS K E B H Y ω (PQ B K Q) (.ok (.rf ω.length) (ω++[c])))(f:∀e:WA Y ω H (Y++[p]) (ω++[c]) (aW H p o),COk (ow B (Y++[p]) (ω++[c])) K (aW H p o) (Y++[p]) p c):Q (.ref p) (aW H p o):=by let b:Wt H (aW H p o):=bJ a _;let e:WA Y ω H (Y++[p]) (ω++[c]) (aW H p o):=WA.aae s.len b a;show w _ _ e (s.aae b a (by rw[aC];simp) (f e)) _ #[p,by rw[<-s.len];show aM,W]
def vR(fd:dj):dj:=λρ ω=>(fd ρ ω).bind λo ω1=>(RS.VO ω1 (gz ω1 o)).bind λp ω1=>.ok (.rf ω1.length) (ω1++[.lst (p.2.map (·.2))])
def DS:∀{ws:G (b9×V)} {b:G (b9×SV)},rV O K H Y ws b->Xi O K H Y (ws.map (·.2)) (b.map (·.2)):=by
 intro _ _ a
 induction a with
 |nil=>show .nil
 | @cons _ _ _ _ h t e=>show .cons h.2 (e)
def DA(hd:cB K E td fd):cB K E (Fu EE (im (Ra K "dict" Ku td) jU)) (vR fd):=by intro B T H Y ω ρ Q s m w;show hd B T H Y ω ρ _ s m (w.bind.imp λo X ω1 S e1 h f u t=>?_);let((i,N),q,f):=WS.VO f;let(F,a,ws,L,rfl,g,C):=j9 h t q;show#[.inr (.inr (.inl #[W,.inl #[ws,g]])),a,ws,W,W,g,λp y=>?_];let b:Wt S (aW S p (Sq p a)):=bJ y _;let n:=h.grow b;let j:=WS.from (WA.same b) f;show#[p,a,ws,W,aC,b _ _ g,λl A=>?_];show kJ n A j λe=>#[_,aC,DS (Paired.Yb C λ_ _ r=>#[r.1,(r.2.Xa (WA.same b)).Xa e])]
def xp:b9->I Int
 |.inl i=>M i
 |.inr _=>P
def pN(fd:dj):dj:=λρ ω=>(fd ρ ω).bind λo ω1=>(RS.VO ω1 (gz ω1 o)).bind λp ω1=>(RS.VO ω1 (aF xp (p.2.map (·.1)))).bind λa ω1=>if a.length<64 then .ok (.rf ω1.length) (ω1++[.lst ((jw a).map λi=>SV.fz (.int i))])else .bad
theorem oj:∀{c:G b9} {a:G Int},aF xp c=M a->c=a.map Sum.inl
 |[],_,e=>by ext e;rfl
 |k::r,a,e=>by
  unfold aF at e;cases k with
  |inr x=>ext e
  |inl i=>
   dsimp only[xp]at e;cases q:aF xp r with
   |none=>rw[q]at e;ext e
   |some b=>rw[q]at e;ext e;rw[U5,<-oj q]
def DC:∀{ws:G (b9×V)} {b:G (b9×SV)},rV O K H Y ws b->ws.map (·.1)=b.map (·.1):=by
 intro _ _ a
 induction a with
 |nil=>show W
 | @cons _ _ _ _ h t e=>rw[U5,U5,h.1,e]
theorem ye(O:bC)(K:CL)(H:Hp)(Y:G J):∀ns:G Int,Xi O K H Y (ns.map V.int) (ns.map λi=>SV.fz (.int i))
 |[]=>.nil
 |n::r=>.cons (.int n) (ye O K H Y r)
def Cq(hd:cB K E td fd):cB K E (Fu wv (im td jU)) (pN fd):=by
 intro B T H Y ω ρ Q s h w;show hd B T H Y ω ρ _ s h (w.bind.imp λo X ω1 S e1 g b u n=>?_);let((i,N),m,b):=WS.VO b;let(C,a,ws,L,rfl,y,t):=j9 g n m;let(f,j,b):=WS.VO b;by_cases hn:f.length<64
 .rw[ax hn]at b;show#[a,ws,f,W,y,by rw[DC t];show oj j,hn,λl F r q p=>?_];let A:=jK (q.trans (eE f).symm) p (dS f);subst A;show kJ g r b λe=>#[_,aC,ye _ _ _ _ _]
 .rw[a3 hn]at b;show b.elim
def om:D->I (b9×SV)
 |.tuple [.int i,d]=>M (.inl i,.fz d)
 |.tuple [.str x,d]=>M (.inr x,.fz d)
 |_=>P
def sL:SV->I (G (b9×SV))
 |.fz (.tuple ds)=>aF om ds
 |_=>P
def Bj(e:sL x=M o):∃ds,x=.fz (.tuple ds)/\aF om ds=M o:=by
 unfold sL at e;split at e
 .show#[_,W,e]
 .ext e
def ky(c a:G (b9×SV)):G (b9×SV):=a.foldl (λb e=>iW b e.1 e.2) c
def rP(b:dj):dj:=λρ ω=>(b ρ ω).bind λx ω1=>(RS.VO ω1 (sL x)).bind λa ω1=>.ok (.rf ω1.length) (ω1++[.Zo (ky [] a)])
theorem u6:∀{k:G V} {ds:G D} {j:G (b9×SV)},L3.Wo O K H k ds->aF om ds=M j->∃g,aam K H k g/\rV O K H Y g j
 |_,_,_,.nil,e=>by ext e;show#[[],.nil,.nil]
 |_,_,_,.cons (d:=d) (ds:=ds) h t,e=>by
  unfold aF at e;cases q:om d with
  |none=>rw[q]at e;ext e
  |some p=>
   rw[q]at e;dsimp only at e;cases i:aF om ds with
   |none=>rw[i]at e;ext e
   |some j=>
    rw[i]at e;ext e;let(g,k1,k2):=u6 t i;unfold om at q;split at q
    .ext q
     cases h with
     |tup h f=>cases f with
      |cons a b=>cases b with
       |cons b c=>ext c;ext a;show#[(.inl _,_)::g,.cons h.1 k1,.cons #[W,b] k2]
    .ext q
     cases h with
     |tup h f=>cases f with
      |cons a b=>cases b with
       |cons b c=>ext c;ext a;show#[(.inr _,_)::g,.cons h.1 k1,.cons #[W,b] k2]
    .ext q
theorem ze:∀{e:G (b9×V)} {f:G (b9×SV)} {ws:G (b9×V)} {c:G (b9×SV)},rV O K H Y e f->rV O K H Y ws c->rV O K H Y (lK ws e) (ky c f)
 |_,_,_,_,.nil,h=>h
 |(a,u)::e,(b,y)::f,_,_,.cons r t,h=>by let(i,g):=r;ext i;show rV O K H Y (lK (ig _ a u) e) (ky (iW _ a y) f);show ze t (yw g h)
def D0(l:cB K E o C):cB K E (Fu (xX K) (im o jU)) (rP C):=by
 intro B T H Y ω ρ Q s f w;show l B T H Y ω ρ _ s f (w.bind.imp λx X ω1 S e1 g b u i=>?_);let(p,q,a):=WS.VO b;let(ds,rfl,q):=Bj q;let a:=a;cases i with
 |tup h j=>let(n,k1,k2):=u6 j q;show#[_,_,n,W,h.1,k1,λd m=>kJ g m a λe=>#[_,aC,ze (Paired.Yb k2 λ_ _ r=>#[r.1,r.2.Xa e]) .nil]]
end
end L10
namespace PySem
open PyProof.Rows
def jx:I Int->Int->I Int
 |none,x=>M x
 |some m,x=>M (if x>m then x else m)
def QP:I (Int×Tok)->Array U
 |none=> #v[]
 |some (m,t)=> #v[.int m t,.int m t]
def K4(d:U):I (Int×Tok)->U
 |none=>d
 |some (m,t)=>.int m t
namespace F
def args_maxd(a b:U):checkBuiltinCall "max" #[[a],[("default",b)]]=pure ⟨⟩:=by kernel_rfl
end F
section
variable{prog:Vc}{w:Vw}{A:Vq}{E:UI->UQ->Prop}{R:Zu->UQ->Prop}{I l S:UP}{vs:bb UI}{d:UI}
def Gv(D:A.handled=lD)(V:l≠I)(r:S≠I)(Q:S≠l){s:UQ}:
  ∀{C:bb UI} {Z:bb Int},IntsAre C Z->∀(i:Nat) (h:Heap) (N:Nat) (b:bg (Int×Tok)) (c:Nat),vs=vs.take i++C->i<=vs.length->h.IsListIter I l i->h.IsList l vs.toArray->h.get? S=cL {cls:=.type "list",dict:=lD,data:=.seq (QP b) c,slots:= #v[]}->
  (∀x N z,z.map (·.1)=Z.foldl jx (b.map (·.1))->(∀a o,a≠I->a≠S->h.get? a=cL o->x.get? a=cL o)->R (.ok (.ret (K4 d z))) {s with heap:=x,toks:=N})->
  codeAny (model prog w) A (.builtin "max.loop" #[[.ref I,.none,.ref S],[("default",d)]]) R {s with heap:=h,toks:=N}:=by
 let W:=Walks.list (prog:=prog) (w:=w) (A:=A.in1) D I l V vs.toArray;intro C Z hi
 induction hi with
 |nil=>
  intro i h N b c u hi it li T M;let e:i=vs.toArray.size:=by rw[VR]at u;let:=dt Yf u;rw[V8]at this;rw[U3];ext
  show Xw F.entry_max_loop ?_;rw[Vq.under_plainId F.plain_max_loop _];show Ld (V7 T rfl ?_);show Ld (Zy (W.done _ _ _ (e▸#[it,li]) λx g y=>?_));let f:=y S _ (by simpa using r) T;cases b with
  |none=>show Ld (Y6 (UR ?_));show M x g lD rfl λa o j B e=>y a o (by simpa using j) e
  |some p=>let(m,t):=p;show Ld (Ze f rfl (Ld (Xl (UR ?_))) (hz:=by show 2<=UY;decide));show M _ g (cL (m,t)) rfl λa o j B e=>(b5 _ _ (da B)).trans (y a o (by simpa using j) e)
 | @cons n t ajA af7 hr ih=>
  intro i h N b c u hi it li T M;let Ye:i<vs.toArray.size:=by let:=dt Yf u;rw[US,V8,U4]at this;rw[U3];ext
  let O:vs[i]?=cL (.int n t):=by rw[u,Vn (by rw[V8];ext),V8,adL hi,aft];rfl
  let G:vs=vs.take (i+1)++ajA:=by rw[acx,O];rw[Vy];show u
  let H:i+1<=vs.length:=by rw[U3]at Ye;show Ye
  show Xw F.entry_max_loop ?_;rw[Vq.under_plainId F.plain_max_loop _];show Ld (V7 T rfl ?_);show Ld (Zy (W.item i _ _ _ Ye #[it,li] λv x g hP L y=>?_));let ev:v=.int n t:=by let U:=hP;rw[List.getElem?_toArray,O]at U;show(Vd U).symm
  subst ev;let f:=y S _ (by simpa using r) T;let K:(toString "max"++toString ".loop":String)= "max.loop":=by decide
  cases b with
  |none=>
   show wpAny _ A.in1 (updateSeq S (λ_=> #v[UI.int n t,UI.int n t])>>=_) _ _ _;show Ld (Ze f rfl ?_);rw[K];show UR #[Xf F.plain_max_loop _,ih (i+1) _ g (cL (n,t)) _ G H (L.1.at λo e=>?_) (L.2.at λo e=>?_) (b7 _ f rfl) λB q X e2 k2=>M B q X e2 λa o j J e=>k2 a o j J ((b5 _ _ (da J)).trans (y a o (by simpa using j) e))]
   .show(b5 _ _ r).trans e
   .show(b5 _ _ Q).trans e
  |some p=>
   let(m,t0):=p;show wpAny _ A.in1 (tryCatch (holding [UI.int n t,UI.int n t] (richCompare .Gt (UI.int n t) (UI.int m t0)>>=_)) _>>=_) _ _ _;let aiW:=CmpOf.ints_gt (prog:=prog) (w:=w) (A:=A.in1) (P:=λ(k:Nat) v=>(k=0/\v=UI.int n t)\/(k=1/\v=UI.int m t0)) (λk=>if k=0 then n else m) λk v u=>by
    rcases u with⟨rfl,rfl⟩|⟨rfl,rfl⟩
    .show#[t,rfl]
    .show#[t0,rfl]
   show Ld (Zy (Wj (Ld (aiW 0 1 _ _ _ _ _ (.inl #[rfl,rfl]) (.inr #[rfl,rfl]) ?_))));show Ld (Wj (Wk ?_));show Ld (Xl (UR ?_));show wpAny _ A.in1 (if decide (n>m)=UJ then _ else _) _ _ _;by_cases Y:n>m
   .rw[ax (a4 Y)]
    show Ld (Ze f rfl (Ld (Xl ?_)) (hz:=by show 2<=UY;decide));rw[K];show UR #[Xf F.plain_max_loop _,ih (i+1) _ g (cL (n,t)) _ G H (L.1.at λo e=>?_) (L.2.at λo e=>?_) (b7 _ f rfl) λB q X e2 k2=>M B q X ?_ λa o j J e=>k2 a o j J ((b5 _ _ (da J)).trans (y a o (by simpa using j) e))]
    .show(b5 _ _ r).trans e
    .show(b5 _ _ Q).trans e
    .rw[e2];show _=af7.foldl jx (cL (if n>m then n else m));rw[ax Y];rfl
   .rw[a3 (by rw[a5 Y];show Ve)];show Ld (Xl ?_);rw[K];show UR #[Xf F.plain_max_loop _,ih (i+1) _ g (cL (m,t0)) c G H L.1 L.2 f λB q X e2 k2=>M B q X ?_ λa o j J e=>k2 a o j J (y a o (by simpa using j) e)];rw[e2];show _=af7.foldl jx (cL (if n>m then n else m));rw[a3 Y];rfl
def BE(n:A.handled=P)(g:s.heap.IsList l vs.toArray)(r:IntsAre vs ns)
  (q:∀c k b,b.map (·.1)=ns.foldl jx P->(∀a o,s.heap.get? a=M o->c.get? a=M o)->Q (K4 d b) {s with heap:=c,toks:=k}):
  wpAny (model prog w) A (call (.builtin "max") [.ref l] [("default",d)]) Q E s:=by
 let j:l<s.heap.objs.size:=by let(_,e,_):=g;show b3 e
 let h:(toString "max"++toString ".loop":String)= "max.loop":=by decide
 show Y3 (X3 F.plain_max F.entry_max (aaH (F.args_maxd _ _) ?_));show Ld (aaH (show Builtin.Builtins.bindParams "max" ["key","default"] 0 #[[],[("default",d)]]=pure [P,M d]from rfl) ?_);show Ld (UR ?_);show Ld (Yc g ?_);show Ld (V0 ?_);rw[h];let f:(s.heap.push {cls:=.type "list_iterator",data:=.fields #v[.ref l,.int 0 0]}).objs.size=s.heap.objs.size+1:=cc _ _;show UR #[Xf F.plain_max_loop _,Gv n (Vg j) (by rw[f];show Nat.succ_ne_self _) (by rw[f];show VW (Yn j)) r 0 _ s.toks P 0 W (Vu _) #[_,bt _ (b4 _ W),W,W] ((g.push _).push _) (b4 _ W) λc k b p m=>?_];show q c k b p λa o e=>?_;let i:=b3 e;show m a o (Vg i) (by rw[f];show Vg (Yn i)) (bt _ (bt _ e))
end
end PySem
namespace L10
open PySem PySem.Spec PyProof.Rows L2 L3
def La(K:CL)(i:Int):G V->Hp->VK->Prop:=λxs H Q=>∃(p:J) (a:G Int),xs=[.ref p]/\Yk K H p (a.map V.int)/\Q (.int ((a.foldl jx P).getD i)) H
def IR(E:X.calm=S)(C:Gl X "max")(hm:X.mg "max"=lD)(c:PA X [l] ta)(g:LY l=R:=by rfl):
  PE X (.Call (.Name "max" p) [l] [#[cL "default",.Constant (.int i) j p1,p2]] pos) (Fu (La X.K i) ta):=by
 intro e s n H Q I h;show WK (kh I C hm K1 (callWith_kw (bP (c pos e s n H _ I h) λJ o #[Y,G,f,v,w]=>?_) (by rw[rQ _ _ _ g];rfl) (by rw[rQ _ _ _ g];rfl) W W));let(a,y,rfl,A,q):=w;let(u,rfl,r):=ju v;ext r;let(O,T,pl,M):=f.list A;show agr (ad5 (ags ?_));let P:=f.tok (o.toks+1);show BE (f.ok.hd E) pl.isList (ku T) λN L b F B=>?_;show#[.int ((y.foldl jx lD).getD i),G,f.kept B,?_,q];rw[<-F];cases b with
 |none=>show#[_,W]
 |some p=>let(m,t):=p;show#[t,W]
def zz(i:Int):G D->I RV
 |[.list ds]=>(mj ds).map λa=>.fz (.int ((a.foldl jx P).getD i))
 |_=>P
def IL{K:CL}:zX K (La K i) (zz i):=by
 intro O H xs ds p Q n f e q;unfold zz at e;split at e
 .rename_i es
  cases f with
  |cons l j=>
   ext j;cases m:mj es with
   |none=>rw[m]at e;ext e
   |some b=>rw[m]at e;ext e;let(a,o,rfl,h,g):=Bi l;obtain rfl:=nr g m;show#[a,b,W,h.sq,q.at (.int _)]
 .ext e
end L10
namespace L10
open PySem L2 L3
section
variable{B O O':bC}{K:CL}{E:XK}{H H' H1 H2:Hp}{X Y U α2:bb UP}{ω Z ω1 ω2:aH}{σ:L2.St}{ρ:aQ}{v:V}
def gp{l r:G A}(h:(l++r)[i]?=M y):l[i]?=M y\/∃j,i=l.length+j/\r[j]?=M y:=by
 by_cases hi:i<l.length
 .rw[U1 hi]at h;show .inl h
 .rw[Vn ()]at h;show .inr #[i - l.length,by ext,h]
def Hv{l r:G A}{i:Nat}(h:l[i]?=M y):(l++r)[i]?=M y:=by rw[U1 (UO.mp h).1];show h
def Cc{l r:G A}(h:r[i]?=M y):(l++r)[l.length+i]?=M y:=by rw[Vn (),Xu];show h
def Ek(g:X.length=ω.length)(h:Lv (X++o) (ω++cs) b):Lv X ω b\/b∈o:=by
 let(i,d,f,e,a):=h;rcases gp f with g1|⟨j,e1,g1⟩
 .rcases gp e with g2|⟨k,e2,g2⟩
  .show .inl #[i,d,g1,g2,a]
  .let:=(UO.mp g1).1;ext
 .show .inr (Vr g1)
theorem WA.aaz(s:Vt B K H X ω)(e:Wt H H')(f:∀p∈ps,H p=P):WA X ω H (X++ps) (ω++cs) H':=
 #[λi a h=>Hv h,λb u q _=>e b u q,λb z=>(Ek s.len z).imp id λz=>f b z]
def Vt.aaz(s:Vt B K H X ω)(e:Wt H H')(f:∀p∈ps,H p=P)(m:∀p∈ps,H' p≠P)(nd:∀(i j:Nat) (a:J),ps[i]?=M a->ps[j]?=M a->i=j)(t:ps.length=cs.length)
  (new:∀(i:Nat) (a:J) (c:Cell),ps[i]?=M a->cs[i]?=M c->COk (ow B (X++ps) (ω++cs)) K H' (X++ps) a c):Vt B K H' (X++ps) (ω++cs):=by
 let ev:WA X ω H (X++ps) (ω++cs) H':=WA.aaz s e f;let n:∀b,H b≠P->H' b≠P:=λb h z=>h (e.free z);show#[by rw[US,US,s.len,t],λi j a g l=>?_,λa h=>n a (s.bn a h),λa h i q=>?_,λi a h=>?_,λi a d g l=>?_]
 .rcases gp g with g1|⟨y,e1,g1⟩<;>rcases gp l with g2|⟨u,e2,g2⟩
  .show s.nd i j a g1 g2
  .show a7 (f a (Vr g2)) (s.al i a g1)
  .show a7 (f a (Vr g1)) (s.al j a g2)
  .let:=nd y u a g1 g2;ext
 .rcases gp q with q|⟨j,_,q⟩
  .show s.ba a h i q
  .show s.bn a h (f a (Vr q))
 .rcases gp h with h|⟨j,_,h⟩
  .show n a (s.al i a h)
  .show m a (Vr h)
 .let r:=s.len
  rcases gp l with g2|⟨j,e2,g2⟩
  .rcases gp g with g1|⟨k,e1,g1⟩
   .show(s.cel i a d g1 g2).ev ev.ev ev.pre λo q=>e _ _ q
   .let:=(UO.mp g2).1;ext
  .rcases gp g with g1|⟨k,e1,g1⟩
   .let:=(UO.mp g1).1;ext
   .let:k=j:=by ext
    subst this;show new k a d g1 g2
def BO(Z:aH):Nat->G AV->I (G AV×G (G D)×G Nat)
 |_,[]=>M ([],[],[])
 |n,.fz d::r=>match BO Z n r with
  |some (l,cs,a)=>M (.fz d::l,cs,a)
  |none=>P
 |n,.rf i::r=>match sh Z (.rf i)with
  |some (.list ds)=>(match BO Z (n+1) r with
   |some (l,cs,a)=>M (.rf n::l,ds::cs,i::a)
   |none=>P)
  |_=>P
def Ss(ds:G D):Cell:=.lst (ds.map .fz)
def nF(x:SV)(Z ω:aH):RS SV:=match x with
 |.fz d=>.ok (.fz d) ω
 |.rf i=>(match sh Z (.rf i)with
  |some (.list ds)=>j8 ω (.ow ds)
  |_=>.bad)
 |.tp l=>(match BO Z ω.length l with
  |some (a,cs,b)=>if b.Nodup then .ok (.tp a) (ω++cs.map Ss)else .bad
  |none=>.bad)
def tD(h:sh ω (.rf i)=M (.list ds)):∃xs,ω[i]?=M (.lst xs)/\aF uY xs=M ds:=by
 unfold sh at h;dsimp only at h;cases q:ω[i]? with
 |none=>rw[q]at h;ext h
 |some c=>
  rw[q]at h;cases c with
  |lst xs=>
   dsimp only at h;cases a:aF uY xs with
   |none=>rw[a]at h;ext h
   |some es=>rw[a]at h;ext h;show#[xs,W,a]
  |_=>ext h
def kz(s:Vt B K H X ω)(h:sh ω (.rf i)=M (.list ds)):∃a c,X[i]?=M a/\H a=M (.lst c)/\L3.Wo (ow B X ω) K H c ds/\ow B X ω a:=by let(xs,b,f):=tD h;let(a,l):=s.at b;let(c,j,g):=s.cel i a _ l b;show#[a,c,l,j,kg (cR (R:=Xv (ow B X ω) K H X) (λv x y r e=>xz r e) g f),.inr #[i,_,l,b,by intro z;ext z]]
def RU{o:bC}(s:Vt o K H' Y Z):∀{n:Nat} {l u:bb AV} {cs:bb (bb D)} {g:bb Nat} {xs:bb V},BO Z n l=cL (u,cs,g)->Paired (AOk (ow o Y Z) K H' Y) xs l->
  ∃c:bb UP,c.length=g.length/\cs.length=g.length/\(∀(k j:Nat),g[k]?=cL j->∃a ds z,c[k]?=cL a/\cs[k]?=cL ds/\Y[j]?=cL a/\H' a=cL (.lst z)/\L3.Wo (ow o Y Z) K H' z ds/\ow o Y Z a)/\
   ∀(b:bb UP),b.length=n->Paired (AOk (ow o Y Z) K H' (b++c)) xs u:=by
 intro n l u cs g xs e p
 induction p generalizing n u cs g with
 |nil=>ext e;show#[[],W,W,λk j h=>by simp at h,λb _=>.nil]
 | @cons _ x _ r h t T=>
  cases x with
  |fz d=>
   unfold BO at e;cases q:BO Z n r with
   |none=>rw[q]at e;ext e
   |some p=>let(J,G,w):=p;rw[q]at e;ext e;let(c,F,C,A,y):=T q;show#[c,F,C,A,λb f=>.cons h (y b f)]
  |rf i=>
   unfold BO at e;cases Q:sh Z (.rf i)with
   |none=>rw[Q]at e;ext e
   |some d=>
    rw[Q]at e;cases d with
    |list ds=>
     dsimp only at e;cases q:BO Z (n+1) r with
     |none=>rw[q]at e;ext e
     |some p=>
      let(J,G,w):=p;rw[q]at e;ext e;let(c,F,C,A,y):=T q;let(a,z,ha,L,N,M):=kz s Q;show#[a::c,by rw[U4,U4,F],by rw[U4,U4,C],λk j I=>?_,λb f=>?_]
      .cases k with
       |zero=>ext I;show#[a,ds,z,W,W,ha,L,N,M]
       |succ k=>show A k j (by simpa using I)
      .let e2:b++a::c=(b++[a])++c:=by simp
       let(P,m,rfl):=h;rw[ha]at m;ext m;show .cons #[a,by rw[<-f];show Cc (l:=b) (r:=a::c) (i:=0) W,W] ?_;rw[e2];show y (b++[a]) (by rw[US,f];rfl)
    |_=>ext e
def Bm(s:Vt B K H X ω)(w:WS K E B H X ω (PQ B K Q) (nF x Z ω))(D:WA [] [] H Y Z H')(G:Vt (ow B X ω) K H' Y Z)(J:Xv (ow (ow B X ω) Y Z) K H' Y v x):Q v H':=by
 let C:=λb o h=>D.kp b o h λ#[i,c,q,_]=>by simp at q
 let sub:∀b,ow B X ω b->ow (ow B X ω) Y Z b:=λb z=>.inl z;let fr:=λi a c R h2 h3=>(D.lv a #[i,c,R,h2,h3]).elim (λ#[i,c,q,_]=>by simp at q) id;cases x with
 |fz d=>show w X H' (WA.same C) (s.grow C) v (DV.ev (Ev.sub sub) J)
 |rf i=>
  unfold nF at w;dsimp only at w;cases qs:sh Z (.rf i)with
  |none=>rw[qs]at w;show w.elim
  |some d=>
   rw[qs]at w;cases d with
   |list ds=>let(a,vs,ha,R,hd,M):=kz G qs;let(xs,e,_):=tD qs;let(a',F,rfl):=J;rw[ha]at F;ext F;show oP s w C (fr i a _ ha e (by nofun)) R hd sub M
   |_=>show w.elim
 |tp l=>
  unfold nF at w;dsimp only at w;cases qg:BO Z ω.length l with
  |none=>rw[qg]at w;show w.elim
  |some p=>
   let(l',cs,I):=p;rw[qg]at w;dsimp only at w;by_cases hn:I.Nodup
   .rw[ax hn]at w
    let(a,xs,rfl,ht,hl):=J;let(ps,g1,g2,g3,g4):=RU G qg hl;let A:∀(k:Nat) (b:UP),ps[k]?=cL b->∃j ds vs,I[k]?=cL j/\cs[k]?=cL ds/\Y[j]?=cL b/\H' b=cL (.lst vs)/\L3.Wo (ow (ow B X ω) Y Z) K H' vs ds/\ow (ow B X ω) Y Z b:=λk b hb=>by
     let f:k<I.length:=by rw[<-g1];show(UO.mp hb).1
     let(b',ds,vs,e,y,u,m,t,g):=g3 k _ (U6 f);rw[hb]at e;ext e;show#[_,ds,vs,U6 f,y,u,m,t,g]
    let nB:∀(j:Nat) (b:UP),Y[j]?=cL b->ow (ow B X ω) Y Z b->H b=lD:=λj b N M=>by
     rcases M with z|⟨i,c,z1,z2,z3⟩
     .show a7 N (G.ba b z j)
     .show fr i b c z1 z2 z3
    let fp:∀p∈ps,H p=lD:=λp L=>by let(k,f):=Wl.mp L;let(j,ds,vs,e,y,u,m,t,g):=A k p f;show nB j p u g
    let n:∀b,ow B (X++ps) (ω++cs.map Ss) b->ow (ow B X ω) Y Z b:=λb z=>by
     rcases z with z|z
     .show .inl (.inl z)
     .rcases Ek s.len z with z|z
      .show .inl (.inr z)
      .let(k,f):=Wl.mp z;let(j,ds,vs,e,y,u,m,t,g):=A k b f;show g
    let ev:=WA.aaz (cs:=cs.map Ss) s C fp;show w (X++ps) H' ev (s.aaz C fp (λp L=>?_) (λi j b hi N=>?_) (by rw[UK,g1,g2]) λi b c hi T=>?_) (.ref a) #[a,xs,W,ht.ev (Ev.sub n),Paired.Yb (g4 X s.len) λ_ _ r=>r.ev (Ev.sub n) λ_ _ h=>h]
    .let(k,f):=Wl.mp L;let(j,ds,vs,e,y,u,m,t,g):=A k p f;rw[m];simp
    .let(j1,_,_,S,_,p3,_):=A i b hi;let(j2,_,_,r1,_,r3,_):=A j b N;let:=G.nd j1 j2 b p3 r3;subst this;let P:=(UO.mp S).1;show(acy P hn).mp (S.trans r1.symm)
    .let(j,ds,vs,e,y,u,m,t,g):=A i b hi;rw[UZ,y]at T;ext T;show#[vs,m,jr _ _ (t.ev (Ev.sub n))]
   .rw[a3 hn]at w;show w.elim
def rK(F:fT)(n:Nat)(xs:G SV)(ω:aH):RS SV:=if xs.length=n then(match aF uY xs with
 |some ds=>(match F (ds.map .fz) []with
  |.ok x Z=>nF x Z ω
  |.er x _=>.er x ω
  |.bad=>.bad)
 |none=>.bad)else .bad
def pp(F:fT)(n:Nat)(a:uU):dj:=λρ ω=>(a ρ ω).bind λxs ω1=>j7 (rK F n xs ω1)
theorem FQ(h:∀a,B a->H a≠P):Vt B K H [] []:=#[W,λi j a h=>by simp at h,h,λa h i=>by simp,λi a h=>by simp at h,λi a c h=>by simp at h]
theorem yj:∀{xs:G SV} {ds:G D},aF uY xs=M ds->xs=ds.map .fz
 |[],_,e=>by ext e;rfl
 |x::r,ds,e=>by
  unfold aF at e;cases x with
  |fz d=>
   dsimp only[uY]at e;cases q:aF uY r with
   |none=>rw[q]at e;ext e
   |some es=>rw[q]at e;ext e;rw[U5,<-yj q]
  |rf i=>ext e
  |tp l=>ext e
def Dq(s:Vt B K H X ω)(e:Xi (ow B X ω) K H X C xs)(w:WS K E B H X ω (PQ B K Q) (rK F n xs ω)):kA K n F C H Q E:=by
 unfold rK at w;by_cases hn:xs.length=n
 .rw[ax hn]at w
  show#[e.length.trans hn,?_];cases q:aF uY xs with
  |none=>rw[q]at w;show w.elim
  |some ds=>
   rw[q]at w;dsimp only at w;let l:=yj q;show#[ow B X ω,[],[],ds.map .fz,FQ s.owd,?_,?_]
   .rw[l]at e;show jr _ _ ((Cy e).ev (Ev.sub λb z=>z.elim id λ#[i,c,q,_]=>by simp at q))
   .cases m:F (ds.map .fz) []with
    |bad=>rw[m]at w;show w.elim
    |ok x Z=>rw[m]at w;show λY H' f j v a=>Bm s w f j a
    |er x Z=>
     rw[m]at w;intro c p Y H' f j k;let g:=λb o h=>f.kp b o h λ#[i,c,q,_]=>by simp at q
     show w c p X H' (WA.same g) (s.grow g) (XOk.sub (λb z=>.inl z) k)
 .rw[a3 hn]at w;show w.elim
def A1(c:tP K E o C):cB K E (lg (kA K n F) [] E0 o) (pp F n C):=by intro B σ H X ω ρ Q s b w;show c B σ H X ω ρ _ s b (w.bind.imp λxs U ω1 H1 e1 e a g f=>?_);rw[VR];show Dq e f (WS.e0 a)
def Re(F:fT):FN:=λds=>match F (ds.map .fz) []with
 |.ok (.fz d) _=>.ok (.fz d)
 |.ok (.rf i) ω=>(match sh ω (.rf i)with
  |some (.list ds)=>.ok (.ow ds)
  |_=>.bad)
 |.ok (.tp _) _=>.bad
 |.er x _=>.er x
 |.bad=>.bad
def OI(h:AL K n (Re F) vs H Q E):kA K n F vs H Q E:=by
 let(u,B,ds,A,G,w):=h;show#[u,B,[],[],ds.map .fz,FQ A,jr _ _ (G.ev (Ev.sub λb z=>z.elim id λ#[i,c,q,_]=>by simp at q)),?_];unfold Re at w;cases N:F (ds.map .fz) []with
 |bad=>rw[N]at w;show w.elim
 |er x Z=>rw[N]at w;intro c dx Y H' f j k;show w c dx H' (λb o h=>f.kp b o h λ#[i,c,q,_]=>by simp at q) (XOk.sub (λb z=>.inl z) k)
 |ok x Z=>
  rw[N]at w;intro Y H' f j v m;let g:=λb o h=>f.kp b o h λ#[i,c,q,_]=>by simp at q
  cases x with
  |fz d=>show w v H' g (DV.ev (Ev.sub λb z=>.inl z) m)
  |tp l=>show w.elim
  |rf i=>
   dsimp only at w;cases L:sh Z (.rf i)with
   |none=>rw[L]at w;show w.elim
   |some d=>
    rw[L]at w;cases d with
    |list es=>let(a,p,T,C,y,t):=kz j L;let(xs,r,_):=tD L;let(I,e,rfl):=m;rw[T]at e;ext e;show w a p H' g ((f.lv a #[i,_,T,r,by intro z;ext z]).elim (λ#[i,c,q,_]=>by simp at q) id) C (y.ev (Ev.sub λb z=>z.elim (λz=>.inl z) λz=>by rw[z];show t))
    |_=>show w.elim
end
def lL(P:Vc)(w:Vw)(K:CL)(c:Str->I U)(base:Heap)(a:tE)(k:Nat)(C m:Str)(b:G Str)(sp:Sp):Prop:=
 ∃Ca f fd,Vj K U9 C=M (M (.ref Ca))/\Cls K Ca/\Meth K Ca m f/\FnOk P w K c base a k f fd b sp/\Binds K fd b []
def vI(P:Vc)(w:Vw)(K:CL)(c:Str->I U)(base:Heap)(a:tE)(k:Nat)(C:Str)(b:G Str)(sp:Sp):Prop:=
 ∃Ca f fd,Vj K U9 C=M (M (.ref Ca))/\c C=M (.ref Ca)/\Mk K Ca f/\FnOk P w K c base a k f fd b sp/\Binds K fd b []
def lV(K:CL)(C m:Str)(sp:Sp)(E:XK)(b:TE)(t:TA):TE:=λa H Q=>∃Ca,Vj K U9 C=M (M (.ref Ca))/\rE Ca m sp [] E b t a H Q
def wI(K:CL)(C:Str)(sp:Sp)(E:XK)(t:TA):TE:=λa H Q=>∃Ca,Vj K U9 C=M (M (.ref Ca))/\uX Ca sp [] E t a H Q
section
variable{X:Cx}{Y:tE}{E:XK}{k j:Nat}{C m:Str}{ps:bb Str}{sp:Sp}{o e:Va}{es:bb Va}{U:TE}{t:TA}{Z T p:Pos}
def QR(M:lL X.prog X.w X.K X.mg X.base Y k C m ps sp)(l:d9 Y X E)(q:WC j X.A)(r:PE X o U)(c:PA X (e::es) t)(b:k<=j:=by decide)
  (dG:U7 (e::es) X.env=(R,eval e X.env)::U7 es X.env:=by rfl) (G:(backTo T (U7 es X.env)).any (·.1)=R:=by rfl)
  (n:eval (.Call (.Attribute o m Z) (e::es) [] T) X.env=(do
   let ov<-eval o X.env
   standAt Z.atName
   let(f,first)<-holding [ov] (getMethod ov m pl)
   callWith T f first (backTo T (U7 (e::es) X.env)) (backToKw T (keywordEach [] X.env))):=by rfl):PE X (.Call (.Attribute o m Z) (e::es) [] T) (lV X.K C m sp E U t):=by
 let(Ca,f,J,F,B,y,v,u):=M;intro a s i H Q I #[L,g,h];rw[F]at g;ext g;show IY r B y v (q.mono b) u .nil l c dG G n a s i H Q I h
def M7(M:lL X.prog X.w X.K X.mg X.base Y k C m ps sp)(l:d9 Y X E)(q:WC j X.A)(r:PE X o U)(b:k<=j:=by decide)
  (n:eval (.Call (.Attribute o m Z) [] [] T) X.env=(do
   let ov<-eval o X.env
   standAt Z.atName
   let(f,first)<-holding [ov] (getMethod ov m pl)
   callWith T f first (backTo T (U7 [] X.env)) (backToKw T (keywordEach [] X.env))):=by rfl):PE X (.Call (.Attribute o m Z) [] [] T) (lV X.K C m sp E U jU):=by
 let(Ca,f,G,F,B,y,v,u):=M;intro a s i H Q I #[A,g,h];rw[F]at g;ext g;show B6 r B y v (q.mono b) u .nil l n a s i H Q I h
def LG(M:vI X.prog X.w X.K X.mg X.base Y k C ps sp)(n:d9 Y X E)(q:WC j X.A)(c:PA X (e::es) t)(b:k+1<=j:=by decide)(r:Gl X C:=by rfl)
  (g:(C==("__debug__":Str))=R:=by decide) (u:U7 (e::es) X.env=(R,eval e X.env)::U7 es X.env:=by rfl) (J:(backTo T (U7 es X.env)).any (·.1)=R:=by rfl):
  PE X (.Call (.Name C p) (e::es) [] T) (wI X.K C sp E t):=by
 let(Ca,f,L,G,F,B,y,v):=M;intro a s l H Q I #[N,i,h];rw[G]at i;ext i;show G8 B y (q.mono b) r F v .nil n c g u J a s l H Q I h
end
section
variable{K:CL}{E:XK}{C m:Str}{F:fT}{n:Nat}{to:TE}{Z:TA}{X:dj}{Y:uU}{L:bb Str}
def Pi(a:jT K C L)(f:cB K E to X)(c:tP K E Z Y):cB K E (lV K C m (kA K n F) E to Z) (mF C m F n X Y):=by let(Ca,a,_):=a;show λB b H α g h Q s e w=>#[Ca,a,Ft a f c B b H α g h Q s e w]
def yP(a:jT K C L)(f:cB K E to X)(c:tP K E Z Y):cB K E (lV K C m (kA K n F) E0 to Z) (aG C m F n X Y):=by let(Ca,a,_):=a;show λB b H α g h Q s e w=>#[Ca,a,BH a f c B b H α g h Q s e w]
def OJ(a:jT K C L)(c:tP K E Z Y):cB K E (wI K C (kA K n F) E Z) (AC C F n Y):=by let(Ca,a,_):=a;show λB b H α f g Q s e w=>#[Ca,a,GQ a c B b H α f g Q s e w]
def Ik(a:jT K C L)(c:tP K E Z Y):cB K E (wI K C (kA K n F) E0 Z) (qk C F n Y):=by let(Ca,a,_):=a;show λB b H α f g Q s e w=>#[Ca,a,E4 a c B b H α f g Q s e w]
end
section
variable{ρ ρ1 Q:aQ}{ω X Z T L:aH}{x y z:SV}{i n:Nat}{d dx Y:D}{ds:bb D}{b:Bool}
def bF(h:ρ[i]?=M (M x)):ar i ρ ω=.ok x ω:=by ext ar;rw[h]
def ah(h:f (bQ ρ)=.ok (.fz d,ρ')):ag f ρ ω=.ok (.fz d) ω:=by ext ag;rw[h]
def dH(h:f (bQ ρ)=.ok (.ow ds,ρ')):ag f ρ ω=.ok (.rf ω.length) (ω++[.lst (ds.map .fz)]):=by ext ag;rw[h];rfl
def aX(h:f (bQ ρ)=.ok (b,o)):bh f ρ ω=.ok b ω:=by ext bh;rw[h]
def nZ(h:f (bQ ρ)=.ok (ds,o)):kZ f ρ ω=.ok ds ω:=by ext kZ;rw[h]
def gI(g:e ρ ω=.ok (.rf i) X)(h:X[i]?=M (.obj C fs))(a:fs.lookup f=M x):aP C f e ρ ω=.ok x X:=by ext aP;rw[g,d0];dsimp only;rw[h];dsimp only;rw[ax W,a];rfl
def df(c:o ρ ω=.ok x X)(e:fb ρ X=.ok y Z)(a:pV f x y Z=.ok z T):kI f o fb ρ ω=.ok z T:=by ext kI;rw[c,d0,e,d0,a]
def b8(h:f dx Y=M (.fz d)):pV f (.fz dx) (.fz Y) ω=.ok (.fz d) ω:=by ext pV;show((RS.VO ω (f dx Y)).bind λa X=>j8 X a)=_;rw[h];rfl
def sP(e:sh ω x=M dx)(a:sh ω y=M Y)(h:f dx Y=M (.fz d)):pV f x y ω=.ok (.fz d) ω:=by ext pV;rw[e,a];show((RS.VO ω (f dx Y)).bind λg X=>j8 X g)=_;rw[h];rfl
theorem kK:∀ds:G D,aF uY (ds.map .fz)=M ds
 |[]=>rfl
 |d::r=>by rw[U5];ext aF;rw[kK r];rfl
def hW(h:ω[i]?=M (.lst (ds.map .fz))):sh ω (.rf i)=M (.list ds):=by ext sh;dsimp only;rw[h];dsimp only;rw[kK];rfl
def aN(h:o ρ ω=.ok (.fz (.bool b)) X):a9 o ρ ω=.ok b X:=by ext a9;rw[h];rfl
def fA(h:o ρ ω=.ok S X)(k:fb ρ X=r):jW o fb ρ ω=r:=by ext jW;rw[h,d0,ax W,k]
def fD(h:o ρ ω=.ok R X):jW o fb ρ ω=.ok R X:=by ext jW;rw[h,d0,a3 Ve]
def oO(h:o ρ ω=.ok S X):BN o fb ρ ω=.ok S X:=by ext BN;rw[h,d0,ax W]
def lC(h:o ρ ω=.ok R X)(k:fb ρ X=r):BN o fb ρ ω=r:=by ext BN;rw[h,d0,a3 Ve,k]
def nu(h:o ρ ω=.ok b X):qE o ρ ω=.ok (!b) X:=by ext qE;rw[h];rfl
def AJ(h:a9 o ρ ω=.ok S X)(k:fb ρ X=r):wR o fb ρ ω=r:=by ext wR;rw[h,d0,ax W,k]
def AH(h:a9 o ρ ω=.ok R X):wR o fb ρ ω=.ok (.fz (.bool R)) X:=by ext wR;rw[h,d0,a3 Ve]
def HA(h:c ρ ω=.ok S X)(k:o ρ X=r):KI c o fb ρ ω=r:=by ext KI;rw[h,d0,ax W,k]
def Il(h:c ρ ω=.ok R X)(k:fb ρ X=r):KI c o fb ρ ω=r:=by ext KI;rw[h,d0,a3 Ve,k]
theorem aI:aK ρ ω=.ok [] ω:=W
def aq(c:o ρ ω=.ok x X)(a:fr ρ X=.ok xs Z):aj o fr ρ ω=.ok (x::xs) Z:=by ext aj;rw[c,d0,a,d0]
def sf(c:o ρ ω=.ok (ds.map .fz) X)(a:ds.length<=1000):kR o ρ ω=.ok (.fz (.tuple ds)) X:=by ext kR;rw[c,d0,UK,ax a];ext Sh;rw[kK];rfl
def QF(c:o ρ ω=.ok xs X)(a:xs.length<=1000)(f:aF uY xs=P)(e:aF Sv xs=M l):kR o ρ ω=.ok (.tp l) X:=by ext kR;rw[c,d0,ax a];ext Sh;rw[f];dsimp only;rw[e];rfl
def Dx(c:o ρ ω=.ok xs X)(a:aF (sh X) xs=M ds)(h:f ds=M (.fz d)):Gp f o ρ ω=.ok (.fz d) X:=by ext Gp;rw[c,d0];ext Mz;rw[a];show((RS.VO X (f ds)).bind λe X=>j8 X e)=_;rw[h];rfl
def yc(e:o ρ ω=.ok (ds.map .fz) X)(c:ds.length=n)(a:F ds=.ok (.fz d)):g8 F n o ρ ω=.ok (.fz d) X:=by ext g8;rw[e,d0];ext v5;rw[UK,ax c,kK];dsimp only;rw[a];rfl
def sd(e:o ρ ω=.ok (ds.map .fz) X)(c:ds.length=n)(a:F ds=.ok (.ow es)):g8 F n o ρ ω=.ok (.rf X.length) (X++[.lst (es.map .fz)]):=by ext g8;rw[e,d0];ext v5;rw[UK,ax c,kK];dsimp only;rw[a];rfl
theorem vG:j7 (RS.ok a ω)=.ok a ω:=W
def Af(e:o ρ ω=.ok (.rf i) X)(f:X[i]?=M (.obj C fs))(hm:fs.lookup m=P)(h:fa ρ X=.ok xs Z)(c:(SV.rf i::xs).length=n)(g:F (.rf i::xs) Z=.ok x T):aG C m F n o fa ρ ω=.ok x T:=by
 let a:j3 X C m (.rf i)=S:=by ext j3;dsimp only;rw[f];dsimp only;rw[hm,a4 W];rfl
 ext aG;rw[e,d0,ax a,h,d0,ax c,g];rfl
def OM(e:o ρ ω=.ok xs X)(c:(SV.rf X.length::xs).length=n)(a:F (.rf X.length::xs) (X++[.obj C []])=.ok (.fz .none) Z):qk C F n o ρ ω=.ok (.rf X.length) Z:=by ext qk;rw[e,d0];ext rn;rw[ax c,a,d0,ax (show Bb (.fz .none)=S from rfl)];rfl
def cN(c:o ρ ω=.ok (.fz dx) X)(a:fb ρ X=.ok (.fz Y) Z)(h:aR dx Y=M (.fz d)):i7 o fb ρ ω=.ok (.fz d) Z:=by ext i7;rw[c,d0,a,d0];show b8 h
def sS(a:fo ρ ω=.ok (.rf i) X)(h:X[i]?=M (.lst xs))(f:fe ρ X=.ok x Z)(g:Z[i]?=M (.lst ys))(e:ys.length<1000000):pz fo fe ρ ω=.ok (.fz .none) (Z.set i (.lst (ys++[x]))):=by
 let e1:gB X (.rf i)=M (i,xs):=by ext gB;dsimp only;rw[h]
 let e2:gB Z (.rf i)=M (i,ys):=by ext gB;dsimp only;rw[g]
 ext pz;rw[a,d0,e1];show((fe ρ X).bind _)=_;rw[f,d0,e2];show(if ys.length<1000000 then _ else _)=_;rw[ax e]
def kj(h:ω[i]?=M (.Zo o)):gz ω (.rf i)=M (i,o):=by ext gz;dsimp only;rw[h]
def wG(a:o ρ ω=.ok x X)(hd:fd ρ X=.ok (.rf i) Z)(f:qv x=M k)(e:Z[i]?=M (.Zo C)):qO neg o fd ρ ω=.ok (.fz (.bool ((iJ C k).isSome !=neg))) Z:=by ext qO;rw[a,d0,hd,d0,f];show((RS.VO Z (gz Z (.rf i))).bind _)=_;rw[kj e];rfl
def IW(hd:fd ρ ω=.ok (.rf i) X)(a:C ρ X=.ok x Z)(g:qv x=M k)(f:Z[i]?=M (.Zo o))(e:iJ o k=M y):pS fd C ρ ω=.ok y Z:=by ext pS;rw[hd,d0,a,d0,g];show((RS.VO Z (gz Z (.rf i))).bind _)=_;rw[kj f];show RS.VO Z (iJ o k)=_;rw[e];rfl
def He(a:C ρ ω=.ok y X)(hd:fd ρ X=.ok (.rf i) Z)(f:fk ρ Z=.ok x T)(h:qv x=M k)(g:T[i]?=M (.Zo o))(e:o.length<1000000):qS fd fk C ρ ω=.ok (.nx ρ) (T.set i (.Zo (iW o k y))):=by ext qS;rw[a,d0,hd,d0,f,d0,h];show((RS.VO T (gz T (.rf i))).bind _)=_;rw[kj g];show(if o.length<1000000 then _ else _)=_;rw[ax e]
def Iz(hd:fd ρ ω=.ok (.rf i) X)(h:X[i]?=M (.Zo ah4))(a:C ρ X=.ok x Z)(g:qv x=M k)(f:Z[i]?=M (.Zo o))(e:iJ o k=M y):rh fd C ρ ω=.ok y (Z.set i (.Zo (kG o k))):=by ext rh;rw[hd,d0,kj h];show((C ρ X).bind _)=_;rw[a,d0,g];show((RS.VO Z (gz Z (.rf i))).bind _)=_;rw[kj f];show((RS.VO Z (iJ o k)).bind _)=_;rw[e];rfl
def GU(hd:fd ρ ω=.ok (.rf i) X)(h:X[i]?=M (.Zo o)):vR fd ρ ω=.ok (.rf X.length) (X++[.lst (o.map (·.2))]):=by ext vR;rw[hd,d0,kj h];rfl
def GS(hd:fd ρ ω=.ok (.rf i) X)(h:X[i]?=M (.Zo o))(e:aF xp (o.map (·.1))=M ns)(a:ns.length<64):pN fd ρ ω=.ok (.rf X.length) (X++[.lst ((jw ns).map λi=>SV.fz (.int i))]):=by ext pN;rw[hd,d0,kj h];show((RS.VO X (aF xp (o.map (·.1)))).bind _)=_;rw[e];show(if ns.length<64 then _ else _)=_;rw[ax a]
def Jg(a:C ρ ω=.ok x X)(h:sL x=M o):rP C ρ ω=.ok (.rf X.length) (X++[.Zo (ky [] o)]):=by ext rP;rw[a,d0,h];rfl
variable{B:FlS}{r:RS FlS}
def cg(h:f ρ ω=.ok (.nx ρ1) X)(k:g ρ1 X=r):aD f g ρ ω=r:=by ext aD;rw[h,d0];show k
def mr(h:f ρ ω=.ok (.rt x) X):aD f g ρ ω=.ok (.rt x) X:=by ext aD;rw[h];rfl
def de(h:c ρ ω=.ok S X)(k:f ρ X=r):bV c f g ρ ω=r:=by ext bV;rw[h,d0,ax W,k]
def c9(h:c ρ ω=.ok R X)(k:g ρ X=r):bV c f g ρ ω=r:=by ext bV;rw[h,d0,a3 Ve,k]
def gD(h:f ρ ω=.ok x X):gJ f ρ ω=.ok (.rt x) X:=by ext gJ;rw[h];rfl
def gP(h:f ρ ω=.ok x X):br f ρ ω=.ok (.nx ρ) X:=by ext br;rw[h];rfl
def lP(h:f ρ ω=.ok x X)(e:ρ.set i (M x)=ρ1):bW f (eY i) ρ ω=.ok (.nx ρ1) X:=by subst e;ext bW;rw[h];rfl
theorem dF:bZ ρ ω=.ok (.nx ρ) ω:=W
def l7(h:fe ρ ω=.ok x X)(a:o ρ X=.ok (.rf i) Z)(j:Z[i]?=M (.obj C fs))(g:fs.length<100):eJ C f o fe ρ ω=.ok (.nx ρ) (Z.set i (.obj C (gy f x fs))):=by
 let e:Ga Z C (.rf i)=M (i,fs):=by ext Ga;dsimp only;rw[j];dsimp only;rw[ax W]
 ext eJ;rw[h,d0,a,d0,e];show(if fs.length<100 then _ else _)=_;rw[ax g]
def jd(h:f ρ ω=.ok x X)(k:frz 4 X x=M (d,Z)):jV f ρ ω=.ok (.fz d) Z:=by ext jV;rw[h,d0];ext Pc;rw[k]
def hU(e:xs.map M++UW (N - xs.length) P=ρ)(h:g ρ ω=.ok (.rt x) X):cE N g xs ω=.ok x X:=by subst e;ext cE;rw[h];rfl
def lz(e:xs.map M++UW (N - xs.length) P=ρ)(h:g ρ ω=.ok (.nx ρ1) X):cE N g xs ω=.ok (.fz .none) X:=by subst e;ext cE;rw[h];rfl
end
section
variable{ρ Q B:aQ}{Y X Z A u:aH}{x y z:SV}{i n:Nat}{d t p:D}{ds:bb D}{b:Bool}
theorem lY(e:α->D)(f:α->SV)(Y:aH)(I:aQ->Prop):∀(xs:G α) (ρ:aQ) (acc:G SV),I ρ->acc.length+xs.length<=1000000->(∀x∈xs,∀ρ,I ρ->∃c,gt (.fz (e x)) ρ Y=.ok c Y/\C c Y=.ok S Y/\fe c Y=.ok (f x) Y/\I c)->dJ gt C fe (xs.map e) ρ Y acc=.ok (acc++xs.map f) Y
 |[],ρ,acc,_,_,_=>by show RS.ok acc Y=_;rw[X0,VR]
 |x::r,ρ,acc,h0,o,m=>by let(c,l,j,h,g):=m x UT ρ h0;rw[U4]at o;show((gt (.fz (e x)) ρ Y).bind _)=_;rw[l,d0,j,d0,ax W,h,d0,ax (),lY e f Y I r c _ g (by rw[US,XI];ext) λy a=>m y (UX _ a),Vy];rfl
def zG(c:fi ρ Y=.ok ds X)(a:dJ gt o fe ds (mB n C ρ) X []=.ok xs Z):mz n C fi gt o fe ρ Y=.ok (.rf Z.length) (Z++[.lst xs]):=by ext mz;rw[c,d0,a,vG,d0]
theorem tV(m:Nat):∀(ds:G D),mZ (frz m) Y (ds.map .fz)=M (ds,Y)
 |[]=>rfl
 |d::r=>by rw[U5];ext mZ;rw[show frz m Y (.fz d)=M (d,Y) by ext m<;>rfl];dsimp only;rw[tV m r]
def jC(h:Y[i]?=M (.lst (ds.map .fz))):frz 4 Y (.rf i)=M (.list ds,Y.set i .dead):=by ext frz;rw[h];dsimp only;rw[tV]
def Dr(h:o ρ Y=.ok (.rf i) X)(a:X[i]?=M (.lst (ds.map .fz))):j6 o ρ Y=.ok ds (X.set i .dead):=by ext j6;rw[h,d0,jC a];rfl
def SL(N C:aQ->aH->Prop)(T:SV->aH->Prop):RS FlS->Prop
 |.ok (.nx ρ) Y=>N ρ Y
 |.ok (.ct ρ) Y=>C ρ Y
 |.ok (.rt v) Y=>T v Y
 |_=>False
structure X2(r:RS FlS)(N C:aQ->aH->Prop)(T:SV->aH->Prop):Prop where
 out:SL N C T r
variable{f g:dU}{L:dj}{N C:aQ->aH->Prop}{T:SV->aH->Prop}
def X2.eq(e:r=r')(h:X2 r' N C T):X2 r N C T:=by rw[e];show h
def pL(h:X2 (f ρ Y) (λr o=>X2 (g r o) N C T) C T):X2 (aD f g ρ Y) N C T:=by
 show#[?_];let h:=h.out;ext aD;cases q:f ρ Y with
 |bad=>rw[q]at h;show h.elim
 |er x o=>rw[q]at h;show h.elim
 |ok a o=>
  rw[q]at h;cases a with
  |nx r=>show(show X2 (g r o) N C T from h).out
  |ct r=>show h
  |rt v=>show h
  |bk r=>show h.elim
def vB(h:c ρ Y=.ok b X)(a:b=S->X2 (f ρ X) N C T)(e:b=R->X2 (g ρ X) N C T):X2 (bV c f g ρ Y) N C T:=by
 ext bV;rw[h,d0];cases b with
 |true=>show a W
 |false=>show e W
theorem nU(e:c ρ Y=.ok S X)(a:X2 (f ρ X) N C T):X2 (bV c f g ρ Y) N C T:=vB e (λ_=>a) λh=>by ext h
theorem dL(e:c ρ Y=.ok R X)(a:X2 (g ρ X) N C T):X2 (bV c f g ρ Y) N C T:=vB e (λh=>by ext h) λ_=>a
def Mv(e:L ρ Y=.ok x X)(a:gt x ρ X=.ok Q Z)(h:N Q Z):X2 (bW L gt ρ Y) N C T:=by show#[?_];ext bW;rw[e,d0,a,d0];show h
theorem lu(a:f ρ Y=.ok (.nx Q) X)(h:N Q X):X2 (f ρ Y) N C T:=#[by rw[a];show h]
theorem Rz(a:f ρ Y=.ok (.rt x) X)(h:T x X):X2 (f ρ Y) N C T:=#[by rw[a];show h]
theorem gQ(a:L ρ Y=.ok x X)(h:N ρ X):X2 (br L ρ Y) N C T:=lu (gP a) h
theorem Po(a:L ρ Y=.ok x X)(h:T x X):X2 (gJ L ρ Y) N C T:=Rz (gD a) h
theorem GZ(h:T (.fz .none) Y):X2 (pQ ρ Y) N C T:=#[h]
theorem jM(h:N ρ Y):X2 (bZ ρ Y) N C T:=#[h]
theorem iB{gt:z7}(e:L ρ Y=.ok x X)(a:gt x ρ X=.ok Q Z)(h:X2 (g Q Z) N C T):X2 (aD (bW L gt) g ρ Y) N C T:=pL (Mv e a h)
theorem yH(a:f ρ Y=.ok (.nx Q) X)(h:X2 (g Q X) N C T):X2 (aD f g ρ Y) N C T:=pL (lu a h)
theorem jH(a:L ρ Y=.ok x X)(h:X2 (g ρ X) N C T):X2 (aD (br L) g ρ Y) N C T:=pL (gQ a h)
def uB{h a:dU}(m:c ρ Y=.ok b X)(j:b=S->X2 (aD h g ρ X) N C T)(l:b=R->X2 (aD a g ρ X) N C T):X2 (aD (bV c h a) g ρ Y) N C T:=by
 let e:aD (bV c h a) g ρ Y=if b=S then aD h g ρ X else aD a g ρ X:=by unfold aD bV;rw[m,d0];ext b<;>rfl
 show .eq e ?_;cases b with
 |true=>show j W
 |false=>show l W
theorem tO{a l:dU}(j:c ρ Y=.ok S X)(e:X2 (aD a g ρ X) N C T):X2 (aD (bV c a l) g ρ Y) N C T:=uB j (λ_=>e) λh=>by ext h
theorem oS{l a:dU}(j:c ρ Y=.ok R X)(e:X2 (aD a g ρ X) N C T):X2 (aD (bV c l a) g ρ Y) N C T:=uB j (λh=>by ext h) λ_=>e
theorem sQ(h:T (.fz .none) Y):X2 (aD pQ g ρ Y) N C T:=pL (GZ h)
theorem kW(h:X2 (g ρ Y) N C T):X2 (aD bZ g ρ Y) N C T:=pL (jM h)
def OD{a e:dU}(h:X2 (aD a (aD e g) ρ Y) N C T):X2 (aD (aD a e) g ρ Y) N C T:=by
 show .eq ?_ h;ext aD;cases a ρ Y with
 |bad=>rfl
 |er x o=>rfl
 |ok j o=>ext j<;>rfl
def Og(a:xs.map M++UW (n - xs.length) P=ρ)(h:X2 (g ρ Y) (λ_ c=>T (.fz .none) c) (λ_ _=>False) T):∃x c,cE n g xs Y=.ok x c/\T x c:=by
 let h:=h.out;ext cE;rw[a];cases q:g ρ Y with
 |bad=>rw[q]at h;show h.elim
 |er x o=>rw[q]at h;show h.elim
 |ok e o=>
  rw[q]at h;cases e with
  |nx r=>show#[_,_,W,h]
  |ct r=>show h.elim
  |rt v=>show#[_,_,W,h]
  |bk r=>show h.elim
def hJ{W:aH->Prop}(a:xs.map M++UW (n - xs.length) P=ρ)(h:X2 (g ρ Y) (λ_ c=>SV.fz .none=v/\W c) (λ_ _=>False) (λr c=>r=v/\W c)):∃c,cE n g xs Y=.ok v c/\W c:=by let(x,c,l,j,e):=Og (T:=λr c=>r=v/\W c) a h;show#[c,by rw[l,j],e]
end
end L10
namespace L10
open PySem PyProof.Rows L2 L3
section
variable{B O A:bC}{K:CL}{E:XK}{H u t r:Hp}{q Q N L:bb UP}{T C Y Z:aH}{p:L2.St}{X:aQ}{v:V}
def D1{c fb:dj}{y z:SV}{i:Nat}{n:Int}{xs:G SV}(f:c X T=.ok (.rf i) Y)(e:fb X Y=.ok y Z)(d:DQ y=M n)(a:Z[i]?=M (.lst xs))(b:ki xs n=M z):i7 c fb X T=.ok z Z:=by ext i7;rw[f,d0,e,d0];ext Oi;simp only[a,d];show RS.VO Z (ki xs n)=_;rw[b];rfl
end
end L10
namespace L10
open PySem PyProof.Rows L2 L3
section
variable{O Z:bC}{K:CL}{H X:Hp}{a b:UP}{T:bb V}{Y:Heap->Prop}
def So(a:J)(O:bC)(H:Hp)(Z:bC)(X:Hp):Prop:=∀b o,b≠a->H b=M o->¬O b->X b=M o/\¬Z b
def ZL.evx(i:H a=M (.ext Y))(h:ZL O K H b T)(e:So a O H Z X):ZL Z K X b T:=by
 let(h,k):=h;by_cases z:O b
 .show#[X4.same (jN X) (k z),λ_=>k z]
 .rcases h with(h|⟨o,h⟩)|h
  .let(g,f):=e b _ (λy=>by rw[y,i]at h;ext h) h z;show#[.inl (.inl g),λy=>a7 y f]
  .let(g,f):=e b _ (λy=>by rw[y,i]at h;ext h) h z;show#[.inl (.inr #[o,g]),λy=>a7 y f]
  .show#[.inr h,λ_=>.inr h]
def YO.evx(i:H a=M (.ext Y))(h:YO O K H b T)(e:So a O H Z X):YO Z K X b T:=by
 let(h,k):=h;by_cases z:O b
 .show#[(jN X).tup (k z),λ_=>k z]
 .rcases h with(h|⟨o,h⟩)|h
  .let(g,f):=e b _ (λy=>by rw[y,i]at h;ext h) h z;show#[.inl (.inl g),λy=>a7 y f]
  .let(g,f):=e b _ (λy=>by rw[y,i]at h;ext h) h z;show#[.inl (.inr #[o,g]),λy=>a7 y f]
  .show#[.inr h,λ_=>.inr h]
mutual
theorem DV.evx(f:H a=cL (.ext Y))(e:So a O H Z X):∀{v:V} {d:D},L3.DV O K H v d->L3.DV Z K X v d
 |_,_,.W9=>.W9
 |_,_,.bl b=>.bl b
 |_,_,.int i=>.int i
 |_,_,.str x=>.str x
 |_,_,.tup h hs=>.tup (YO.evx f h e) (Wo.evx f e hs)
 |_,_,.lst h hs=>.lst (ZL.evx f h e) (Wo.evx f e hs)
theorem Wo.evx(f:H a=cL (.ext Y))(e:So a O H Z X):∀{vs:bb V} {ds:bb D},L3.Wo O K H vs ds->L3.Wo Z K X vs ds
 |_,_,.nil=>.nil
 |_,_,.cons h hs=>.cons (DV.evx f e h) (Wo.evx f e hs)
end
end
end L10
namespace L3
open PySem PySem.Spec PyProof.Rows L2
def QY:G V->Hp->VK->Prop:=λxs H Q=>∃i:Int,xs=[.int i]/\Q (.int (if i<0 then -i else i)) H
def Be{X:Cx}:Xg X (.builtin "abs") QY:=by intro a s f H xs g Q I r h;let(i,rfl,q):=h;let(u,rfl,e):=ju r;let(t,rfl):=(show∃t,u=UI.int i t from e);show call_abs_int λu b=>#[.int _,H,I.tok b,#[_,W],q]
def xY:G D->I RV
 |[.int i]=>M (.fz (.int (if i<0 then -i else i)))
 |_=>P
def NJ{K:CL}:zX K QY xY:=by
 intro O H xs ds g Q n a e q;unfold xY at e;split at e
 .ext e
  cases a with
  |cons f b=>ext b;ext f;show#[_,W,q.at (.int _)]
 .ext e
theorem Qa:VP "abs"=M (.builtin "abs"):=boot_abs
end L3
namespace L3
open PySem L2
structure NI(K:CL)(f:J)(n:Str)(t:Wz):Prop where
 a:Vj K U9 n=M (M (.ref f))
 F:∃fd,ZD K n n t f fd
structure MI(K:CL)(C f:J)(m q:Str)(t:Wz):Prop where
 a:VH K (.ref C) m=M (M (.ref f))
 i:WX K (.ref f)=S
 F:∃fd,ZD K m q t f fd
structure CI(K:CL)(C:J)(n:Str)(fs:G Str):Prop where
 a:Vj K U9 n=M (M (.ref C))
 pg:Xz K C Str.empty=S
 hd:X7 K C=S
 po:Zh K C=S
 sa:VH K (.ref C) "__setattr__"=M (M (.builtin "object.__setattr__"))
 mm:ZF K C=S
 kc:Wn K (.ref C)=S
 fl:∀x∈fs,Ya K C x
def BA(n q:Str)(t:Wz)(c:G Str):Prop:=∀(kV b e:U) (f:I J) (g ct:U) (a:G U),a.length=c.length->bindArgs (Wc n q (eP t) (bT t) (aw t) .none kV b e f g ct) #[a,[]]=pure (c.zip a)
section
variable{P:Vc}{w:Vw}{K:CL}{Y:Str->bg UI}{base h:Heap}{f C:UP}{n m q:Str}{t:Wz}{Q fs:bb Str}{Z k:Nat}{T N:Sp}
theorem CI.cls(c:CI K C n fs):Cls K C:=#[c.pg,c.hd,c.po,c.sa]
theorem CI.cf(c:CI K C n fs):L10.jT K n fs:=#[C,c.a,c.cls,c.fl]
theorem NI.cal(i:NI K f n t)(X:K.In h)(G:h.Ns U9 Y)(b:BA n n t Q)(ok:∀fd,ZD K n n t f fd->FnOk P w K Y base j0 Z f fd Q T):vt P w K Y base Z n Q T:=
 let#[fd,z]:=i.F;#[f,fd,ok fd z,z.binds b,z.kp,Ww X G i.a]
def NI.law(i:NI K f "law" t)(X:K.In h)(G:h.Ns U9 Y)(b:Y "law"=M (.ref fa))(p:BA "law" "law" t [x])(ok:∀base fd,ZD K "law" "law" t f fd->FnOk P w K Y base j0 Z f fd [x] T):∃fd:VT,(∀(s:UQ) (v:U),Y2 s fd #[[v],[]] [(x,v)])/\∀base:Heap,K.In base->base.Ns U9 Y->FnOk P w K Y base j0 Z fa fd [x] T:=by let e:=b.symm.trans (Ww X G i.a);ext e;let(fd,z):=i.F;let(A,y,kV,g,j,r,u,ct,l,rfl,B,o):=z.ex;show#[_,λs v=>.of_eq (p kV g j r u ct [v] W),λbase _ _=>ok base _ z]
def rC(a:WC k A):A.units+65<cLine:=by let:=a.un;ext
theorem Hs{W:J}{a:Array U}{i:Nat}{g:Array (I U)}{xs:G V}{ds:G D}(l:K.lookup W=M #[.type "tuple",lD,.seq a i,g])(e:a.size<=UY)(b:Vals xs a.toList)(hd:∀O H,Wo O K H xs ds):∀O H,DV O K H (.ref W) (.tuple ds):=λO H=>
 .tup (xs:=xs) #[.inr #[_,_,_,l,#[rfl,rfl],rfl,e,b],λ_=>.inr #[_,_,_,l,#[rfl,rfl],rfl,e,b]] (hd O H)
end
end L3
namespace L10R
open PySem PySem.Calls PyProof.Rows
def PK:typeLookup (.type "list_reverseiterator") "__len__"=pure P:=by rw[Zd,XX];kernel_rfl
def Av:typeLookup (.type "list_reverseiterator") "__length_hint__"=pure (M (.builtin "list_reverseiterator.__length_hint__")):=by rw[Zd,XX];kernel_rfl
section
variable{Y:Vc}{w:Vw}{A:Vq}{E:UI->UQ->Prop}{s:UQ}{r l:UP}{items:Array UI}
def E8{Q:Bool->UQ->Prop}(e:s.TypeIs (.ref r) "list_reverseiterator")(h:Q R s):wpAny (model Y w) A (Builtin.List.listLengthHint (.ref r)) Q E s:=by
 ext Builtin.List.listLengthHint;show Ld (Zc e PK ?_);dsimp only;show Xx (λa=>a7 a ()) (λ_=>?_);show Xx (λa=>a7 a ()) (λ_=>?_);show Ld (Zc e Av ?_);generalize f:("list_reverseiterator.__length_hint__":String)=g
 wp_delta
 rw[show splitId g=M ("list_reverseiterator","__length_hint__")from by subst f;left];subst f;show Ld (YW (T:= "list_reverseiterator") (b:=S) e (by rw[ahG];kernel_rfl) ?_);show Xx (λa=>a7 a ()) (λ_=>?_);show Xx (λ_=>?_) (λa=>a7 (by left) a);show Xx (λa=>a7 a (by left)) (λ_=>?_);show UR h
def x5{R:Zu->UQ->Prop}(G:A.handled=P)(N:l≠r)(C:s.heap.IsList l items)(j:s.heap.IsRevIter r l ((items.size:Int) - 1))(S:UP)(h:S≠r)(t:S≠l)(res:U)(a:Nat)(I:s.heap.get? S=cL {cls:=.type "list",data:=.seq #v[] a})
  (J:∀x z k d,(∀b o,b≠S->b≠r->s.heap.get? b=cL o->x.get? b=cL o)->x.get? S=cL {cls:=.type "list",dict:=P,data:=.seq k d,slots:= #v[]}->YX (λi v=>items[items.size - 1 - i]?=cL v) k items.size->R (.ok (.ret res)) {s with heap:=x,toks:=z}) (D:items.size<=UY):
  wpAny (model Y w) A.in1 (Builtin.List.listExtendWith (.ref S) (.ref r) res)
   (λfin c=>match fin with|.done f=>R (.ok f) c|.again d=>d.quiet=UJ/\codeAny (model Y w) A d R c) (λe c=>R (.error e) c) s:=by
 let q:S∉[r,l]:=by simp only[Vh,Wa,or_false,not_or];show#[h,t]
 let W:=Walks.listRev (prog:=Y) (w:=w) (A:=A.in1) G r l N items;let B:0<=items.size/\s.heap.IsRevIter r l ((items.size:Int) - 1 - ((0:Nat):Int))/\s.heap.IsList l items:=#[Vu _,by rw[show(items.size:Int) - 1 - ((0:Nat):Int)=(items.size:Int) - 1 by ext];show j,C];let m:codeAny (model Y w) A (.builtin "list.extend.loop" #[[.ref S,.ref r,res],[]]) R s:=by
  show codeAny_extend_loopS W.toS D S q res items.size 0 _ #v[] a rfl (Vu _) B I (YX.nil _) λc k d hm u y=>?_;rw[Moved.eq_with hm];show J c.heap c.toks k d (λb o H n e=>hm.heap b o (λg=>?_) e) u y;rcases Vh.mp g with Q|g
  .show H Q
  .show n (U8.mp g)
 ext Builtin.List.listExtendWith;show Ld (XQ (T:= "list_reverseiterator") j.typeIs ?_);let M:Builtin.List.listSameRef (.ref S) (.ref r)=UL:=by simp[Builtin.List.listSameRef,h]
 let L:(UI.type "list_reverseiterator"==UI.type "list")=UL:=by left
 let K:(UI.type "list_reverseiterator"==UI.type "tuple")=UL:=by left
 simp only[M,L,K,aaG,WZ,if_false];show Ld (wpAny_pyIter_revIter j ?_);show Ld (Wj (E8 j.typeIs ?_));show Xx (λp=>a7 p (by left)) (λ_=>UR #[Xf PySem.F.plain_extend_loop _,m])
def Fr{R:Zu->UQ->Prop}(C:A.handled=P)(G:l≠r)(y:s.heap.IsList l items)(u:s.heap.IsRevIter r l ((items.size:Int) - 1))(S:J)(h:S≠r)(j:S≠l)(q:s.heap.get? S=M {cls:=.type "list",data:=.seq #v[]})
  (F:∀d z x c,(∀b o,b≠S->b≠r->s.heap.get? b=M o->d.get? b=M o)->d.get? S=M {cls:=.type "list",dict:=P,data:=.seq x c,slots:= #v[]}->YX (λi v=>items[items.size - 1 - i]?=M v) x items.size->R (.ok (.ret .none)) {s with heap:=d,toks:=z}) (D:items.size<=UY):
  wpAny (model Y w) A.in1 (Builtin.«list.__init__» #[[.ref S,.ref r],[]])
   (λfin k=>match fin with|.done f=>R (.ok f) k|.again c=>c.quiet=UJ/\codeAny (model Y w) A c R k) (λe k=>R (.error e) k) s:=by
 show wpAny _ _ (do let old<-Builtin.List.listItems (.ref S);Builtin.List.listUpdate (.ref S) (λ_=> #v[]);letGo old.toList.reverse;Builtin.List.listExtendWith (.ref S) (.ref r) .none) _ _ s;show Ld ?_;ext Builtin.List.listItems;show Ld (V7 q W (UR ?_));show wpAny _ _ (updateSeq S (λ_=> #v[])>>=λ_=>letGo (#v[]:Array U).toList.reverse>>=λ_=>Builtin.List.listExtendWith (.ref S) (.ref r) .none) _ _ s;show Ld (Ze q W ?_);let g:=b7 (Obj.mapSeq (λ_=>(#v[]:Array U))) q W
 let a:∀b o,b≠S->s.heap.get? b=M o->(s.heap.update S (Obj.mapSeq (λ_=>(#v[]:Array U)))).get? b=M o:=
  λb o m e=>(b5 _ _ (da m)).trans e
 show Ld (Xl ?_);show x5 C G (y.at λo e=>a l o j.symm e) (u.at λo e=>a r o h.symm e) S h j .none _ g (λd z x c B p t=>?_) D;show F d z x c (λb o m n e=>B b o m n (a b o m e)) p t
def acQ{Q:U->UQ->Prop}(u:A.handled=P)(C:l≠r)(m:s.heap.IsList l items)(j:s.heap.IsRevIter r l ((items.size:Int) - 1))(z:items.size<=UY)
  (B:∀c k d x,(∀b o,b≠r->s.heap.get? b=M o->c.get? b=M o)->c.get? s.heap.objs.size=M {cls:=.type "list",dict:=P,data:=.seq d x,slots:= #v[]}->YX (λi v=>items[items.size - 1 - i]?=M v) d items.size->Q (.ref s.heap.objs.size) {s with heap:=c,toks:=k}):
  wpAny (model Y w) A (call (.type "list") [.ref r]) Q E s:=by
 show ahH (Q₁:=λobj a=>obj=.ref s.heap.objs.size/\a={s with heap:=s.heap.push {cls:=.type "list",data:=.seq #v[]}}) PySem.F.called_list (PySem.F.typeCall_list_1 _) PySem.F.entry_list_init
  (code_list_new _ #[W,W]) λobj a f=>?_
 let(rfl,rfl):=f;let n:(s.heap.push {cls:=.type "list",data:=.seq #v[]}).get? s.heap.objs.size=M {cls:=.type "list",data:=.seq #v[]}:=b4 _ W;let p:r<s.heap.objs.size:=by let(o,e,_):=j;show b3 e
 let q:l<s.heap.objs.size:=by let(o,e,_):=m;show b3 e
 show#[#[_,n,W],PySem.F.args_list_init_2 _ _,Fr (A:=A.in1) u C (m.at λo e=>bt _ e) (j.at λo e=>bt _ e) _ (VW p) (VW q) n (λc k d x t g h=>?_) z];show#[W,B c k d x (λb o y e=>t b o (Vg (b3 e)) y (bt _ e)) g h]
end
end L10R
namespace L2
open PySem PySem.Spec PyProof.Rows
section
variable{X:Cx}{e:Va}{Z:TE}{p q p1 Y:Pos}
def vK(K:CL)(Z:TE):TE:=λf H Q=>Z f H λx b=>∃a xs,x=.ref a/\Yk K b a xs/\∀l,b l=P->Q (.ref l) (aW b l (.lst xs.reverse))
def wV:VP "reversed"=M (.type "reversed"):=by rfl
def BC{xs:G V}{us:G U}(h:Vals xs us):Vals xs.reverse us.reverse:=by
 induction h with
 |nil=>show .nil
 |cons h _ a=>rw[Yg,Yg];show a.append (.cons h .nil)
def BB{items acc:Array U}(h:YX (λi v=>items[items.size - 1 - i]?=M v) acc items.size):acc.toList=items.toList.reverse:=by
 apply List.ext_getElem?;intro j;by_cases a:j<items.size
 .let b:j<acc.size:=by rw[h.1];show a
  let e:=h.2 j _ (aak b);rw[XH,aak b,List.getElem?_reverse (by rw[VN];show a),VN,XH];show e.symm
 .rw[abi (by rw[VN,h.1];ext),abi (by rw[Zf,VN];ext)]
def EX{a:G (J×Obj)}{j:St}{H:Hp}{s:UQ}{e:J}{o:HO}(I:Inv X a j H s)(f:kL X a H e)(A:X.s₀.heap.get? e=P)(new:ObjOk X.prog X.w (aW H e o) s.heap e o):Inv X a j (aW H e o) s:=by
 let(ne,t,_,_,v,i):=f;let m:∀b o,X.s₀.heap.get? b=M o->b≠e:=λb o z y=>by rw[y,A]at z;ext z
 let g:∀b o,H b=M o->b≠e:=λb o z y=>by rw[y,ne]at z;ext z
 let B:=I.base;show#[I.ok,I.os,I.bare,#[B.keep,B.slot,λb o z n x=>?_,B.there,λb xs z=>?_,λb o u z=>?_,λb C z=>?_],I.loc,I.cell,?_,λx c z=>?_,λp l=>?_,λb u z=>?_,I.len]
 .rw[au (m b o z)];show B.free b o z n x
 .let:=B.aad b xs z;rw[au (g b _ this)];show this
 .let:=B.ZY b o u z;rw[au (g b _ this)];show this
 .let(h,y):=B.aaf b C z;show#[h,by rw[au (g b _ y)];show y]
 .rw[au t.symm];show I.free
 .rw[au (v x c z)];show I.YQ x c z
 .let(z,n,r):=I.pin p l;show#[z,by rw[au (i p l)];show n,r]
 .by_cases y:b=e
  .subst y;rw[aC]at z;ext z;show new
  .rw[au y]at z;show(I.V4 b u z).YY (λ_ _ _ y=>y) (λc y=>by rw[au (g c _ y)];show y) λc xs y=>by rw[au (g c _ y)];show y
def wL(d:X.calm=UJ)(C:Gl X "list")(A:X.mg "list"=lD)(B:Gl X "reversed")(y:X.mg "reversed"=lD)(U:PE X e Z)
  (L:U7 [.Call (.Name "reversed" q) [e] [] Y] X.env=[(UL,eval (.Call (.Name "reversed" q) [e] [] Y) X.env)]:=by rfl) (J:U7 [e] X.env=[(UL,eval e X.env)]:=by rfl):
  PE X (.Call (.Name "list" p) [.Call (.Name "reversed" q) [e] [] Y] [] p1) (vK X.K Z):=by
 intro g s v H Q I h;show WK (kh I C A xk ?_);show Wr ?_ L W;rw[L];show wpAny _ _ (spliced ((UL,eval (.Call (.Name "reversed" q) [e] [] Y) X.env)::[])) _ _ s;show Calls.spliced_cons ?_;show WK (kh I B y wV ?_);show Wr ?_ J W;rw[J];show wpAny _ _ (spliced ((UL,eval e X.env)::[])) _ _ s;show Calls.spliced_cons (bP (U g s v H _ I h) λu f a=>?_);let(x,t,m,N,a,xs,ex,S1,O):=a;show Calls.spliced_nil ?_;subst ex;obtain rfl:u=UI.ref a:=N;let(i,rv,pl,G):=m.list S1;let w:=pl.isList;show call_reversed_list w (Calls.spliced_nil ?_);let R:a<f.heap.objs.size:=by let(o,e,_):=w;show b3 e
 let n:Inv X g v t {f with heap:=f.heap.push (revObj a ((i.toArray.size:Int) - 1))}:=m.kept (t':=f.toks) λb o e=>bt _ e;let j:i.toArray.size<=UY:=by rw[U3,<-rv.length];show G
 show L10R.acQ (r:=f.heap.objs.size) (l:=a) (items:=i.toArray) (m.ok.hd d) (Vg R) (w.at λo e=>bt _ e) #[_,b4 _ W,W,W] j λh' F E c T hL hi=>?_;let(f0,f1,M,f3,f4,f5):=m.aa1 (UU f.heap.objs.size) (m.V4.fresh (UU _));let I3:Inv X g v t {f with heap:=h',toks:=F}:=Inv.turned (s:={f with heap:=f.heap.push (revObj a ((i.toArray.size:Int) - 1))}) (t':=F) (it:=f.heap.objs.size) n (λb o hb e=>T b o hb e) f0 f1 f3 f4 f5;let ea:=BB hi;let hn:t (f.heap.push (revObj a ((i.toArray.size:Int) - 1))).objs.size=lD:=n.V4.fresh (UU _);show#[.ref (f.heap.push (revObj a ((i.toArray.size:Int) - 1))).objs.size,_,?_,W,O _ hn];let M:=n.aa1 (H':=t) (UU (f.heap.push (revObj a ((i.toArray.size:Int) - 1))).objs.size) hn;let P:X.s₀.heap.get? (f.heap.push (revObj a ((i.toArray.size:Int) - 1))).objs.size=lD:=by
  cases z:X.s₀.heap.get? (f.heap.push (revObj a ((i.toArray.size:Int) - 1))).objs.size with
  |none=>rfl
  |some o=>show a7 (Vf (b3 z) n.sz) (Wd _)
 show EX I3 M P #[by rw[Zf];show G,E.toList,c,by rw[ea];show BC rv,by rw[abh];show hL]
end
end L2
namespace L10
open PySem PySem.Spec PyProof.Rows L2 L3
section
variable{B O O':bC}{K:CL}{E:XK}{H H' X H2:Hp}{C α' Y α2:bb UP}{L ω' T Z:aH}{A:L2.St}{N:aQ}{v:V}
def vX(a:dj):dj:=λN L=>(a N L).bind λx T=>(RS.VO T (gB T x)).bind λp Z=>.ok (.rf Z.length) (Z++[.lst p.2.reverse])
def Nz{a:Type}{R:V->a->Prop}{c:G V}{xs:G a}(h:Paired R c xs):Paired R c.reverse xs.reverse:=by
 induction h with
 |nil=>show .nil
 |cons h t b=>rw[Yg,Yg];show tQ b h
def F4{h:TE}{c:dj}(o:cB K E h c):cB K E (vK K h) (vX c):=by intro B A H C L N Q s m w;show o B A H C L N _ s m (w.bind.imp λx Y T X e1 b f u n=>?_);let((i,xs),q,f):=WS.VO f;let(t,a,y,ha,rfl,r,p):=tR b n q;show#[a,y,W,Yk.of r,λl g=>?_];let j:Wt X (aW X l (.lst y.reverse)):=bJ g _;let e:WA Y T X (Y++[l]) (T++[.lst xs.reverse]) (aW X l (.lst y.reverse)):=WA.aae b.len j g;show f _ _ e (b.aae j g (by rw[aC];simp) #[_,aC,Paired.Yb (Nz p) λ_ _ d=>d.Xa e]) _ #[l,by rw[<-b.len];show aM,W]
def JX{i:Nat}{b:dj}{xs:G SV}(h:b N L=.ok (.rf i) T)(a:T[i]?=M (.lst xs)):vX b N L=.ok (.rf T.length) (T++[.lst xs.reverse]):=by
 let e1:gB T (.rf i)=M (i,xs):=by ext gB;dsimp only;rw[a]
 ext vX;rw[h,d0,e1];rfl
def Pb{i:Nat}{f:D->D->I RV}{c:dj}{x y:SV}{z:SV}{ω3:aH}(a:N[i]?=M (M x))(e:c N L=.ok y T)(b:pV f x y T=.ok z Z):AB i f c N L=.ok (.nx (N.set i (M z))) Z:=by ext AB;rw[bF a,d0,e,d0,b,d0]
end
end L10
namespace LD
open PySem PyProof.Rows L2 L3
def mX(xs:G (KD×J×V))(k:KD):I V:=(xs.find? λx=>decide (x.1=k)).map (·.2.2)
def pf(xs:G (KD×J×V))(k:KD)(b:J)(v:V):G (KD×J×V):=
 if(xs.find? λx=>decide (x.1=k)).isSome=S then xs.map (λx=>if x.1=k then(x.1,x.2.1,v)else x)else xs++[(k,b,v)]
abbrev RX:G (KD×J×V)->G (KD×J×U)->Prop:=Paired λx y=>x.1=y.1/\x.2.1=y.2.1/\RelV x.2.2 y.2.2
def yE:∀{xs:G (KD×J×V)} {a:G (KD×J×U)},RX xs a->xs.map (·.1)=a.map (·.1):=by
 intro _ _ b
 induction b with
 |nil=>show W
 | @cons _ _ _ _ h t e=>rw[U5,U5,h.1,e]
def xa:∀{xs:G (KD×J×V)} {a:G (KD×J×U)},RX xs a->Yi (mX xs k) ((atKey a k).map (·.2)):=by
 intro _ _ b
 induction b with
 |nil=>unfold mX atKey;show trivial
 | @cons x y xs a h t f=>
  unfold mX atKey;rw[VG,VG,h.1];by_cases e:y.1=k
  .rw[a4 e];show h.2.2
  .rw[a5 e];show f
def Jm:∀{xs:G (KD×J×V)} {a:G (KD×J×U)},RX xs a->(xs.find? λx=>decide (x.1=k)).isSome=(atKey a k).isSome:=by
 intro _ _ b
 induction b with
 |nil=>show W
 | @cons x y xs a h t f=>
  ext atKey;rw[VG,VG,h.1];by_cases e:y.1=k
  .rw[a4 e];rfl
  .rw[a5 e];show f
def OX(r:RelV v u):∀{xs:G (KD×J×V)} {a:G (KD×J×U)},RX xs a->RX (xs.map λx=>if x.1=k then(x.1,x.2.1,v)else x) (a.map (putAt k u)):=by
 intro _ _ b
 induction b with
 |nil=>show .nil
 | @cons x y xs a h t f=>
  rw[U5,U5];show .cons ?_ (f);ext putAt;by_cases e:y.1=k
  .rw[ax (h.1.trans e),ax e];show#[h.1,h.2.1,r]
  .rw[a3 (by rw[h.1];show e),a3 e];show h
def J8(h:x.1=y.1/\x.2.1=y.2.1/\RelV x.2.2 y.2.2):∀{xs:G (KD×J×V)} {a:G (KD×J×U)},RX xs a->RX (xs++[x]) (a++[y]):=by
 intro _ _ b
 induction b with
 |nil=>show .cons h .nil
 | @cons _ _ _ _ g t e=>show .cons g (e)
def Oh(r:RelV v u)(h:RX xs ys):RX (pf xs k b v) (storedH ys k b u):=by
 unfold pf storedH;rw[Jm h];split
 .show OX r h
 .show J8 #[W,W,r] h
def vU(xs:G (KD×J×V))(k:KD)(b:J)(v:V):(pf xs k b v).length<=xs.length+1:=by
 ext pf;split
 .rw[UK];ext
 .rw[US];show UU _
def tq(K:CL)(H:Hp)(xs:G (KD×J×V)):Prop:=∀x∈xs,L2.DV K H (.ref x.2.1) x.1.1
section
variable{X:Cx}{Z:bb (UP×Obj)}{Y:L2.St}{H:Hp}{s:UQ}{a b:UP}{T:bb (KD×UP×V)}{k:KD}{v:V}{u r:UI}{A:Vq}{E:UI->UQ->Prop}
def P9:∀{T:G (KD×J×V)} {es:G XD},Paired (λ(x:KD×J×V) (e:XD)=>e.hash=nW w x.1.1/\e.key=.ref x.2.1/\RelV x.2.2 e.val) T es->∃ys,RX T ys/\es=ys.map (entryOfKey (fX o w)):=by
 intro _ _ h
 induction h with
 |nil=>show#[[],.nil,W]
 | @cons x e _ _ p t q=>let(g,f,i):=p;let(ys,l,j):=q;show#[(x.1,x.2.1,e.val)::ys,.cons #[W,W,i] l,?_];rw[U5,<-j];let(n,m,ev):=e;dsimp only at g f;subst g f;rfl
def Q9:∀{T:G (KD×J×V)} {f:G (KD×J×U)},RX T f->Paired (λ(x:KD×J×V) (e:XD)=>e.hash=nW w x.1.1/\e.key=.ref x.2.1/\RelV x.2.2 e.val) T (f.map (entryOfKey (fX i w))):=by
 intro _ _ g
 induction g with
 |nil=>show .nil
 | @cons _ _ _ _ h t j=>show .cons #[by rw[h.1];rfl,by rw[h.2.1];rfl,h.2.2] (j)
theorem pX(I:L2.Inv X Z Y H s)(h:L2.DV X.K H (.ref b) k.1):(fX X.prog X.w).is s.heap k b:=L2.DV.reads I h W
def Aa(I:L2.Inv X Z Y H s)(e:H a=M (DkO a T))(j:tq X.K H T):T.length<=UY/\(a==WJ)=R/\∃ys,RX T ys/\s.heap.DictOfH (fX X.prog X.w) a ys:=by
 let(((z,n,nd),o,es,L,G,F,C,B),_):=(show ObjOk X.prog X.w H s.heap a (DkO a T)from I.V4 a _ e);let(ys,h,J):=P9 B;show#[z,n,ys,h,o,es,L,G,F,C,J,?_,by rw[<-yE h];show nd];let all:∀{l:bb (KD×UP×V)} {m:bb (KD×UP×U)},RX l m->(∀x∈l,L2.DV X.K H (.ref x.2.1) x.1.1)->∀y∈m,(fX X.prog X.w).is s.heap y.1 y.2.1:=by
  intro l m q
  induction q with
  |nil=>intro _ y f;show nomatch f
  | @cons p q ps qs N t Q=>
   intro g y f;rcases Vh.mp f with e|f
   .subst e;let:=pX I (g p (UT ..));rw[N.1,N.2.1]at this;show this
   .show Q (λx i=>g x (UX _ i)) y f
 show all h j
def C9(z:T.length<=UY)(hd:(a==WJ)=R)(e:RX T ys)(dd:C.DictOfH (fX y w) a ys):ObjOk y w H' C a (DkO a T):=by let(o,es,f,g,m,l,j,n,i):=dd;show#[#[#[z,hd,by rw[yE e];show i],o,es,f,g,m,l,by rw[j];show Q9 e],#[o,g],?_];rintro t p ⟨q,o,es,f,e1,e2⟩ h;show#[q,o,es,f,h o e1,e2]
def nK(e:A.units+64<cLine):(fX X.prog X.w).room A.in1:=by show A.in1.units+8<cLine;rw[Vq.in1_units];ext
def My(m:A.units+64<cLine)(I:L2.Inv X Z Y H s)(e:H a=M (DkO a T))(o:tq X.K H T)(q:L2.DV X.K H (.ref b) k.1)(g:mX T k=M v)(h:∀c d,L2.Inv X Z Y H d->RelV v c->Q c d):
  wpAny (model X.prog X.w) A (getItem (.ref a) (.ref b)) Q E s:=by
 let(z,y,t,i,dd):=Aa I e o;let(c,l,f):=Yi.some_of (by rw[<-g];show xa i);let(p,n,j):=Yw.mp l;show ad8 (nK m) (pX I q) dd n ?_;rw[j];show h c _ (I.tok _) f
def QW(g:A.units+64<cLine)(I:L2.Inv X Z Y H s)(e:H a=M (DkO a T))(i:tq X.K H T)(l:L2.DV X.K H (.ref b) k.1)(h:∀c,L2.Inv X Z Y H c->Q (.bool (mX T k).isSome) c):
  wpAny (model X.prog X.w) A (V1 .In (.ref b) (.ref a)) Q E s:=by
 let(z,j,m,f,dd):=Aa I e i;show ajI (nK g) (pX I l) j dd ?_;let q:=(xa (k:=k) f).Yj;rw[X9]at q;rw[<-q];show h _ (I.tok _)
def Mw(g:A.units+64<cLine)(I:L2.Inv X Z Y H s)(e:H a=M (DkO a T))(i:tq X.K H T)(l:L2.DV X.K H (.ref b) k.1)(h:∀c,L2.Inv X Z Y H c->Q (.bool (!(mX T k).isSome)) c):
  wpAny (model X.prog X.w) A (V1 .NotIn (.ref b) (.ref a)) Q E s:=by
 let(z,j,m,f,dd):=Aa I e i;show wpAny_notIn_heap (nK g) (pX I l) j dd ?_;let q:=(xa (k:=k) f).Yj;rw[X9]at q;rw[<-q];show h _ (I.tok _)
def PB(m:A.units+64<cLine)(I:L2.Inv X Z Y H s)(e:H a=M (DkO a T))(o:tq X.K H T)(y:L2.DV X.K H (.ref b) k.1)(d:RelV v r)(C:T.length<UY)(h:∀c,L2.Inv X Z Y (aW H a (DkO a (pf T k b v))) c->Q ⟨⟩ c):
  wpAny (model X.prog X.w) A (setItem (.ref a) (.ref b) r) Q E s:=by
 let(z,t,j,f,dd):=Aa I e o;let l:j.length<=UY:=by rw[<-Paired.length f];show z
 let i:(pf T k b v).length<=UY:=by let:=vU T k b v;ext
 show ad9 (hsz:=l) (nK m) (pX I y) dd λB g n=>h _ ?_;let p:∃q,B.get? a=M q:=let#[q,_,_,L,_]:=g;#[q,L]
 show nQ I (by rw[e];show True.intro) n p (C9 i t (Oh d f) g)
def Hi(I:L2.Inv X Z Y H s)(e:H a=M (DkO a T)):s.TypeIs (.ref a) "dict"/\(∀b,UI.ref a=.ref b->∃c,s.heap.get? b=M c/\c.dict=P)/\(a==WJ)=R:=by let(((z,h,nd),o,es,l,g,f,j,i),_):=(show ObjOk X.prog X.w H s.heap a (DkO a T)from I.V4 a _ e);show#[#[o,g,f.1],λb q=>?_,h];ext q;show#[o,g,f.2.1]
end
section
variable(K:CL)
def Ej(neg:Bool)(ty g:TE):TE:=λf H Q=>ty f H λy h=>g f h λx e=>∃a b xs k,x=.ref a/\y=.ref b/\e a=M (DkO a xs)/\tq K e xs/\L2.DV K e (.ref b) k.1/\Q (.bl ((mX xs k).isSome !=neg)) e
def Er(g ty:TE):TE:=λf H Q=>g f H λx h=>ty f h λy e=>∃a b xs k v,x=.ref a/\y=.ref b/\e a=M (DkO a xs)/\tq K e xs/\L2.DV K e (.ref b) k.1/\mX xs k=M v/\Q v e
def D7(h ty g:TE):TS:=λD e H=>g e H λv j=>h e j λx i=>ty e i λy f=>∃a b xs k,x=.ref a/\y=.ref b/\f a=M (DkO a xs)/\tq K f xs/\L2.DV K f (.ref b) k.1/\xs.length<UY/\D.nx e (aW f a (DkO a (pf xs k b v)))
def CJ:TE:=λ_ H Q=>∀p,H p=P->Q (.ref p) (aW H p (DkO p []))
end
section
variable{X:Cx}{o i e f Z:Va}{U Y tx tv:TE}{pos T apos Xt:Pos}
def pc_ddin(v:X.A.units+64<cLine)(c:PE X i Y)(w:PE X o U):PC X .In i o (Ej X.K R Y U):=by intro g s j H Q I h;show bP (c g s j H _ I h) λO m #[y,L,G,n,q]=>bP (w g m j L _ G q) λu N a=>?_;let(x,A,F,p,a,b,xs,k,C,B,e,r,t,l):=a;subst C B;obtain rfl:=p;obtain rfl:=n;rw[adK]at l;show QW v F e r t λM E=>#[.bl _,A,E,W,l]
def pc_ddnin(v:X.A.units+64<cLine)(c:PE X i Y)(w:PE X o U):PC X .NotIn i o (Ej X.K S Y U):=by intro g s j H Q I h;show bP (c g s j H _ I h) λO m #[y,L,G,n,q]=>bP (w g m j L _ G q) λu N a=>?_;let(x,A,F,p,a,b,xs,k,C,B,e,r,t,l):=a;subst C B;obtain rfl:=p;obtain rfl:=n;rw[Bool.bne_true]at l;show Mw v F e r t λM E=>#[.bl _,A,E,W,l]
def pe_ddget(E:X.A.units+64<cLine)(G:PE X o U)(c:PE X i Y)(F:PF i):PE X (.Subscript o i pos) (Er X.K U Y):=by intro j s m H Q I h;show yY Z4.lookup F (bP (G j s m H _ I h) λu p #[x,Pz0,N,r,w]=>bP (c j p m Pz0 _ N w) λiv s2 a=>?_);let(y,O,n,q,a,b,xs,k,v,L,A,e,B,C,g,t):=a;subst L A;obtain rfl:=r;obtain rfl:=q;show#[(Hi n e).1,My E n e B C g λR S M l=>#[v,O,M,l,t]]
def ps_ddput(F:X.A.units+64<cLine)(J:PE X o U)(c:PE X i Y)(E:PE X Z tv)(G:Xe Z (cL (.Subscript o i T)) pos.line X.env=pure UL):
  PS X (.Assign [.Subscript o i T] Z pos) (D7 X.K U Y tv):=by
 intro g s j H D I h;show acv (bP (E g s j H _ I h) λr m #[v,H1,R1,rv,w]=>bP (J g m j H1 _ R1 w) λu l #[x,S1,Q,p,t]=>bP (c g l j S1 _ Q t) λiv s3 a=>?_) G;let(y,H3,Pz0,n,a,b,xs,k,N,A,e,B,C,L,q):=a;subst N A;obtain rfl:=p;obtain rfl:=n;show PB F Pz0 e B C rv L λs4 O=>#[j,_,O,q]
theorem pe_ddnew:PE X (.Dict [] [] pos) CJ:=λa s b H Q I h=>
 wpAny_Dict_empty #[.ref s.heap.objs.size,_,I.laid (λ_ _ q=>bt _ q) (UU _) (C9 (Vu _) (beq_eq_false_iff_ne.mpr (da (Vg I.big))) .nil (Heap.DictOfH.new s.heap)),W,h _ (I.V4.fresh (UU _))]
end
mutual
def P5:UM->UM->bg Bool
 |.int i,.int j=>cL (decide (i<j))
 |.str x,.str y=>cL (decide (x.cps.toList<y.cps.toList))
 |.tuple xs,.tuple ys=>Qe xs ys
 |_,_=>lD
def Qe:bb UM->bb UM->bg Bool
 |[],[]=>cL UL
 |[],_::_=>cL UJ
 |_::_,[]=>cL UL
 |x::xs,y::ys=>if UM.eqv x y=UJ then Qe xs ys else P5 x y
end
end LD
namespace LD
open PySem PyProof.Rows
structure VE(es:G XD)(Vi:G (Unit×U)):Prop where
 vals:es.map (·.val)=Vi.map (·.2)
end LD
namespace L10
open PySem PyProof.Rows L2 L3 LD
def mK:SV->I D
 |.fz d=>if keyD d=S then M d else P
 |_=>P
def Ty:SV->I D
 |.fz d=>M d
 |_=>P
def qC(a:aH):SV->I (Nat×G (D×D))
 |.rf i=>match a[i]? with
  |some (.dd b)=>M (i,b)
  |_=>P
 |_=>P
def gW(b:G (D×D))(k:D):I D:=(b.find? λa=>UM.eqv a.1 k).map (·.2)
def pT(b:G (D×D))(k v:D):G (D×D):=if(b.find? λa=>UM.eqv a.1 k).isSome=S then b.map (λa=>if UM.eqv a.1 k=S then(a.1,v)else a)else b++[(k,v)]
section
variable{B O O':bC}{K:CL}{E:XK}{H H' S R:Hp}{Y α' X T:bb UP}{ω ω' ω1 Z:aH}{U:L2.St}{ρ:aQ}{v:V}{k:KD}
def pI(e:mK x=M d)(h:Xv O K H Y v x):∃(k:KD) (b:J),k.1=d/\v=.ref b/\L3.DV O K H (.ref b) d:=by
 cases x with
 |fz z=>
  let e:(if keyD z=UJ then M z else P)=M d:=e;by_cases a:keyD z=UJ
  .rw[ax a]at e
   ext e;let h:=h;cases d with
   |tuple xs=>cases h with
    |tup g f=>show#[#[_,a],_,W,W,.tup g f]
   |_=>simp[keyD]at a
  .rw[a3 a]at e;ext e
 |rf i=>ext e
 |tp l=>ext e
def CN(s:Vt B K H Y ω)(b:Xv (ow B Y ω) K H Y v x)(h:qC ω x=M (i,o)):ω[i]?=M (.dd o)/\∃a xs,Y[i]?=M a/\v=.ref a/\H a=M (DkO a xs)/\PrD (ow B Y ω) K H xs o:=by
 cases x with
 |fz d=>ext h
 |tp l=>ext h
 |rf j=>
  let(a,n,rfl):=b;unfold qC at h;dsimp only at h;cases q:ω[j]? with
  |none=>rw[q]at h;ext h
  |some c=>
   rw[q]at h;cases c with
   |dd m=>let e:=Vd h;ext e;let(ws,g,f):=s.cel i a _ n q;show#[q,a,ws,n,W,g,f]
   |_=>ext h
def Cr:∀{xs:G (KD×J×V)} {c:G (D×D)},PrD O K H xs c->tq K H xs:=by
 intro _ _ b
 induction b with
 |nil=>show λ_ h=>nomatch h
 | @cons x g xs c h t f=>
  intro y a;rcases Vh.mp a with e|a
  .subst e;rw[h.1];show h.2.1.plain
  .show f y a
def tN{x:KD×J×V}{a:D×D}(h:x.1.1=a.1):decide (x.1=k)=UM.eqv a.1 k.1:=by
 rw[<-h]
 haveI:Decidable (x.1.1=k.1):=Classical.propDecidable _
 rw[E2 (keyD_kd x.1.2).1 (keyD_kd k.2).1];by_cases e:x.1=k
 .rw[a4 e,a4 (dt Subtype.val e)]
 .rw[a5 e,a5 λz=>e (Subtype.ext z)]
def ut:∀{xs:G (KD×J×V)} {b:G (D×D)},PrD O K H xs b->(∀d,gW b k.1=M d->∃v,mX xs k=M v/\L3.DV O K H v d)/\(gW b k.1=P->mX xs k=P):=by
 intro _ _ a
 induction a with
 |nil=>show#[λx e=>(by ext e),λ_=>W]
 | @cons x f xs b h t g=>
  unfold gW mX;rw[VG,VG,tN h.1];cases UM.eqv f.1 k.1 with
  |true=>show#[λd e=>#[x.2.2,W,by ext e;show h.2.2],λe=>by ext e]
  |false=>show g
def xW(h:PrD O K H xs o):(mX xs k).isSome=(gW o k.1).isSome:=by
 let(b,a):=ut h;cases q:gW o k.1 with
 |none=>rw[a q];rfl
 |some x=>let(u,e,_):=b x q;rw[e];rfl
def N4:∀{xs:G (KD×J×V)} {c:G (D×D)},PrD O K H xs c->(xs.find? λx=>decide (x.1=k)).isSome=(c.find? λb=>UM.eqv b.1 k.1).isSome:=by
 intro _ _ a
 induction a with
 |nil=>show W
 | @cons x b xs c h t e=>
  rw[VG,VG,tN h.1];cases UM.eqv b.1 k.1 with
  |true=>rfl
  |false=>show e
def QS(b:L3.DV O K H v d):∀{xs:G (KD×J×V)} {f:G (D×D)},PrD O K H xs f->PrD O K H (xs.map λx=>if x.1=k then(x.1,x.2.1,v)else x) (f.map λc=>if UM.eqv c.1 k.1=UJ then(c.1,d)else c):=by
 intro _ _ a
 induction a with
 |nil=>show .nil
 | @cons x c xs f h t g=>
  rw[U5,U5];show .cons ?_ (g);let e:=tN (k:=k) h.1;by_cases z:x.1=k
  .rw[ax z,ax (by rw[<-e];show a4 z)];show#[h.1,h.2.1,b]
  .rw[a3 z,a3 (by rw[<-e,a5 z];simp)];show h
def Cv(r:x.1.1=o.1/\L3.DV O K H (.ref x.2.1) o.1/\L3.DV O K H x.2.2 o.2):∀{xs:G (KD×J×V)} {b:G (D×D)},PrD O K H xs b->PrD O K H (xs++[x]) (b++[o]):=by
 intro _ _ a
 induction a with
 |nil=>show .cons r .nil
 | @cons _ _ _ _ g t e=>show .cons g (e)
def Fk(e:L3.DV O K H (.ref b) k.1)(a:L3.DV O K H v d)(h:PrD O K H xs o):PrD O K H (pf xs k b v) (pT o k.1 d):=by
 unfold pf pT;rw[N4 h];split
 .show QS a h
 .show Cv #[W,e,a] h
theorem Nw(e:Ev O H O' H')(h:PrD O K H xs o):PrD O' K H' xs o:=Paired.Yb h λ_ _ q=>#[q.1,q.2.1.ev e,q.2.2.ev e]
def pB(neg:Bool)(a fd:dj):dj:=λρ ω=>(a ρ ω).bind λx ω1=>(fd ρ ω1).bind λo Z=>(RS.VO Z (mK x)).bind λk Z=>(RS.VO Z (qC Z o)).bind λp Z=>.ok (.fz (.bool ((gW p.2 k).isSome !=neg))) Z
def vj(r:cB K E C fk)(hd:cB K E td fd):cB K E (Ej K neg C td) (pB neg fk fd):=by intro B U H Y ω ρ Q s f w;show r B U H Y ω ρ _ s f (w.bind.imp λx X ω1 S e1 l j v p=>?_);show hd B U S X ω1 ρ _ l (f.Xa e1) (j.bind.imp λo T Z R e2 g e u q=>?_);let(d,n,e):=WS.VO e;let((i,L),m,e):=WS.VO e;let(_,a,xs,A,rfl,y,h):=CN g q m;let(k,b,rfl,rfl,t):=pI n (p.Xa e2);show#[a,b,xs,k,W,W,y,Cr h,t.plain,?_];rw[xW h];show WS.now g e _ (.bl _)
def jq(fd a:dj):dj:=λρ ω=>(fd ρ ω).bind λo ω1=>(a ρ ω1).bind λx Z=>(RS.VO Z (mK x)).bind λk Z=>(RS.VO Z (qC Z o)).bind λp Z=>(RS.VO Z (gW p.2 k)).bind λd Z=>.ok (.fz d) Z
def Bt(hd:cB K E td fd)(C:cB K E tk fk):cB K E (Er K td tk) (jq fd fk):=by intro B U H Y ω ρ Q s f w;show hd B U H Y ω ρ _ s f (w.bind.imp λo X ω1 S e1 m j u A=>?_);show C B U S X ω1 ρ _ m (f.Xa e1) (j.bind.imp λx T Z R e2 g e v t=>?_);let(d,q,e):=WS.VO e;let((i,N),p,e):=WS.VO e;let(_,a,xs,L,rfl,G,h):=CN g (A.Xa e2) p;let(k,b,rfl,rfl,F):=pI q t;let(y,n,e):=WS.VO e;let(z,r,l):=(ut h).1 y n;show#[a,b,xs,k,z,W,W,G,Cr h,F.plain,r,WS.now g e z l]
def ot(fd e b:dj):dU:=λρ ω=>(b ρ ω).bind λy ω1=>(fd ρ ω1).bind λo Z=>(e ρ Z).bind λx a=>(RS.VO a (mK x)).bind λk a=>(RS.VO a (qC a o)).bind λp a=>(RS.VO a (Ty y)).bind λd a=>if p.2.length<1000000 then .ok (.nx ρ) (a.set p.1 (.dd (pT p.2 k d)))else .bad
def Mp(e:Ty x=M d)(h:Xv O K H Y v x):L3.DV O K H v d:=by
 cases x with
 |fz z=>ext e;show h
 |rf i=>ext e
 |tp l=>ext e
def AU(hd:cB K E td fd)(Q:cB K E tk fk)(N:cB K E tv fv):mP K E (D7 K td tk tv) (ot fd fk fv):=by
 intro B U H Y ω ρ D s h w;show N B U H Y ω ρ _ s h (WS.imp (WS.bind w) λy X ω1 S e1 F A p m=>?_);show hd B U S X ω1 ρ _ F (h.Xa e1) (WS.imp (WS.bind A) λo T Z R e2 C t u P=>?_);show Q B U R T Z ρ _ C (h.Xa (e1.trans e2)) (WS.imp (WS.bind t) λx e g j e3 q f z L=>?_);let(kd,J,f):=WS.VO f;let((i,Vi),I,f):=WS.VO f;let(d,G,f):=WS.VO f;let(l,a,xs,ha,rfl,g1,n):=CN q (P.Xa e3) I;let(k,b,rfl,rfl,r):=pI J L;let M:=Mp G (m.Xa (e2.trans e3));dsimp only at f;by_cases hn:Vi.length<1000000
 .rw[ax hn]at f;let ev:Ev (ow B e g) j (ow B e g) (aW j a (DkO a (pf xs k b p))):=pd ha l (by nofun);let e4:WA e g j e (g.set i (.dd (pT Vi k.1 d))) (aW j a (DkO a (pf xs k b p))):=WA.put ha l (by nofun) (by nofun);let hl:=Paired.length n;show#[a,b,xs,k,W,W,g1,Cr n,r.plain,rF (),?_];show f e _ e4 (q.put ha l (by nofun) (by nofun) #[_,aC,Fk (r.ev ev) (M.ev ev) (Nw ev n)]) U ((h.Xa (e1.trans (e2.trans e3))).Xa e4)
 .rw[a3 hn]at f;show f.elim
def tL:dj:=λ_ ω=>.ok (.rf ω.length) (ω++[.dd []])
def BK:cB K E CJ tL:=by intro B U H Y ω ρ Q s b w;show λp a=>kJ s a w λ_=>#[[],aC,.nil]
end
end L10
namespace L3
open PySem PyProof.Rows L2
structure aaZ(K:CL)(x qual:Str)(st:Wz)(f:J)(fd:VT)(T:J)(Vz:Array U):Prop where
 ex:∃(oc:U) (od:I J) (kV doc pm:U) (an:I J) (WB ct:U) (osl:Array (I U)),
  fd=Wc x qual (eP st) (bT st) (aw st) (.ref T) kV doc pm an WB ct/\K.lookup f=M #[oc,od,.func fd,osl]/\XY K WB qual=S
 kp:Wn K (.ref f)=S
 tp:∃o n,K.lookup T=M o/\o.data=.seq Vz n
section
variable{P:Vc}{w:Vw}{K:CL}{A:Str->bg UI}{base:Heap}{x Z:Str}{Y:Wz}{f:UP}{Q:VT}{T:UP}{y:Array UI}{N ps:bb Str}{k n m:Nat}{B:Sp}{L:bb UI}
def aaZ.binds(F:aaZ K x Z Y f Q T y)
  (h:∀(kV a b:U) (e:I J) (g ct:U) (us:G U),(us++L).length=ps.length->∃k:I (Array U)->Sem (G (Str×U)),bindArgs (Wc x Z (eP Y) (bT Y) (aw Y) (.ref T) kV a b e g ct) #[us,[]]=seqItems? (.ref T)>>=k/\k (M y)=pure (ps.zip (us++L))):Binds K Q ps L:=by
 let(t,r,kV,a,b,e,g,ct,i,rfl,u,l):=F.ex;let(o,n,q,p):=F.tp;intro s us X j;let(k,e1,e2):=h kV a b e g ct us j;show Y2.of_defaults (fd:=Wc x Z (eP Y) (bT Y) (aw Y) (.ref T) kV a b e g ct) W (X _ _ q) p e1 e2
def AW(P:Vc)(w:Vw)(K:CL)(A:Str->I U)(base:Heap)(b:tE)(k:Nat)(x:Str)(ps:G Str)(a:G V)(B:Sp):Prop:=
 ∃(f:J) (Q:VT) (L:G U),FnOk P w K A base b k f Q ps B/\Binds K Q ps L/\Vals a L/\Wn K (.ref f)=S/\A x=M (.ref f)
def zO(C:AW X.prog X.w X.K X.mg X.base CX k x ps Yy B)(l:WC j X.A)(i:d9 CX X E)(c:PA X (e::es) t)(a:k<=j:=by decide)(o:Gl X x:=by rfl)
  (g:(x==("__debug__":Str))=R:=by decide) (q:U7 (e::es) X.env=(R,eval e X.env)::U7 es X.env:=by rfl) (r:(backTo pos (U7 es X.env)).any (·.1)=R:=by rfl):
  PE X (.Call (.Name x p) (e::es) [] pos) (lg B Yy E t):=by
 let(f,Q,L,F,b,v,h,m):=C;show zb F (l.mono a) o m h b v i c g q r
end
end L3
namespace L10
open PySem PyProof.Rows L2 L3
section
variable{P:Vc}{w:Vw}{K:CL}{L:Str->bg UI}{base:Heap}{x Z:Str}{Y:Wz}{f:UP}{fd:VT}{T:UP}{Vz:Array UI}{N X:bb Str}{k n m:Nat}{g:dU}{FF:fT}
def Ri(F:aaZ K x Z Y f fd T Vz)(S:W3 N X (aw Y))(c:X.length=n)(hm:N.length=m)(q:FF=cE m g)
  (u:∀(a:U) (A:Vq) (outer:G Env) (s:UQ) (H:Hp) (E:XK),WC k (A.deeper (Vx Z (aw Y) s.heap.objs.size f a))->
   ∃t,PSs (eZ (L4.lB P w) P w K L base N Z (aw Y) f a A outer s H E) (bT Y) t/\mP K E t g):FnOk P w K L base (L4.lB P w) (k+1) f fd X (kA K n FF):=by
 subst q hm;let(B,y,kV,r,v,C,a,ct,i,rfl,j,e):=F.ex;show Dp j e S (λvs H Q E h=>h.1.trans c.symm) λA outer s H vs Q E p b=>?_;let(t,l,o):=u a A outer s H E p;show#[t,l,wS (xs:=[]) o b]
end
section
variable{K:CL}{E:XK}
def vk(F:fT)(n:Nat)(es:G D)(c:uU):dj:=λe b=>(c e b).bind λxs a=>if(xs++es.map SV.fz).length=n then F (xs++es.map SV.fz) a else .bad
theorem xB:∀{c ws:G V} {xs b:G SV},Xi O K H α c xs->Xi O K H α ws b->Xi O K H α (c++ws) (xs++b)
 |_,_,_,_,.nil,h=>h
 |_,_,_,_,.cons a t,h=>.cons a (xB t h)
def Ay(hd:∀O H,L3.Wo O K H Yy es)(c:tP K E C fa):cB K E (lg (kA K n F) Yy E C) (vk F n es fa):=by
 intro B g H α m o Q s h w;show c B g H α m o _ s h (w.bind.imp λxs a b l e1 i f p j=>?_);by_cases hn:(xs++es.map SV.fz).length=n
 .rw[ax hn]at f;let e:=xB j (jr (ow B a b) a (hd (ow B a b) l));show#[e.length.trans hn,B,a,b,_,i,e,f]
 .rw[a3 hn]at f;show f.elim
end
end L10
namespace L3
open PySem L2
section
variable{P:Vc}{w:Vw}{K:CL}{Q:Str->bg UI}{base h:Heap}{f C:UP}{n m q:Str}{t:Wz}{T fs:bb Str}{Z k:Nat}{N L:Sp}{Y:tE}
theorem MI.afS(i:MI K C f m q t)(c:CI K C n fs)(b:BA m q t T)(ok:∀fd,ZD K m q t f fd->FnOk P w K Q base Y Z f fd T N):L10.lL P w K Q base Y Z n m T N:=
 let#[fd,z]:=i.F;#[C,f,fd,c.a,c.cls,#[i.a,i.i,z.kp],ok fd z,z.binds b]
theorem MI.aiT(i:MI K C f "__init__" q t)(c:CI K C n fs)(X:K.In h)(G:h.Ns U9 Q)(b:BA "__init__" q t T)(ok:∀fd,ZD K "__init__" q t f fd->FnOk P w K Q base Y Z f fd T N):L10.vI P w K Q base Y Z n T N:=
 let#[fd,z]:=i.F;#[C,f,fd,c.a,Ww X G c.a,#[c.mm,i.a,i.i,c.kc],ok fd z,z.binds b]
end
end L3
namespace L10
open PySem PySem.Spec PyProof.Rows L2 L3
section
variable{B O O':bC}{K:CL}{E:XK}{H H' Y H2:Hp}{α α' Z α2:bb UP}{T ω' X ω2:aH}{σ:L2.St}{Q:aQ}{v:V}
def kY(c f:Str)(a:dj):dU:=λQ T=>(a Q T).bind λx X=>match x with
 |.fz d=>if L9.Q7 d=S then .er #[c,[(f,d)]] X else .bad
 |_=>.bad
def wu(M:Vj K U9 c=cL (cL (.ref C)))(L:cB K E te fe):mP K E (L9.zl C (L9.sX C f) E (im te jU)) (kY c f fe):=by
 intro B σ H α T Q D s G w;show L B σ H α T Q _ s G (WS.imp (WS.bind w) λx Z X Y e1 I a v h=>?_)
 match x,h,a with
 |.fz d,h,a=>
  let h:=h;dsimp only at a;by_cases r:L9.Q7 d=S
  .rw[ax r]at a
   let j:L9.P1 v/\∀(O':bC) (H':Hp),L3.DV O' K H' v d:=by
    cases d with
    |none=>ext h;show#[.inl W,λ_ _=>.W9]
    |int i=>ext h;show#[.inr #[i,W,a6 r],λ_ _=>.int i]
    |_=>ext r
   show#[by show 1<=UY;decide,λe hn=>#[e,v,W,j.1,aC,λp F g=>#[W,p,?_,?_]]]
   .rw[au (da g),aC]
   .let u:Y p=lD:=by rw[au g]at F;show F
    let A:Wt Y (L9.PL (aW (aW (aW Y e (.ext (L9.Gu C e))) e (.ext (L9.PR C e p))) p (.xd [(f,v)])) e):=λb o z=>by
     let t:b≠e:=λy=>by rw[y,hn]at z;ext z
     let J:b≠p:=λy=>by rw[y,u]at z;ext z
     rw[L9.iM t,au J,au t,au t];show z
    show a (.ref C) (cL p) Z _ (WA.same A) (I.grow A) #[#[C,W,M],[(f,v)],λP q=>?_,λm N l=>#[(λz=>nomatch z),?_]]
    .ext q;rw[L9.iM g,aC]
    .let n:(match m==f with|true=>cL d|false=>WL m [])=cL N:=l
     cases hb:m==f with
     |true=>rw[hb]at n;ext n;show#[v,?_,j.2 _ _];show(match m==f with|true=>cL v|false=>WL m [])=cL v;rw[hb]
     |false=>rw[hb]at n;ext n
  .rw[a3 r]at a;show a.elim
 |.rf _,_,a=>show a.elim
 |.tp _,_,a=>show a.elim
end
end L10
namespace L3
open PySem L2
theorem Fo{X:Cx}{P:Vc}{w:Vw}:d9 (L4.lB P w) X E0:=λ_ _ _ _ _ _ _ h=>by let(_,_,_,_,_,_,_,_,_,_,_,_,_,_,_,_,h):=h;show h.elim
end L3
namespace L10
open PySem PyProof.Rows L2 L3
section
variable{B O r:bC}{K:CL}{E:XK}{H q N p:Hp}{L A Z y:bb UP}{X u Y t:aH}{C:L2.St}{T:aQ}{v:V}
def oa(F:fT)(n:Nat)(es:G D)(a:uU):dj:=λT X=>(a T X).bind λxs Y=>if(xs++es.map SV.fz).length=n then j7 (F (xs++es.map SV.fz) Y)else .bad
def wx(hd:∀O H,L3.Wo O K H Yy es)(c:tP K E o fa):cB K E (lg (kA K n F) Yy E0 o) (oa F n es fa):=by
 intro B C H L X T Q s e w;show c B C H L X T _ s e (w.bind.imp λxs Z Y N e1 f b h g=>?_);by_cases hn:(xs++es.map SV.fz).length=n
 .rw[ax hn]at b;let a:=xB g (jr (ow B Z Y) Z (hd (ow B Z Y) N));show#[a.length.trans hn,B,Z,Y,_,f,a,WS.e0 b]
 .rw[a3 hn]at b;show b.elim
end
end L10
namespace L10
open PySem L2 L3
def S8(T:A->aH->Prop)(X:Xc->Prop):RS A->Prop
 |.ok a b=>T a b
 |.er x _=>X x
 |.bad=>False
structure Out{A:Type}(r:RS A)(T:A->aH->Prop)(X:Xc->Prop):Prop where
 out:S8 T X r
section
variable{A B:Type}{r Q:RS A}{T N:A->aH->Prop}{U:B->aH->Prop}{X:Xc->Prop}{Y:aH}
def Out.eq(e:r=Q)(h:Out Q T X):Out r T X:=by rw[e];show h
def Out.imp(h:Out r T X)(k:∀a Y,T a Y->N a Y):Out r N X:=by
 show#[?_];let h:=h.out;cases r with
 |bad=>show h
 |er x o=>show h
 |ok a o=>show k a o h
def Out.bind(h:Out r (λa o=>Out (f a o) U X) X):Out (r.bind f) U X:=by
 show#[?_];let h:=h.out;cases r with
 |bad=>show h
 |er x o=>show h
 |ok a o=>show(show Out (f a o) U X from h).out
def Out.all(h:Out r T λ_=>False):∃a o,r=.ok a o/\T a o:=by
 let h:=h.out;cases r with
 |bad=>show h.elim
 |er x o=>show h.elim
 |ok a o=>show#[a,o,W,h]
end
section
variable{ρ ρ1 Y:aQ}{ω Q Z ω3:aH}{x y z:SV}{i n:Nat}{d:D}{B:bb D}{b:Bool}{f g:dU}{L:dj}{N:aQ->aH->Prop}{T:SV->aH->Prop}{X:Xc->Prop}
def Us(N:aQ->aH->Prop)(T:SV->aH->Prop):FlS->aH->Prop
 |.nx ρ,ω=>N ρ ω
 |.rt v,ω=>T v ω
 |_,_=>False
abbrev kH(r:RS FlS)(N:aQ->aH->Prop)(T:SV->aH->Prop)(X:Xc->Prop):Prop:=Out r (Us N T) X
def je(h:kH (f ρ ω) (λr o=>kH (g r o) N T X) T X):kH (aD f g ρ ω) N T X:=by
 show Out.bind (h.imp λa o k=>?_);cases a with
 |nx r=>show k
 |rt v=>show#[k]
 |ct r=>show k.elim
 |bk r=>show k.elim
theorem C8(a:f ρ ω=.ok (.nx ρ1) Q)(h:kH (g ρ1 Q) N T X):kH (aD f g ρ ω) N T X:=je (.eq a #[h])
theorem wF(a:f ρ ω=.ok (.nx ρ1) Q)(h:N ρ1 Q):kH (f ρ ω) N T X:=.eq a #[h]
theorem ci(e:L ρ ω=.ok x Q)(a:gt x ρ Q=.ok ρ1 Z)(h:kH (g ρ1 Z) N T X):kH (aD (bW L gt) g ρ ω) N T X:=C8 (by ext bW;rw[e,d0,a,d0]) h
theorem JL(a:Out (L ρ ω) (λx Q=>kH (g (ρ.set i (M x)) Q) N T X) X):kH (aD (bW L (eY i)) g ρ ω) N T X:=je (Out.bind (a.imp λ_ _ k=>#[k]))
theorem ES(a:Out (L ρ ω) (λ_ Q=>N ρ Q) X):kH (br L ρ ω) N T X:=Out.bind (a.imp λ_ _ k=>#[k])
def LW{j a:dU}(e:c ρ ω=.ok R Q)(h:kH (aD a g ρ Q) N T X):kH (aD (bV c j a) g ρ ω) N T X:=by show .eq ?_ h;unfold aD bV;rw[e,d0,a3 Ve]
theorem Jl(h:kH (g ρ ω) N T X):kH (aD bZ g ρ ω) N T X:=je #[h]
theorem sV(a:L ρ ω=.ok x Q)(h:T x Q):kH (gJ L ρ ω) N T X:=.eq (gD a) #[h]
def sk(a:xs.map M++UW (n - xs.length) P=ρ)(h:kH (g ρ ω) (λ_ c=>T (.fz .none) c) T X):Out (cE n g xs ω) T X:=by
 ext cE;rw[a];show Out.bind (h.imp λe o k=>?_);cases e with
 |nx r=>show#[k]
 |rt v=>show#[k]
 |ct r=>show k.elim
 |bk r=>show k.elim
theorem D4{b:dU}(I:Nat->aQ->aH->Prop)(M:Nat)(j:∀n ρ ω,I n ρ ω->(∃Q,c ρ ω=.ok R Q/\N ρ Q)\/(n<M/\∃Q,c ρ ω=.ok S Q/\kH (b ρ Q) (I (n+1)) T X)):∀(m n:Nat) (ρ:aQ) (ω:aH),M - n<m->I n ρ ω->kH (qN c b m ρ ω) N T X
 |0,n,_,_,h,_=>by ext
 |m+1,n,ρ,ω,h,h0=>by
  rcases j n ρ ω h0 with⟨Q,e,p⟩|⟨q,Q,e,l⟩
  .show .eq (show qN c b (m+1) ρ ω=.ok (.nx ρ) Q from ?_) #[p];show((c ρ ω).bind _)=_;rw[e,d0,a3 Ve]
  .show .eq (show qN c b (m+1) ρ ω=(b ρ Q).bind λa Z=>match a with
    |.nx Y=>qN c b m Y Z
    |.ct Y=>qN c b m Y Z
    |.bk Y=>.ok (.nx Y) Z
    |.rt x=>.ok (.rt x) Z from ?_) (Out.bind (l.imp λa o k=>?_))
   .show((c ρ ω).bind _)=_
    rw[e,d0,ax W]
    all_goals (cases b ρ Q with
     |bad=>rfl
     |er x o=>rfl
     |ok a o=>ext a<;>rfl)
   .cases a with
    |nx r=>show D4 I M j m (n+1) r o () k
    |rt v=>show#[k]
    |ct r=>show k.elim
    |bk r=>show k.elim
theorem uH{b:dU}(I:Nat->aQ->aH->Prop)(M:Nat)(h:M<1000000)(e:I 0 ρ ω)(a:∀n ρ ω,I n ρ ω->(∃Q,c ρ ω=.ok R Q/\N ρ Q)\/(n<M/\∃Q,c ρ ω=.ok S Q/\kH (b ρ Q) (I (n+1)) T X)):kH (oz c b ρ ω) N T X:=D4 I M a 1000000 0 ρ ω () e
theorem y8{b:dU}(I:Nat->aQ->aH->Prop):∀(B:G D) (k:Nat) (ρ:aQ) (ω:aH),I k ρ ω->(∀i d ρ ω,B[i]?=M d->I (k+i) ρ ω->∃ρ1 Q,gt (.fz d) ρ ω=.ok ρ1 Q/\kH (b ρ1 Q) (I (k+i+1)) T X)->kH (jp gt b B ρ ω) (I (k+B.length)) T X
 |[],k,ρ,ω,h0,_=>#[h0]
 |d::r,k,ρ,ω,h0,C=>by
  let(ρ1,Q,w,u):=C 0 d ρ ω W h0;let p:∀j a,I (k+1) j a->kH (jp gt b r j a) (I (k+(r.length+1))) T X:=λj a h=>by
   let e:k+(r.length+1)=k+1+r.length:=by ext
   rw[e];show y8 I r (k+1) j a h λi A m l hi t=>?_;let e:k+1+i=k+(i+1):=by ext
   rw[e]at t⊢;show C (i+1) A m l (by simpa using hi) t
  show .eq (show jp gt b (d::r) ρ ω=(b ρ1 Q).bind λq Z=>match q with
   |.nx Y=>jp gt b r Y Z
   |.ct Y=>jp gt b r Y Z
   |.bk Y=>.ok (.nx Y) Z
   |.rt x=>.ok (.rt x) Z from ?_) (Out.bind (u.imp λq o k=>?_))
  .show((gt (.fz d) ρ ω).bind _)=_
   rw[w,d0]
   all_goals (cases b ρ1 Q with
    |bad=>rfl
    |er x o=>rfl
    |ok q o=>ext q<;>rfl)
  .cases q with
   |nx r=>show p _ _ k
   |rt v=>show#[k]
   |ct r=>show k.elim
   |bk r=>show k.elim
def CD{b:dU}(I:Nat->aQ->aH->Prop)(m:C ρ ω=.ok B Q)(h:I 0 ρ Q)(a:∀i d ρ ω,B[i]?=M d->I i ρ ω->∃ρ1 Q,gt (.fz d) ρ ω=.ok ρ1 Q/\kH (b ρ1 Q) (I (i+1)) T X)(e:∀l c,I B.length l c->N l c):kH (sW C gt b ρ ω) N T X:=by
 let:=y8 I B 0 ρ Q h (by simpa using a);rw[XB]at this;show .eq ?_ (this.imp λj o k=>?_)
 .ext sW;rw[m,d0]
 .cases j with
  |nx r=>show e _ _ k
  |rt v=>show k
  |ct r=>show k.elim
  |bk r=>show k.elim
def yS(a:fo ρ ω=.ok (.rf i) Q)(h:Q[i]?=M (.obj C fs))(hm:fs.lookup m=P)(j:fa ρ Q=.ok xs Z)(c:(SV.rf i::xs).length=n):mF C m F n fo fa ρ ω=F (.rf i::xs) Z:=by
 let e:j3 Q C m (.rf i)=S:=by ext j3;dsimp only;rw[h];dsimp only;rw[hm];simp
 ext mF;rw[a,d0,ax e,j,d0,ax c]
def Mh(c:fa ρ ω=.ok xs Q)(a:(SV.rf Q.length::xs).length=n):AC C F n fa ρ ω=(F (.rf Q.length::xs) (Q++[.obj C []])).bind λr Z=>(if Bb r=S then .ok (.rf Q.length) Z else .bad):=by ext AC;rw[c,d0];ext rn;rw[ax a]
def CY(c:fa ρ ω=.ok xs Q)(a:(xs++es.map SV.fz).length=n):vk F n es fa ρ ω=F (xs++es.map SV.fz) Q:=by ext vk;rw[c,d0,ax a]
def Bu(e:o ρ ω=.ok xs Q)(c:(xs++es.map SV.fz).length=n)(a:F (xs++es.map SV.fz) Q=.ok x Z):oa F n es o ρ ω=.ok x Z:=by ext oa;rw[e,d0,ax c,a];rfl
def Am{c f:Str}(h:L ρ ω=.ok (.fz d) Q)(hd:L9.Q7 d=S):kY c f L ρ ω=.er #[c,[(f,d)]] Q:=by ext kY;rw[h,d0];dsimp only;rw[ax hd]
end
end L10
namespace L3
open PySem PyProof.Rows L2
section
variable{P:Vc}{w:Vw}{K:CL}{N:Str->bg UI}{base h:Heap}{f T:UP}{n:Str}{t:Wz}{Q:bb Str}{Y:Nat}{L:Sp}{U:tE}{Z:Array UI}
theorem NI.aiV(i:NI K f n t)(X:K.In h)(G:h.Ns U9 N)(b:BA n n t Q)(ok:∀fd,ZD K n n t f fd->FnOk P w K N base U Y f fd Q L):AW P w K N base U Y n Q [] L:=
 let#[fd,z]:=i.F;#[f,fd,[],ok fd z,z.binds b,.nil,z.kp,Ww X G i.a]
structure DI(K:CL)(f T:J)(n:Str)(t:Wz)(Z:Array UI):Prop where
 a:Vj K U9 n=M (M (.ref f))
 F:∃fd,aaZ K n n t f fd T Z
theorem Jb{x a:Str}{st:Wz}{q:UI}{p:I J}{kV b i:UI}{j:I J}{g ct:UI}{e:Array (I UI)}{o:UI}{m:I J}{k:Nat}{l:Array (I UI)}
  (r:K.lookup f=M #[q,p,.func (Wc x a (eP st) (bT st) (aw st) (.ref T) kV b i j g ct),e]) (v:XY K g a=S) (u:Wn K (.ref f)=S) (lt:K.lookup T=M #[o,m,.seq Z k,l]):aaZ K x a st f (Wc x a (eP st) (bT st) (aw st) (.ref T) kV b i j g ct) T Z:=
 #[#[_,_,_,_,_,_,_,_,_,W,r,v],u,_,_,lt,W]
def BD(n:Str)(t:Wz)(T:J)(Z:Array UI)(Q:G Str)(ds:G UI):Prop:=∀(kV b e:UI) (g:I J) (i ct:UI) (a:G UI),(a++ds).length=Q.length->∃k:I (Array UI)->Sem (G (Str×UI)),bindArgs (Wc n n (eP t) (bT t) (aw t) (.ref T) kV b e g i ct) #[a,[]]=seqItems? (.ref T)>>=k/\k (M Z)=pure (Q.zip (a++ds))
theorem DI.cal{ds:bb UI}{b:bb V}(i:DI K f T n t Z)(X:K.In h)(G:h.Ns U9 N)(g:BD n t T Z Q ds)(e:Vals b ds)(ok:∀fd,aaZ K n n t f fd T Z->FnOk P w K N base U Y f fd Q L):AW P w K N base U Y n Q b L:=
 let#[fd,z]:=i.F;#[f,fd,ds,ok fd z,z.binds g,e,z.kp,Ww X G i.a]
end
structure Tp(P:Vc)(w:Vw)(K:CL)(mg:Str->I U)(base h:Heap):Prop where
 X:K.In h
 G:h.Ns U9 mg
section
variable{P:Vc}{w:Vw}{K:CL}{X:Str->bg UI}{base h:Heap}{f C T:UP}{n m q:Str}{t:Wz}{Q fs:bb Str}{Z:Nat}{N:Sp}{Y:tE}{U:Array UI}
theorem NI.c(i:NI K f n t)(W:Tp P w K X base h)(ok:∀fd,ZD K n n t f fd->FnOk P w K X base j0 Z f fd Q N)(a:BA n n t Q:=by ext:2):vt P w K X base Z n Q N:=i.cal W.X W.G a ok
theorem NI.d(i:NI K f n t)(W:Tp P w K X base h)(ok:∀fd,ZD K n n t f fd->FnOk P w K X base Y Z f fd Q N)(a:BA n n t Q:=by ext:2):AW P w K X base Y Z n Q [] N:=i.aiV W.X W.G a ok
theorem MI.mt(i:MI K C f m q t)(c:CI K C n fs)(W:Tp P w K X base h)(ok:∀fd,ZD K m q t f fd->FnOk P w K X base Y Z f fd Q N)(a:BA m q t Q:=by ext:2):L10.lL P w K X base Y Z n m Q N:=i.afS c a ok
theorem MI.k(i:MI K C f "__init__" q t)(c:CI K C n fs)(W:Tp P w K X base h)(ok:∀fd,ZD K "__init__" q t f fd->FnOk P w K X base Y Z f fd Q N)(a:BA "__init__" q t Q:=by ext:2):L10.vI P w K X base Y Z n Q N:=i.aiT c W.X W.G a ok
theorem DI.c{ds:G UI}{a:G V}(i:DI K f T n t U)(W:Tp P w K X base h)(b:Vals a ds)(ok:∀fd,aaZ K n n t f fd T U->FnOk P w K X base Y Z f fd Q N)(e:BD n t T U Q ds:=by ext:7):AW P w K X base Y Z n Q a N:=i.cal W.X W.G e b ok
end
end L3
namespace L10
open PySem PySem.Spec PyProof.Rows L2 L3
def NN:D->D->I RV:=fI λi j=>i+j
def Lm:R2:=TV λi j=>i+j
theorem JQ{X:Cx}:Si X .Add Lm:=LX
def Bh{K:CL}:iA K Lm NN:=by intro O H x y h f g Q n b a e q;let(i,j,rfl,rfl,rfl):=vn e;ext b;ext a;show#[_,_,W,W,q.at (.int _)]
end L10
namespace PySem
namespace SetTable
def TU(xs:Array Nat):Prop:=xs.toList.Pairwise (·<·)
structure TI(b:Bool)(t:SetTable):Prop where
 led:t.led=b
 dm:t.dummies= #v[]
 ris:TU t.place
end SetTable
end PySem
namespace PySem
open SetTable
section
variable{prog:Vc}{w:Vw}{K:Type}[DecidableEq K]{knd:KeyKind prog w K}{A:Vq}{E:UI->UQ->Prop}{s:UQ}{b:Bool}{a:UP}{es:Array (Int×UI)}
structure SetX(knd:KeyKind prog w K)(b:Bool)(h:Heap)(a:J)(es:Array (Int×U)):Prop where
 x:∃o ep t,h.get? a=M o/\o.ExactSet/\o.data=.set es ep t/\t.fits es.size=S/\TI b t
 el:ElemsOf knd es.toList
 sz:es.size<scanBound
end
end PySem
namespace PySem
namespace SetTable
structure TT(t:SetTable)(n:Nat):Prop where
 k:∃k,t.mask+1=2^k
 dm:t.dummies= #v[]
 ris:TU t.place
 le:∀v∈t.place.toList,v<=t.mask
 sz:t.place.size=n
 few:n*5<t.mask*3
section
variable{t:SetTable}{n:Nat}{p:Probe}
structure PI(t:SetTable)(p:Probe):Prop where
 nine:p.more<=9
 jm:p.j+p.more<=t.mask
 pt:p.perturb<2^64
 dm:p.dummy=P
end
end SetTable
end PySem
namespace LD
open PySem PySem.SetTable PyProof.Rows L2 L3
section
variable{prog:Vc}{w:Vw}{E:UI->UQ->Prop}
variable{A:Vq}{s:UQ}
structure SetH(prog:Vc)(w:Vw)(b:Bool)(h:Heap)(a:J)(es:Array (Int×U))(ks:G (KD×J)):Prop where
 x:∃o ep t,h.get? a=M o/\o.ExactSet/\o.data=.set es ep t/\TT t es.size/\t.led=b/\t.mask<=8*es.size+8
 el:∀e∈es.toList,∃k c,(k,c)∈ks/\e.2=.ref c/\(fX prog w).is h k c
mutual
theorem Bv{h h':Heap}{x:UP}{b:Obj}(e:h.get? x=cL b)(g:∀vs n,b.data≠.seq vs n)(f:Heap.SameBut x h h'):∀(d:UM) (v:UI) (as:bb UP),kd d=UJ->abe h v d as->abe h' v d as
 |.none,_,_,_,r=>by cases r;exact .none
 |.int _,_,_,_,r=>by cases r;exact .int _ _
 |.str _,_,_,_,r=>by cases r;exact .str _ _
 |.tuple xs,_,_,k,r=>by
  cases r with
  | @tuple a o vs n _ _ h1 h2 h3 h4=>
   have i:a≠x:=by rintro rfl;rw[e]at h1;cases h1;exact g _ _ h3
   unfold kd at k;exact .tuple ((f.2 a i).trans h1) h2 h3 (p8 e g f xs _ _ k h4)
 |.bool _,_,_,h,_|.list _,_,_,h,_|.dict _,_,_,h,_=>by simp[kd]at h
theorem p8{h h':Heap}{x:UP}{a:Obj}(b:h.get? x=cL a)(f:∀vs n,a.data≠.seq vs n)(e:Heap.SameBut x h h'):∀(ds:bb UM) (vs:bb UI) (as:bb UP),kds ds=UJ->Zw h vs ds as->Zw h' vs ds as
 |[],_,_,_,r=>by cases r;exact .nil
 |d::ds,_,_,k,r=>by
  cases r with
  |cons i g=>unfold kds at k;rw[UH]at k;exact .cons (Bv b f e d _ _ k.1 i) (p8 b f e ds _ _ k.2 g)
end
end
end LD
namespace L2
open PySem PySem.Spec PyProof.Rows
variable{X:Cx}{a b:Va}{Y:bb Va}{T:Pos}{Q N:TE}
end L2
namespace CC
open PySem L2 L3 L10
def iz:Va->Bool
 |.BinOp .. |.UnaryOp .. |.IfExp .. |.ListComp .. |.Compare .. |.Call .. |.Constant .. |.Attribute .. |.Subscript .. |.Name .. |.List .. |.Tuple .. |.BoolOp .. |.JoinedStr .. |.Dict .. =>S
 |_=>R
def gn:Va->Bool
 |.BinOp .. |.Call .. |.Attribute .. |.Subscript .. |.Name .. =>S
 |_=>R
def MR:Va->Bool
 |.ListComp .. =>S
 |_=>R
def Qq:Va->Bool
 |.Constant .. |.Attribute .. |.Subscript .. |.Name .. =>S
 |_=>R
section
variable{e o a b:Va}{es:bb Va}{env:Env}{Y p:Pos}{n k:Nat}
def kM(h:iz e=S):U7 (e::es) env=(R,eval e env)::U7 es env:=by ext e<;>first|rfl|ext h
def sO(h:iz e=S):Ad e:=by ext e<;>first|(intro _ _;rfl)|ext h
def yI(h:iz e=S):∀x,foldedSetIterable e env x=pure x:=by ext e<;>first|(intro _;rfl)|ext h
def GY(h:gn e=S):∀whole:Sem U,isTrue e env whole=(do let v<-whole;standAt e.pos;holding [v] (truthy v)):=by ext e<;>first|(intro _;rfl)|ext h
def yy{t}(h:(iz e&& !MR e)=S):Xe e t n env=pure R:=by ext e<;>first|rfl|ext h
def RN{f p}(h:iz e=S):Xe e (M (.Attribute o f p)) n env=pure R:=by ext e<;>first|rfl|ext h
def KR(h:iz e=S):Xe e (M (.Subscript o a p)) n env=pure R:=by ext e<;>first|rfl|ext h
def gu{f:Str}(h:Qq e=S):attributeBase e f env (eval e env)=eval e env:=by ext e<;>first|rfl|ext h
def Hl(h:iz e=S):LY e=R:=by ext e<;>first|rfl|ext h
def Jp(h:gn e=S):swapsWithSole [.Tuple es k p] e n env=pure R:=by ext e<;>first|rfl|ext h
def AN(h:gn e=S):swappedStores [.Tuple es k p] e env=pure P:=by ext e<;>first|rfl|ext h
def MX(h:es.all iz=S):((backTo Y (U7 es env)).any λx=>x.1)=R:=by
 induction es with
 |nil=>rfl
 |cons e es f=>rw[XW,UH]at h;rw[kM h.1];show f h.2
def Mu(h:es.all iz=S):((backTo Y (U7 es env)).all λx=> !x.1)=S:=by
 induction es with
 |nil=>rfl
 |cons e es f=>rw[XW,UH]at h;rw[kM h.1];show f h.2
def dY(h:(e::es).all iz=S):U7 (e::es) env=(R,eval e env)::U7 es env:=by rw[XW,UH]at h;show kM h.1
def gR(h:(e::es).all iz=S):((backTo Y (U7 es env)).any λx=>x.1)=R:=by rw[XW,UH]at h;show MX h.2
def nv(h:es.all iz=S)(f:es.length<20):methodCallForm (es.length+([]:G YC).length) (backTo Y (U7 es env)) (backToKw Y (keywordEach [] env))=S:=by ext methodCallForm;rw[Mu h,Yo];show(UH _ _).mpr #[W,a4 ?_];show es.length+0+0<30;ext
def Rs{q}{m:Str}(h:Qq o=S)(g:es.all iz=S)(i:es.length<20)(j:(p.endLine==q.line)=S):∃pl,eval (.Call (.Attribute o m p) es [] q) env=(do
   let C<-eval o env
   standAt p.atName
   let(f,first)<-holding [C] (getMethod C m pl)
   callWith q f first (backTo q (U7 es env)) (backToKw q (keywordEach [] env))):=by
 show#[do return(<-importBound o env).getD S,?_];show(do
  let C<-attributeBase o m env (eval o env)
  standAt p.atName
  methodCall o m p q env C (es.length+([]:G YC).length) (backTo q (U7 es env)) (backToKw q (keywordEach [] env)))=_
 rw[gu h];unfold methodCall calleeOf methodCallPos;rw[nv g i,j];rfl
def RA{elt g sc x}(h1:env.scope.kind=.function)(f:env.kindOf x=M .local)(d:(p.line==Y.line)=S)(c:(sc.names.any λy=>y.1==x&&(y.2==.local||y.2==.cell))=R):Xe (.ListComp elt [g] sc Y) (M (.Name x p)) n env=pure S:=by show(pure _:Sem Bool)=_;rw[show env.blockKind=.function by ext Env.blockKind;rw[h1];rfl,f];show(pure (_&&(p.line==Y.line)&& !(sc.names.any λy=>y.1==x&&(y.2==.local||y.2==.cell))):Sem Bool)=_;rw[d,c];rfl
end
def bc{α:Type}{o:I α}{p:α->Bool}(h:o.any p=S):∃x,o=M x/\p x=S:=by
 cases o with
 |none=>ext h
 |some x=>show#[x,W,h]
def pW{α:Type}{P:α->Prop}{o:I α}(k:o.elim True P){x:α}(h:o=M x):P x:=by subst h;show k
def vN:Va->I (Str×Pos)
 |.Name x p=>M (x,p)
 |_=>P
def vC:Va->I Const
 |.Constant c _ _=>M c
 |_=>P
def Rf:Va->I (Va×aba×Va)
 |.BinOp a o b _=>M (a,o,b)
 |_=>P
def Nh:Va->I (Va×G aaF×G Va)
 |.Compare a o b _=>M (a,o,b)
 |_=>P
def vW:Va->I (Va×Va×Pos)
 |.Subscript a b p=>M (a,b,p)
 |_=>P
def Tn:Va->I (I Va×I Va×I Va)
 |.Slice a b c _=>M (a,b,c)
 |_=>P
def F6:Va->I (G Va)
 |.Tuple es _ _=>M es
 |_=>P
def Qb:Va->I (G Va)
 |.List es _=>M es
 |_=>P
def zd:Va->I (Va×G Va×G YC×Pos)
 |.Call f es a p=>M (f,es,a,p)
 |_=>P
def Sm:Va->I (Va×Str×Pos)
 |.Attribute o x p=>M (o,x,p)
 |_=>P
def TR:Va->I (Va×Va×Va)
 |.IfExp c a b _=>M (c,a,b)
 |_=>P
def SY:Va->I (BoolOp×G Va×Pos)
 |.BoolOp o es p=>M (o,es,p)
 |_=>P
def Tr:Va->I (UnaryOp×Va)
 |.UnaryOp o a _=>M (o,a)
 |_=>P
def Tl:Va->I (Va×G X1×WO×Pos)
 |.ListComp e g s p=>M (e,g,s,p)
 |_=>P
def TN:Va->I (G (I Va)×G Va)
 |.Dict k v _=>M (k,v)
 |_=>P
section
variable{e:Va}
theorem rc(h:vN e=M x):e=.Name x.1 x.2:=pW (P:=λx=>e=.Name x.1 x.2) (by ext e<;>first|show trivial|rfl|show#[_,W]|show#[_,_,W]) h
theorem Lj(h:vC e=M x):∃k p,e=.Constant x k p:=pW (P:=λx=>∃k p,e=.Constant x k p) (by ext e<;>first|show trivial|rfl|show#[_,W]|show#[_,_,W]) h
theorem IM(h:Rf e=M x):∃p,e=.BinOp x.1 x.2.1 x.2.2 p:=pW (P:=λx=>∃p,e=.BinOp x.1 x.2.1 x.2.2 p) (by ext e<;>first|show trivial|rfl|show#[_,W]|show#[_,_,W]) h
theorem zS(h:Nh e=M x):∃p,e=.Compare x.1 x.2.1 x.2.2 p:=pW (P:=λx=>∃p,e=.Compare x.1 x.2.1 x.2.2 p) (by ext e<;>first|show trivial|rfl|show#[_,W]|show#[_,_,W]) h
theorem iH(h:vW e=M x):e=.Subscript x.1 x.2.1 x.2.2:=pW (P:=λx=>e=.Subscript x.1 x.2.1 x.2.2) (by ext e<;>first|show trivial|rfl|show#[_,W]|show#[_,_,W]) h
theorem Py(h:Tn e=M x):∃p,e=.Slice x.1 x.2.1 x.2.2 p:=pW (P:=λx=>∃p,e=.Slice x.1 x.2.1 x.2.2 p) (by ext e<;>first|show trivial|rfl|show#[_,W]|show#[_,_,W]) h
theorem tG(h:F6 e=M x):∃k p,e=.Tuple x k p:=pW (P:=λx=>∃k p,e=.Tuple x k p) (by ext e<;>first|show trivial|rfl|show#[_,W]|show#[_,_,W]) h
theorem IG(h:Qb e=M x):∃p,e=.List x p:=pW (P:=λx=>∃p,e=.List x p) (by ext e<;>first|show trivial|rfl|show#[_,W]|show#[_,_,W]) h
theorem pA(h:zd e=M x):e=.Call x.1 x.2.1 x.2.2.1 x.2.2.2:=pW (P:=λx=>e=.Call x.1 x.2.1 x.2.2.1 x.2.2.2) (by ext e<;>first|show trivial|rfl|show#[_,W]|show#[_,_,W]) h
theorem wT(h:Sm e=M x):e=.Attribute x.1 x.2.1 x.2.2:=pW (P:=λx=>e=.Attribute x.1 x.2.1 x.2.2) (by ext e<;>first|show trivial|rfl|show#[_,W]|show#[_,_,W]) h
theorem Ow(h:TR e=M x):∃p,e=.IfExp x.1 x.2.1 x.2.2 p:=pW (P:=λx=>∃p,e=.IfExp x.1 x.2.1 x.2.2 p) (by ext e<;>first|show trivial|rfl|show#[_,W]|show#[_,_,W]) h
theorem Dk(h:SY e=M x):e=.BoolOp x.1 x.2.1 x.2.2:=pW (P:=λx=>e=.BoolOp x.1 x.2.1 x.2.2) (by ext e<;>first|show trivial|rfl|show#[_,W]|show#[_,_,W]) h
theorem Mj(h:Tr e=M x):∃p,e=.UnaryOp x.1 x.2 p:=pW (P:=λx=>∃p,e=.UnaryOp x.1 x.2 p) (by ext e<;>first|show trivial|rfl|show#[_,W]|show#[_,_,W]) h
theorem OQ(h:Tl e=M x):e=.ListComp x.1 x.2.1 x.2.2.1 x.2.2.2:=pW (P:=λx=>e=.ListComp x.1 x.2.1 x.2.2.1 x.2.2.2) (by ext e<;>first|show trivial|rfl|show#[_,W]|show#[_,_,W]) h
theorem OG(h:TN e=M x):∃p,e=.Dict x.1 x.2 p:=pW (P:=λx=>∃p,e=.Dict x.1 x.2 p) (by ext e<;>first|show trivial|rfl|show#[_,W]|show#[_,_,W]) h
def yr(e:Va):Bool:=(F6 e).isSome
def uO(h:yr e=S):∃l k p,e=.Tuple l k p:=by let(x,h):=Wm.mp h;show#[x,tG h]
end
abbrev Fd:=Vc->Vw->CL->(Str->I U)->Heap->Prop
abbrev j5(lv:Nat)(x:Str)(b:G Str)(n:Nat)(F:FN):Fd:=λP w K a base=>SE P w K a base lv x b n F
abbrev Kp(lv:Nat)(x:Str)(b:G Str)(n:Nat)(F:fT):Fd:=λP w K a base=>vt P w K a base lv x b (kA K n F)
abbrev wk(b:Bool)(lv:Nat)(C x:Str)(c:G Str)(n:Nat)(F:fT):Fd:=λP w K a base=>lL P w K a base (if b then L4.lB P w else j0) lv C x c (kA K n F)
abbrev Tu(lv:Nat)(C:Str)(b:G Str)(n:Nat)(F:fT):Fd:=λP w K a base=>vI P w K a base j0 lv C b (kA K n F)
structure Md where
 bl:G Str
 ex:G Str
 cs:G (Str×D)
 cl:G (Str×G Str)
structure Gm where
 M:Md
 N:G Str
 sc:G (Str×Vb)
 lv:Nat
 rz:Bool
 fa:Bool
 fc:G Str
 top:Nat
abbrev Rn:G U:=[.type "ValueError",.type "Exception",.type "BaseException",.type "object"]
structure aaW(K:CL)(mg:Str->I U)(M:Md):Prop where
 bl:∀x∈M.bl,mg x=P
 ex:∀x∈M.ex,∃C,Vj K U9 x=cL (cL (.ref C))/\mg x=cL (.ref C)/\XG K C Rn "ValueError.__new__"=S
 cs:∀x d,M.cs.lookup x=cL d->∃v u,mg x=cL u/\RelV v u/\∀O H,DV O K H v d
 cl:∀C L,M.cl.lookup C=cL L->jT K C L
structure Ct(T:G Fd)(Γ:Gm)(X:Cx)(E:XK):Prop where
 n:X.N=Γ.N
 nd:X.N.Nodup
 sc:X.env.scope.names=Γ.sc
 kd:X.env.scope.kind=.function
 cm:X.calm=S
 rm:WC Γ.lv X.A
 po:Γ.fa=S->aaq (model X.prog X.w) X.A X.env X.xe
 px:Γ.rz=S->∃(N:G Str) (qual:Str) (scope:WO) (f:J) (cd:U) (A:Vq) (outer:G Env) (s0:UQ) (H0:Hp),X=eZ (L4.lB X.prog X.w) X.prog X.w X.K X.mg X.base N qual scope f cd A outer s0 H0 E
 fc:∀x∈Γ.fc,X.fn x=S
 md:aaW X.K X.mg Γ.M
 fs:∀i fd,i<Γ.top->T[i]?=M fd->fd X.prog X.w X.K X.mg X.base
def Ru(s:G (Str×Vb))(x:Str):Bool:=s.lookup x==M .local||s.lookup x==M .cell||s.lookup x==M .free
def Kv(x:Str):Bool:= !(x==("__debug__":Str))&& !(x==("__classdict__":Str))&& !(x==("__name__":Str))
def PM(a:Gm)(x:Str):Bool:=a.sc.lookup x==M .globalImplicit&&Kv x
def blt(a:Gm)(x:Str):Bool:=PM a x&&a.M.bl.contains x
def eD{a:I Vb}{b:Vb}(h:(a==M b)=S):a=M b:=by
 cases a with
 |none=>ext h
 |some a=>ext a<;>ext b<;>first|rfl|ext h
section
variable{T:bb Fd}{Z:Gm}{X:Cx}{E:XK}{x:Str}{i:Nat}
def rU(h:Kv x=S):(x==("__debug__":Str))=R/\(x==("__classdict__":Str))=R/\x≠("__name__":Str):=by unfold Kv at h;simp only[UH,WM]at h;show#[h.1.1,h.1.2,λe=>by rw[e,dw]at h;cases h.2]
def lO(c:Ct T Z X E)(h:PM Z x=S):Gl X x/\(x==("__debug__":Str))=R/\x≠("__name__":Str):=by unfold PM at h;rw[UH]at h;show#[?_,(rU h.2).1,(rU h.2).2.2];show X.env.scope.names.lookup x=_;rw[c.sc];show eD h.1
def l4(c:Ct T Z X E)(h:blt Z x=S):Gl X x/\X.mg x=P/\(x==("__debug__":Str))=R/\x≠("__name__":Str):=by unfold blt at h;rw[UH]at h;let(b,a):=lO c h.1;show#[b,c.md.bl x (YS.mp h.2),a]
def Dz(c:Ct T Z X E)(h:Z.rz=S):d9 (L4.lB X.prog X.w) X E:=by let(N,g,a,f,l,A,b,j,m,e):=c.px h;rw[e];show L4.DP
end
abbrev Jd(a:Type):=CL->XK->a->Prop
def eo(g:FE):Jd TE:=λK E t=>EO K E t g
def es(g:dj):Jd TE:=λK E t=>cB K E t g
def ao(g:FA):Jd TA:=λK E t=>AO K E t g
def as(g:uU):Jd TA:=λK E t=>tP K E t g
def lH(g:FT):Jd TT:=λK E t=>TTO K E t g
def l6(g:qK):Jd TT:=λK E t=>ul K E t g
def oo(g:FO):Jd TO:=λK E t=>Sd K E t g
def go(g:FG):Jd TG:=λK E t=>GO K E t g
def Gr(g:z7):Jd TG:=λK E t=>Lx K E t g
def gs(g:PX):Jd wy:=λK E t=>Ro K E t g
def OL(g:A8):Jd wy:=λK E t=>C6 K E t g
def io(g:FI):Jd TI:=λK E t=>L3.IO K E t g
def Lu(g:FI):Jd TI:=λK E t=>Sx K E t g
def PY(g:Op):Jd TI:=λK E t=>QO K E t g
def so(g:FS):Jd TS:=λK E t=>SO K E t g
def cV(g:dU):Jd TS:=λK E t=>mP K E t g
class CK (T:G Fd) {α τ:Type} (P:Cx->α->τ->Prop) (J:Jd τ) where
 chk:Gm->α->Bool
 ok:∀{Γ X E a},Ct T Γ X E->chk Γ a=S->∃t,P X a t/\J X.K E t
def Uw(X:Cx)(e:Va)(t:TG):Prop:=PG X e t/\∀r,assignEach (e::r) X.env=(R,assign e X.env)::assignEach r X.env
def Uy(X:Cx)(r:G Va)(t:wy):Prop:=Rt X r t/\(assignEach r X.env).length=r.length/\List.findIdx? (λx=>x.1) (assignEach r X.env)=P
def UF(X:Cx)(p:Va×Va)(t:TI):Prop:=PI X p.1 p.2 t/\iz p.2=S
abbrev CE(T:G Fd)(J:Jd TE):=CK T PE J
abbrev CA(T:G Fd)(J:Jd TA):=CK T PA J
abbrev CT(T:G Fd)(J:Jd TT):=CK T PT J
abbrev CQ(T:G Fd)(J:Jd TT):=CK T wm J
abbrev CO(T:G Fd)(J:Jd TO):=CK T PO J
abbrev CG(T:G Fd)(J:Jd TG):=CK T Uw J
abbrev CH(T:G Fd)(J:Jd wy):=CK T Uy J
abbrev CI(T:G Fd)(J:Jd TI):=CK T UF J
abbrev CU(T:G Fd)(J:Jd TS):=CK T PS J
abbrev CS(T:G Fd)(J:Jd TS):=CK T PSs J
def we{T:G Fd}{α a:Type}{P:Cx->α->a->Prop}{A J:Jd a}[x:CK T P A](k:∀{K E t},A K E t->J K E t):CK T P J:=#[x.chk,λc h=>let#[t,p,q]:=x.ok c h;#[t,p,k q]]
end CC
set_option warn.classDefReducibility false
namespace CC
open PySem L2 L3 L10
variable{T:bb Fd}
def IZ(i:Nat)(a:Gm)(e:Va):Bool:=(vN e).any λx=>a.N[i]? ==M x.1&&Ru a.sc x.1&&Kv x.1
def xC{a:Gm}{X:Cx}{E:XK}{i:Nat}{e:Va}(c:Ct T a X E)(h:IZ i a e=S):PE X e (qB i):=by
 let(x,q,h):=bc h;rw[rc q];unfold Ru at h;simp only[UH,Wi]at h;show DJ (by rw[c.n];show beq_iff_eq.mp h.1.1) ?_ (rU h.2).1 (rU h.2).2.1;ext Qg;rw[c.sc];rcases h.1.2 with(z|z)|z
 .show .inl (eD z)
 .show .inr (.inl (eD z))
 .show .inr (.inr (eD z))
def K0{J:Jd TE}(i:Nat)(k:∀{K E},J K E (qB i)):CE T J:=#[IZ i,λc h=>#[_,xC c h,k]]
noncomputable instance:CE T (eo (aa i)):=K0 i LZ
noncomputable instance:CE T (es (ar i)):=K0 i Kg
def dq:Nat->D->D->Bool
 |0,_,_=>R
 |_+1,.int a,.int b=>a==b
 |_+1,.str a,.str b=>a==b
 |_+1,.none,.none=>S
 |_+1,.bool a,.bool b=>a==b
 |n+1,.tuple a,.tuple b=>a.length==b.length&&(a.zip b).all λp=>dq n p.1 p.2
 |n+1,.list a,.list b=>a.length==b.length&&(a.zip b).all λp=>dq n p.1 p.2
 |_,_,_=>R
def M0{f:D->D->Bool}(j:∀a b,f a b=S->a=b):∀{a b:G D},(a.length==b.length&&(a.zip b).all λp=>f p.1 p.2)=S->a=b:=by
 intro a
 induction a with
 |nil=>
  intro b h;cases b with
  |nil=>rfl
  |cons y s=>ext h
 |cons x r i=>
  intro b h;cases b with
  |nil=>ext h
  |cons y s=>rw[UH]at h;let(g,e):=h;rw[List.zip_cons_cons,XW,UH]at e;let g:=eq_of_beq g;rw[j x y e.1,i (b:=s) (by rw[UH];show#[beq_iff_eq.mpr (by simpa using g),e.2])]
def F9:∀(n:Nat) (a b:D),dq n a b=S->a=b:=by
 intro n
 induction n with
 |zero=>intro a b h;ext h
 |succ n e=>intro a b h;ext a<;>ext b<;>first|show a7 h Ve|rfl|show dt _ (eq_of_beq h)|show dt _ (M0 e h)
def cD:Const->I D
 |.int i=>M (.int i)
 |.str x=>M (.str x)
 |.bool b=>M (.bool b)
 |.none=>M .none
 |_=>P
noncomputable instance{d:D}:CE T (eo (pC d)) where
 chk Γ e:=(((vC e).bind cD).any λa=>dq 9 a d)||((vN e).any λx=>PM Γ x.1&&((Γ.M.cs.lookup x.1).any λa=>dq 9 a d))
 ok c h:=by
  rcases(Wi _ _).mp h with h|h
  .let(a,q,h):=bc h
   obtain rfl:=F9 _ _ _ h;let(k,f,b):=VI.mp q;let(_,_,rfl):=Lj f;ext k<;>ext b
   .show#[_,ON,Pz]
   .show#[_,RL,QV]
   .show#[_,NW,Pg]
   .show#[_,MA,Nk]
  .let(x,q,h):=bc h;rw[UH]at h;let(a,b,g):=bc h.2;obtain rfl:=F9 _ _ _ g;let(j,i,_):=lO c h.1;let(v,u,e1,e2,e3):=c.md.cs _ _ b;rw[rc q];show#[_,JJ j e1 e2 i,C1 e3]
class BOp (f:D->D->I RV) where
 sp:Va->I (Va×Va)
 ok:∀{X:Cx} {e p ta tb},sp e=M p->X.A.units+65<cLine->iz p.2=S->PE X p.1 ta->PE X p.2 tb->∃r,PE X e (Gk r ta tb)/\iA X.K r f
def JE{f:D->D->I RV}(op:aba)(g:∀{X:Cx},∃r,OpR X (Wu op) r/\iA X.K r f):BOp f where
 sp e:=(Rf e).bind λx=>if x.2.1=op then M (x.1,x.2.2)else P
 ok h hu _ ha hb:=by
  let(x,q,a):=VI.mp h;let(_,rfl):=IM q;split at a
  .rename_i z;ext a;let(r,b,i):=g;rw[<-z]at b;show#[r,Sa b ha hb,i]
  .ext a
def TH{f:D->D->I RV}(k:∀{K},iA K (QI K) f):BOp f where
 sp e:=(vW e).map λx=>(x.1,x.2.1)
 ok h _ hp ha hb:=by let(x,q,a):=Yw.mp h;ext a;rw[iH q];show#[_,Kn Dm ha hb (sO hp),k]
class COp (f:D->D->I RV) where
 op:aaF
 ok:∀{X:Cx},X.A.units+65<cLine->∃r,OpR X (V1 op) r/\iA X.K r f
def RZ(op:aaF)(e:Va):I (Va×Va):=(Nh e).bind λx=>match x.2.2 with
 |[b]=>if x.2.1=[op]&& !behindInMarks op b then M (x.1,b)else P
 |_=>P
def sZ{op:aaF}{e:Va}{p:Va×Va}(h:RZ op e=M p):∃pos,e=.Compare p.1 [op] [p.2] pos/\behindInMarks op p.2=R:=by
 let((a,o,b),q,f):=VI.mp h;let(_,rfl):=zS q;dsimp only at f;split at f
 .split at f
  .rename_i z;ext f;rw[UH,decide_eq_true_eq,WM]at z;show#[_,by rw[z.1],z.2]
  .ext f
 .ext f
noncomputable instance[o:COp f]:BOp f where
 sp:=RZ o.op
 ok h hu _ ha hb:=by let(p,rfl,q):=sZ h;let(r,b,a):=o.ok hu;show#[r,GH b ha hb q,a]
noncomputable instance:BOp aR:=TH ET
noncomputable instance:BOp L3.i7:=TH Io
noncomputable instance:COp cH:=#[.Eq,λh=>#[_,On (),Nq]]
noncomputable instance:COp uj:=#[.NotEq,λh=>#[_,Pj (),Os]]
noncomputable instance:COp Ky:=#[.LtE,λ_=>#[_,RK,Ox]]
noncomputable instance:COp MC:=#[.Lt,λ_=>#[_,Qd,NG]]
noncomputable instance:COp wc:=#[.Gt,λ_=>#[_,RF,O9]]
noncomputable instance:COp Sg:=#[.GtE,λ_=>#[_,Rx,Nx]]
noncomputable instance:COp Gq:=#[.In,λh=>#[_,Pf h,MJ]]
noncomputable instance:COp mv:=#[.NotIn,λh=>#[_,JD h,IB]]
noncomputable instance:COp qG:=#[.Is,λ_=>#[_,MK,Ja]]
noncomputable instance:COp i6:=#[.IsNot,λ_=>#[_,II,Kd]]
noncomputable instance:BOp ce:=JE .Add #[_,J0,GW]
noncomputable instance:BOp xL:=JE .Add #[_,xT,Cd]
noncomputable instance:BOp o0:=JE .Sub #[_,Pp,IH]
noncomputable instance:BOp cI:=JE .Mod #[_,Nl,JY]
noncomputable instance:BOp ef:=JE .FloorDiv #[_,Co,Ix]
noncomputable instance:BOp fq:=JE .Mult #[_,JW,EI]
noncomputable instance:BOp qW:=JE .BitAnd #[_,MO,Iy]
noncomputable instance:BOp Bq:=JE .RShift #[_,ME,GX]
section
variable{A B C J:Jd TE}{U Z:Jd TA}{Q R S:Jd TT}
def Qp(A B:Jd TE){f:D->D->I RV}[o:BOp f][x:CE T A][y:CE T B](k:∀{K E r m d},iA K r f->A K E m->B K E d->J K E (Gk r m d)):CE T J where
 chk Γ e:=(o.sp e).any λp=>iz p.2&&x.chk Γ p.1&&y.chk Γ p.2
 ok c h:=by let(p,q,h):=bc h;simp only[UH]at h;let(m,l,j):=x.ok c h.1.2;let(d,i,g):=y.ok c h.2;let(r,b,a):=o.ok q (rC c.rm) h.1.1 l i;show#[_,b,k a j g]
noncomputable instance[BOp f][CE T (eo a)][CE T (eo b)]:CE T (eo (ay f a b)):=Qp (eo a) (eo b) Lk
noncomputable instance[BOp f][CE T (es a)][CE T (es b)]:CE T (es (kI f a b)):=Qp (es a) (es b) Dh
noncomputable instance[CE T (es a)][CE T (es b)]:CE T (es (L10.i7 a b)) where
 chk Γ e:=(vW e).any λp=>iz p.2.1&&CK.chk T PE (es a) Γ p.1&&CK.chk T PE (es b) Γ p.2.1
 ok c h:=by let(p,q,h):=bc h;simp only[UH]at h;let(m,j,i):=CK.ok c h.1.2;let(l,g,f):=CK.ok c h.2;rw[iH q];show#[_,Kn Dm j g (sO h.1.1),L7 i f]
def LF(k:∀{K E},Z K E jU):CA T Z:=#[λ_ l=>l.isEmpty,λ_ h=>by rw[VF.mp h];show#[_,lM,k]]
def Fi(A:Jd TE)(U:Jd TA)[x:CE T A][y:CA T U](k:∀{K E i d},A K E i->U K E d->Z K E (im i d)):CA T Z where
 chk Γ l:=match l with
  |e::r=>iz e&&x.chk Γ e&&y.chk Γ r
  |[]=>UL
 ok c h:=by
  split at h
  .simp only[UH]at h;let(i,g,f):=x.ok c h.1.2;let(d,b,a):=y.ok c h.2;show#[_,iG g b (kM h.1.1),k f a]
  .ext h
noncomputable instance:CA T (ao am):=LF MF
noncomputable instance:CA T (as aK):=LF zE
noncomputable instance[CE T (eo a)][CA T (ao b)]:CA T (ao (ae a b)):=Fi (eo a) (ao b) Jv
noncomputable instance[CE T (es a)][CA T (as b)]:CA T (as (aj a b)):=Fi (es a) (as b) Df
def Km(U:Jd TA)[x:CA T U](k:∀{K E t},U K E t->J K E (GM t)):CE T J where
 chk Γ e:=(F6 e).any (x.chk Γ)
 ok c h:=by let(l,q,h):=bc h;let(_,_,rfl):=tG q;let(t,b,a):=x.ok c h;show#[_,Mf b,k a]
def Qm(U:Jd TA)[x:CA T U](k:∀{K E t},U K E t->J K E (O8 t)):CE T J where
 chk Γ e:=(Qb e).any (x.chk Γ)
 ok c h:=by let(l,q,h):=bc h;let(_,rfl):=IG q;let(t,b,a):=x.ok c h;show#[_,Oc b,k a]
noncomputable instance[CA T (ao a)]:CE T (eo (aU a)):=Km (ao a) M6
noncomputable instance[CA T (as a)]:CE T (es (kR a)):=Km (as a) HR
noncomputable instance[CA T (ao a)]:CE T (eo (cU a)):=Qm (ao a) Ma
noncomputable instance[CE T (eo a)]:CE T (es (ag a)):=we (A:=eo a) ur
noncomputable instance[CE T (es a)]:CE T (es (jV a)):=we (A:=es a) zB
class Fn (T:G Fd) {φ:Type} (k:Nat->Str->G Str->Nat->φ->Fd) (F:φ) (n:Nat) where
 i:Nat
 lv:Nat
 x:Str
 ps:G Str
 h:T[i]?=M (k lv x ps n F)
def P2(b:Gm)(i lv:Nat)(x:Str)(e:Va):I (Va×G Va×Pos×Pos):=(zd e).bind λy=>match y.2.1 with
 |a::r=>(vN y.1).bind λz=>if z.1==x&&PM b x&&decide (i<b.top)&&decide (lv<=b.lv)&&(a::r).all iz&&y.2.2.1.isEmpty then M (a,r,z.2,y.2.2.2)else P
 |[]=>P
def ou{c:Gm}{i lv:Nat}{x:Str}{e:Va}{y:Va×G Va×Pos×Pos}(h:P2 c i lv x e=M y):e=.Call (.Name x y.2.2.1) (y.1::y.2.1) [] y.2.2.2/\PM c x=UJ/\i<c.top/\lv<=c.lv/\(y.1::y.2.1).all iz=UJ:=by
 let((f,l,o,p),q,a):=VI.mp h;rw[pA q];dsimp only at a;split at a
 .let(z,b,g):=VI.mp a
  obtain rfl:=rc b;split at g
  .rename_i z;ext g;simp only[UH,decide_eq_true_eq,beq_iff_eq,VF]at z;let(((((rfl,b),n),m),j),rfl):=z;show#[W,b,n,m,j]
  .ext g
 .ext a
def rJ(U:Jd TA){d:Type}(D:Nat->Str->G Str->Nat->d->Fd)(F:d)(n:Nat)[o:Fn T D F n][u:CA T U](s:Bool)(k:∀{X:Cx} {E lv x L t e r p q},D lv x L n F X.prog X.w X.K X.mg X.base->(s=UJ->d9 (L4.lB X.prog X.w) X E)->WC lv X.A->Gl X x->(x==("__debug__":Str))=UL->(e::r).all iz=UJ->PA X (e::r) t->U X.K E t->∃i,PE X (.Call (.Name x p) (e::r) [] q) i/\J X.K E i):CE T J where
 chk Γ e:=(!s||Γ.rz)&&(P2 Γ o.i o.lv o.x e).any λy=>u.chk Γ (y.1::y.2.1)
 ok c h:=by rw[UH]at h;let(y,q,j):=bc h.2;let(rfl,g,N,b,a):=ou q;let(v,m,_):=lO c g;let(t,l,f):=u.ok c j;show k (c.fs _ _ N o.h) (λz=>Dz c (by let:=h.1;rw[z]at this;show this)) (c.rm.mono b) v m a l f
noncomputable instance[Fn T j5 F n][CA T (ao a)]:CE T (eo (d8 F n a)):=rJ (ao a) j5 F n UL λf _ r g d p e b=>#[_,tJ f r e (UU _) g d (dY p) (gR p),MH b]
noncomputable instance[Fn T j5 F n][CA T (as a)]:CE T (es (g8 F n a)):=rJ (as a) j5 F n UL λf _ r g d p e b=>#[_,tJ f r e (UU _) g d (dY p) (gR p),J4 b]
noncomputable instance[Fn T Kp F n][CA T (as a)]:CE T (es (uQ F n a)):=rJ (as a) Kp F n UL λf _ r g d p e b=>#[_,tJ f r e (UU _) g d (dY p) (gR p),Ar b]
noncomputable instance[Fn T Kp F n][CA T (as a)]:CE T (es (pp F n a)):=rJ (as a) Kp F n UL λf _ r g d p e b=>#[_,tJ f r e (UU _) g d (dY p) (gR p),A1 b]
class CB (f:G D->I RV) where
 x:Str
 v:UI
 b:VP x=M v
 y:(∃id,v=.builtin id)\/∃ty,v=.type ty
 ok:∀{X:Cx},X.calm=UJ->∃r,Xg X v r/\zX X.K r f
def Et(a:Gm)(x:Str)(e:Va):I (Va×G Va×Pos×Pos):=if blt a x then P2 {a with top:=1} 0 0 x e else P
def kE{c:Gm}{x:Str}{e:Va}{y:Va×G Va×Pos×Pos}(h:Et c x e=M y):e=.Call (.Name x y.2.2.1) (y.1::y.2.1) [] y.2.2.2/\blt c x=UJ/\(y.1::y.2.1).all iz=UJ:=by
 unfold Et at h;split at h
 .rename_i z;let(b,_,_,_,a):=ou h;show#[b,z,a]
 .ext h
def xS{d:Gm}{X:Cx}{E:XK}{x:Str}{v:UI}{r:G V->Hp->VK->Prop}{e:Va}{l:G Va}{p q:Pos}{t:TA}(c:Ct T d X E)(m:blt d x=UJ)(b:VP x=M v)(y:(∃id,v=.builtin id)\/∃ty,v=.type ty)(k:Xg X v r)(a:(e::l).all iz=UJ)(h:PA X (e::l) t):PE X (.Call (.Name x p) (e::l) [] q) (Fu r t):=by
 let(j,g,i,f):=l4 c m;rcases y with⟨id,rfl⟩|⟨id,rfl⟩
 .show DU k j g b h f i (dY a) (gR a)
 .show Aq k j g b h f i (dY a) (gR a)
def Qv(U:Jd TA)(f:G D->I RV)[o:CB f][u:CA T U](k:∀{K E r t},zX K r f->U K E t->J K E (Fu r t)):CE T J where
 chk Γ e:=(Et Γ o.x e).any λy=>u.chk Γ (y.1::y.2.1)
 ok c h:=by let(y,q,j):=bc h;let(rfl,g,a):=kE q;let(t,l,i):=u.ok c j;let(r,k1,k2):=o.ok c.cm;show#[_,xS c g o.b o.y k1 a l,k k2 i]
noncomputable instance[CB f][CA T (ao a)]:CE T (eo (fw f a)):=Qv (ao a) f Ln
noncomputable instance[CB f][CA T (as a)]:CE T (es (Gp f a)):=Qv (as a) f Pw
noncomputable instance:CB fu:=#["len",_,KZ,.inl #[_,W],λ_=>#[_,uW,Ni]]
noncomputable instance:CB uq:=#["len",_,KZ,.inl #[_,W],λ_=>#[_,uW,JZ]]
noncomputable instance:CB hV:=#["tuple",_,Ia,.inr #[_,W],λ_=>#[_,qJ,F1]]
noncomputable instance:CB Aj:=#["all",_,QE,.inl #[_,W],λh=>#[_,DY h,NC]]
noncomputable instance:CB qM:=#["list",_,xk,.inr #[_,W],λ_=>#[_,sg,Kc]]
noncomputable instance:CB L9.fK:=#["sorted",_,uF,.inl #[_,W],λ_=>#[_,L9.tZ,L9.xf]]
noncomputable instance:CB rq:=#["max",_,K1,.inl #[_,W],λh=>#[_,BL h,Hj]]
def Th(a:Gm)(x y:Str)(i:Int)(e:Va):I Va:=(zd e).bind λc=>match c.2.1,c.2.2.1 with
 |[l],[#[M w,v,_]]=>if(vN c.1).any (λz=>z.1==x)&&blt a x&&w==y&&((vC v).bind cD).any (λz=>dq 2 z (.int i))&&iz l then M l else P
 |_,_=>P
def PD{k:Gm}{x y:Str}{i:Int}{e l:Va}(h:Th k x y i e=M l):(∃p s L D j,e=.Call (.Name x p) [l] [#[M y,.Constant (.int i) j s,L]] D)/\blt k x=UJ/\iz l=UJ:=by
 let((f,a,G,p),q,b):=VI.mp h;rw[pA q];dsimp only at b;split at b
 .split at b
  .rename_i z;ext b;simp only[UH,beq_iff_eq]at z;let((((r,o),rfl),m),g):=z;let(n,F,E):=bc r;let(d,w,v):=bc m;let(c,u,t):=VI.mp w;obtain rfl:=F9 _ _ _ v;let(j,s,rfl):=Lj u;ext c<;>ext t;rw[rc F,beq_iff_eq.mp E];show#[#[_,_,_,_,_,W],o,g]
  .ext b
 .ext b
noncomputable instance[u:CA T (ao a)]:CE T (eo (fw (L10.zz i) a)) where
 chk Γ e:=(Th Γ "max" "default" i e).any λl=>u.chk Γ [l]
 ok c h:=by let(l,q,m):=bc h;let((_,_,_,_,_,rfl),g,b):=PD q;let(o,n,_):=l4 c g;let(t,j,f):=u.ok c m;show#[_,L10.IR c.cm o n j (Hl b),Ln L10.IL f]
noncomputable instance:CO T (oo vx):=#[λ_ e=>e.isNone,λ_ h=>by rw[Xh.mp h];show#[_,Ig,Fb]]
noncomputable instance[x:CE T (eo a)]:CO T (oo (jY a)) where
 chk Γ e:=e.any (x.chk Γ)
 ok c h:=by let(e,q,g):=bc h;subst q;let(t,f,b):=x.ok c g;show#[_,Jz f,Gb b]
class SOp (f:D->I Int->I Int->I RV) where
 ok:∀{X:Cx},∃r,KG X r/\Q4 X.K r f
noncomputable instance:SOp Q1:=#[#[_,D5,sR]]
noncomputable instance:SOp Sk:=#[#[_,G0,Qk]]
noncomputable instance:SOp nY:=#[#[_,N2,Kj]]
noncomputable instance[o:SOp f][x:CE T (eo a)][m:CO T (oo l)][n:CO T (oo u)]:CE T (eo (KP f a l u)) where
 chk Γ e:=(vW e).any λy=>(Tn y.2.1).any λz=>z.2.2.isNone&&x.chk Γ y.1&&m.chk Γ z.1&&n.chk Γ z.2.1
 ok c h:=by let((e,s,p),q,E):=bc h;rw[iH q];let((H,G,F),i,g):=bc E;let(_,b):=Py i;let b:s=_:=b;subst b;simp only[UH,Xh]at g;let(((rfl,w),v),j):=g;let(t,k1,k2):=x.ok c w;let(K,k3,k4):=m.ok c v;let(I,k5,k6):=n.ok c j;let(r,k7,k8):=o.ok;show#[_,B3 k7 k1 k3 k5,QD k8 k2 k4 k6]
def R9(op:BoolOp)(A B:Jd TE)[x:CE T A][y:CE T B]{f:TE->TE->TE}(p:∀{X:Cx} {a b pos s d},PE X a s->PE X (.BoolOp op [b] pos) d->PE X (.BoolOp op [a,b] pos) (f s d))(k:∀{K E s d},A K E s->B K E d->J K E (f s d)):CE T J where
 chk Γ e:=(SY e).any λz=>decide (z.1=op)&&match z.2.1 with
  |[l,r]=>x.chk Γ l&&y.chk Γ r
  |_=>UL
 ok c h:=by
  let((o,l,p),q,i):=bc h;rw[Dk q];simp only[UH,decide_eq_true_eq]at i;let(rfl,g):=i;split at g
  .rw[UH]at g;let(s,t,n):=x.ok c g.1;let(d,m,j):=y.ok c g.2;show#[_,p t (Mx m),k n j]
  .ext g
noncomputable instance[CE T (eo a)][CE T (eo b)]:CE T (eo (AQ a b)):=R9 .And (eo a) (eo b) Fm NB
noncomputable instance[CE T (es a)][CE T (es b)]:CE T (es (wR a b)):=R9 .And (es a) (es b) Fm IJ
def RD(Q:Jd TT)(A B:Jd TE)[z:CT T Q][x:CE T A][y:CE T B](k:∀{K E t n d},Q K E t->A K E n->B K E d->J K E (P6 t n d)):CE T J where
 chk Γ e:=(TR e).any λw=>z.chk Γ w.1&&x.chk Γ w.2.1&&y.chk Γ w.2.2
 ok c h:=by let(w,q,a):=bc h;let(_,rfl):=Ow q;simp only[UH]at a;let(m,f,b):=z.ok c a.1.1;let(n,l,j):=x.ok c a.1.2;let(d,i,g):=y.ok c a.2;show#[_,Dg f l i,k b j g]
noncomputable instance[CT T (lH q)][CE T (eo a)][CE T (eo b)]:CE T (eo (LJ q a b)):=RD (lH q) (eo a) (eo b) QC
noncomputable instance[CT T (l6 q)][CE T (es a)][CE T (es b)]:CE T (es (KI q a b)):=RD (l6 q) (es a) (es b) Nv
def Tx(o p:aaF)(e:Va):I (Va×Va×Va):=(Nh e).bind λx=>match x.2.2 with
 |[b,c]=>if x.2.1=[o,p]&& !lastMarks [o,p] [b,c]then M (x.1,b,c)else P
 |_=>P
def Mi{o p:aaF}{e:Va}{y:Va×Va×Va}(h:Tx o p e=M y):∃pos,e=.Compare y.1 [o,p] [y.2.1,y.2.2] pos/\lastMarks [o,p] [y.2.1,y.2.2]=UL:=by
 let((a,u,b),q,f):=VI.mp h;let(_,rfl):=zS q;dsimp only at f;split at f
 .split at f
  .rename_i z;ext f;rw[UH,decide_eq_true_eq,WM]at z;show#[_,by rw[z.1],z.2]
  .ext f
 .ext f
section
variable{f g:D->D->bg RV}{a b d:FE}[o:COp f][p:COp g][x:CE T (eo a)][y:CE T (eo b)][v:CE T (eo d)]
def Qn(x:CE T (eo a))(y:CE T (eo b))(v:CE T (eo d))(o:COp f)(p:COp g)(c:Gm)(e:Va):Bool:=(Tx o.op p.op e).any λw=>x.chk c w.1&&y.chk c w.2.1&&v.chk c w.2.2
def HL{k X E e}(c:Ct T k X E)(h:Qn x y v o p k e=UJ):∃t,PE X e t/\PT X e (rN t)/\EO X.K E t (kF f g a b d):=by let(w,q,i):=bc h;let(u,rfl,j):=Mi q;simp only[UH]at i;let(N,n,H):=x.ok c i.1.1;let(L,m,G):=y.ok c i.1.2;let(I,l,F):=v.ok c i.2;let(r,k1,k2):=o.ok (rC c.rm);let(s,k3,k4):=p.ok (rC c.rm);show#[_,CZ k1 k3 n m l j,DK k1 k3 n m l j,FY k2 k4 H G F]
end
def Ts(A:Jd TE)[x:CE T A](k:∀{K E t},A K E t->Q K E (tB t)):CT T Q where
 chk Γ e:=gn e&&x.chk Γ e
 ok c h:=by rw[UH]at h;let(t,b,a):=x.ok c h.2;show#[_,Mb b (GY h.1),k a]
def Kw(A B:Jd TE){f:D->D->I RV}[o:COp f][x:CE T A][y:CE T B](k:∀{K E r s d},iA K r f->A K E s->B K E d->Q K E (rN (Gk r s d))):CT T Q where
 chk Γ e:=(RZ o.op e).any λp=>x.chk Γ p.1&&y.chk Γ p.2
 ok c h:=by let(p,q,a):=bc h;rw[UH]at a;let(s,n,m):=x.ok c a.1;let(d,l,j):=y.ok c a.2;let(_,rfl,b):=sZ q;let(r,i,g):=o.ok (rC c.rm);show#[_,Hw i n l b,k g m j]
noncomputable instance[CE T (eo a)]:CT T (lH (az a)):=Ts (eo a) RM
noncomputable instance[CE T (es a)]:CT T (l6 (a9 a)):=Ts (es a) D6
noncomputable instance[COp f][CE T (eo a)][CE T (eo b)]:CT T (lH (az (ay f a b))):=Kw (eo a) (eo b) λh g e=>lw (Lk h g e)
noncomputable instance[COp f][CE T (es a)][CE T (es b)]:CT T (l6 (a9 (kI f a b))):=Kw (es a) (es b) λh g e=>n9 (Dh h g e)
noncomputable instance[o:COp f][p:COp g][x:CE T (eo a)][y:CE T (eo b)][v:CE T (eo d)]:CT T (lH (az (kF f g a b d))):=#[Qn x y v o p,λc h=>let#[_,_,h1,e]:=HL c h;#[_,h1,lw e]]
def LU(R:Jd TT)[z:CT T R](k:∀{K E t},R K E t->Q K E (GC t)):CT T Q where
 chk Γ e:=(Tr e).any λy=>(match y.1 with|.Not=>UJ|_=>UL)&&z.chk Γ y.2
 ok c h:=by let((o,e),q,a):=bc h;let(_,rfl):=Mj q;rw[UH]at a;let(t,f,b):=z.ok c a.2;ext o<;>first|show#[_,NU f,k b]|cases a.1
theorem Rb{X:Cx}{op:BoolOp}{b:G Va}{a:Pos}{t:TT}(h:PT X (.BoolOp op b a) t):PW X (.BoolOp op b a) t:=λ_=>h
def MN(op:BoolOp)(R S:Jd TT)[z:CT T R][v:CT T S]{f:TT->TT->TT}(H:∀{X:Cx} {a pos t},PT X a t->PW X (.BoolOp op [a] pos) t)(p:∀{X:Cx} {a b r pos x d},PT X a x->PW X (.BoolOp op (b::r) pos) d->PW X (.BoolOp op (a::b::r) pos) (f x d))(k:∀{K E x d},R K E x->S K E d->Q K E (f x d)):CT T Q where
 chk Γ e:=(SY e).any λy=>decide (y.1=op)&&match y.2.1 with
  |[l,m]=>z.chk Γ l&&v.chk Γ m
  |l::m::n::s=>z.chk Γ l&&v.chk Γ (.BoolOp op (m::n::s) y.2.2)
  |_=>UL
 ok c h:=by
  let((o,l,w),q,G):=bc h;rw[Dk q];simp only[UH,decide_eq_true_eq]at G;let(rfl,g):=G;split at g
  .rw[UH]at g;let(x,F,u):=z.ok c g.1;let(d,j,i):=v.ok c g.2;show#[_,(p F (H j)).pt,k u i]
  .rw[UH]at g;let(x,F,u):=z.ok c g.1;let(d,j,i):=v.ok c g.2;show#[_,(p F (Rb j)).pt,k u i]
  .ext g
noncomputable instance[CT T (lH q)]:CT T (lH (xn q)):=LU (lH q) GB
noncomputable instance[CT T (l6 q)]:CT T (l6 (L10.qE q)):=LU (l6 q) Hn
noncomputable instance[CT T (lH q)][CT T (lH r)]:CT T (lH (i9 q r)):=MN .And (lH q) (lH r) yL Dn Ji
noncomputable instance[CT T (l6 q)][CT T (l6 r)]:CT T (l6 (jW q r)):=MN .And (l6 q) (l6 r) yL Dn JO
noncomputable instance[CT T (l6 q)][CT T (l6 r)]:CT T (l6 (BN q r)):=MN .Or (l6 q) (l6 r) OW RG Nf
noncomputable instance[CT T (lH q)]:CT T (l6 (bh q)):=we (A:=lH q) C7
end
end CC
set_option warn.classDefReducibility false
namespace CC
open PySem L2 L3 L10
variable{T:bb Fd}{A B C J:Jd TE}{U Z:Jd TA}
def P3(x:Str)(e:Va):I (Va×G Va×Pos×Pos):=(zd e).bind λy=>(Sm y.1).bind λz=>if z.2.1==x&&Qq z.1&&z.2.2.endLine==y.2.2.2.line&&y.2.1.all iz&&decide (y.2.1.length<20)&&y.2.2.1.isEmpty then M (z.1,y.2.1,z.2.2,y.2.2.2)else P
def oi{x:Str}{e:Va}{y:Va×G Va×Pos×Pos}(h:P3 x e=M y):e=.Call (.Attribute y.1 x y.2.2.1) y.2.1 [] y.2.2.2/\Qq y.1=S/\(y.2.2.1.endLine==y.2.2.2.line)=S/\y.2.1.all iz=S/\y.2.1.length<20:=by
 let((f,l,v,p),q,w):=VI.mp h;let((o,n,r),u,a):=VI.mp w;rw[pA q,show f=_ from wT u];split at a
 .rename_i z;ext a;simp only[UH,decide_eq_true_eq,VF]at z;let(((((t,m),j),i),g),b):=z;show#[?_,m,j,i,g];rw[show n=x from beq_iff_eq.mp t,show v=[]from b]
 .ext a
class MS (f:Str->G D->I RV) where
 x:Str
 ok:∀{X:Cx},∃id r,Slot "str" x id/\typeOf (.builtin id)=pure (.type "method_descriptor")/\PN X id r/\Tc X.K r f
noncomputable instance[o:MS f][x:CE T (eo a)][u:CA T (ao b)]:CE T (eo (PP f a b)) where
 chk Γ e:=(P3 o.x e).any λy=>decide (0<y.2.1.length)&&x.chk Γ y.1&&u.chk Γ y.2.1
 ok c h:=by
  let((b,l,p,q),z,i):=bc h;let(rfl,K,I,g,H):=oi z;simp only[UH,decide_eq_true_eq]at i;let((G,E),w):=i;let(t,v,n):=x.ok c E;let(L,m,j):=u.ok c w;let(id,r,k1,k2,k3,k4):=o.ok;cases l with
  |nil=>ext G
  |cons e l=>show#[_,Lp PySem.F.plainAttrs_str k1 k2 k3 v m (gu K) (nv g H) I (dY g) (gR g),RQ k4 n j]
noncomputable instance:MS ro:=#["join",#[_,_,PySem.F.slot_str_join,PySem.F.type_str_join,Hc,Iq]]
def Rh(m:Str){id:String}{r:V->bb V->Hp->VK->Prop}(s:Slot "list" m id)(ty:typeOf (.builtin id)=pure (.type "method_descriptor"))(mt:∀{X:Cx},PN X id r)(i:Gm->Va->Bool)(G:Jd TE)(A:Jd TE)[x:CE T A](j:∀{d X E e},Ct T d X E->i d e=S->∃t,PE X e t/\G X.K E t)(k:∀{K E to t},G K E to->A K E t->J K E (P4 K "list" r to (im t jU))):CE T J where
 chk d e:=(P3 m e).any λy=>i d y.1&&match y.2.1 with
  |[e]=>x.chk d e
  |_=>R
 ok c h:=by
  let((b,l,p,q),z,g):=bc h;let(rfl,I,H,a,L):=oi z;rw[UH]at g;let(w,f):=g;let(to,v,u):=j c w
  match l,a,f with
  |[e],a,f=>let a:[e].all iz=S:=a;let(t,o,n):=x.ok c f;show#[P4 _ "list" r to (im t jU),?_,k u n];show Lp PySem.F.plainAttrs_list s ty mt v (iG o lM (dY a)) (gu I) (nv a (by show 1<20;decide)) H (dY a) W
def vJ(i:Nat):Jd TE:=λ_ _ t=>t=qB i
noncomputable instance[CE T (eo a)]:CE T (eo (qI i a)):=Rh "append" aaa aab mf (IZ i) (vJ i) (eo a) (λc h=>#[_,xC c h,W]) λh k=>by ext h;show Pr k
noncomputable instance[x:CE T (es o)][CE T (es a)]:CE T (es (pz o a)):=Rh "append" aaa aab mf x.chk (es o) (es a) x.ok Jj
def NH(a:Gm)(C f:Str):Bool:=(a.M.cl.lookup C).any λL=>L.contains f
def yz{b:Gm}{X:Cx}{E:XK}{C f:Str}(c:Ct T b X E)(h:NH b C f=S):∃L,jT X.K C L/\f∈L:=by let(L,q,a):=bc h;show#[L,c.md.cl _ _ q,YS.mp a]
noncomputable instance{C f:Str}[x:CE T (es a)]:CE T (es (aP C f a)) where
 chk Γ e:=(Sm e).any λy=>y.2.1==f&&NH Γ C f&&Qq y.1&&x.chk Γ y.1
 ok c h:=by let((o,n,p),q,b):=bc h;rw[wT q];simp only[UH,beq_iff_eq]at b;let(((rfl,u),r),m):=b;let(L,i,g):=yz c u;let(t,l,j):=x.ok c m;show#[_,MG l (gu r),Ih i g j]
class FM (T:G Fd) (rz:Bool) (C m:Str) (F:fT) (n:Nat) where
 i:Nat
 lv:Nat
 ps:G Str
 h:T[i]?=M (wk rz lv C m ps n F)
section
variable{C m:Str}{F:fT}{n:Nat}
def HU(T:G Fd)(b hd:Bool)(C m:Str)(F:fT)(n:Nat)[o:FM T b C m F n](x:Gm->Va->Bool)(u:Gm->G Va->Bool)(a:Gm)(e:Va):Bool:=(!hd||a.rz&&b)&&decide (o.i<a.top)&&decide (o.lv<=a.lv)&&(a.M.cl.lookup C).isSome&&(P3 m e).any λy=>x a y.1&&u a y.2.1
def Ae{d hd:Bool}[o:FM T d C m F n]{x:Gm->Va->Bool}{u:Gm->bb Va->Bool}{k:Gm}{X:Cx}{E:XK}{e:Va}(c:Ct T k X E)(h:HU T d hd C m F n x u k e=S):∃(b:Va) (l:bb Va) (p q:Pos) (L:bb Str) (pl:Sem Bool),e=.Call (.Attribute b m p) l [] q/\x k b=S/\u k l=S/\jT X.K C L/\lL X.prog X.w X.K X.mg X.base (if d then L4.lB X.prog X.w else j0) o.lv C m o.ps (kA X.K n F)/\WC o.lv X.A/\d9 (if d then L4.lB X.prog X.w else j0) X (if hd then E else E0)/\l.all iz=S/\eval (.Call (.Attribute b m p) l [] q) X.env=(do
   let ov<-eval b X.env
   standAt p.atName
   let(f,first)<-holding [ov] (getMethod ov m pl)
   callWith q f first (backTo q (U7 l X.env)) (backToKw q (keywordEach [] X.env))):=by
 unfold HU at h;simp only[UH,decide_eq_true_eq]at h;let((((a,y),v),t),r):=h;let((b,l,p,q),z,g):=bc r;let(rfl,I,H,i,G):=oi z;rw[UH]at g;let(L,j):=Wm.mp t;let(pl,ev):=Rs (m:=m) (env:=X.env) I i G H;show#[b,l,p,q,L,pl,W,g.1,g.2,c.md.cl _ _ j,c.fs _ _ y o.h,c.rm.mono v,?_,i,ev];cases hd with
 |true=>let a:=(UH _ _).mp a;rw[a.2];show Dz c a.1
 |false=>cases d with
  |true=>show Fo
  |false=>show BU
def Rq(d hd:Bool)(A:Jd TE)(U:Jd TA)[o:FM T d C m F n][x:CE T A][u:CA T U](k:∀{K E L to t},jT K C L->A K E to->U K E t->J K E (lV K C m (kA K n F) (if hd then E else E0) to t)):CE T J where
 chk:=HU T d hd C m F n x.chk λy l=> !l.isEmpty&&u.chk y l
 ok c h:=by
  let(b,l,p,q,L,pl,rfl,w,a,v,r,j,i,f,g):=Ae c h;rw[UH]at a;let(to,k1,k2):=x.ok c w;let(t,k3,k4):=u.ok c a.2;cases l with
  |nil=>cases a.1
  |cons e l=>show#[_,QR r i j k1 k3 (UU _) (dY f) (gR f) g,k v k2 k4]
def Ry(d hd:Bool)(A:Jd TE)[o:FM T d C m F n][x:CE T A](k:∀{K E L to},jT K C L->A K E to->J K E (lV K C m (kA K n F) (if hd then E else E0) to jU)):CE T J where
 chk:=HU T d hd C m F n x.chk λ_ l=>l.isEmpty
 ok c h:=by let(b,l,p,q,L,pl,rfl,r,a,j,i,g,f,t,e):=Ae c h;let(to,k1,k2):=x.ok c r;rw[VF]at a;subst a;show#[_,M7 i f g k1 (UU _) e,k j k2]
noncomputable instance[FM T R C m F n][CE T (es o)][CE T (es a)][CA T (as b)]:CE T (es (aG C m F n o (aj a b))):=Rq (C:=C) (m:=m) (F:=F) (n:=n) R R (es o) (as (aj a b)) yP
noncomputable instance[FM T R C m F n][CE T (es o)]:CE T (es (aG C m F n o aK)):=Ry (C:=C) (m:=m) (F:=F) (n:=n) R R (es o) λh k=>yP h k zE
noncomputable instance[FM T S C m F n][CE T (es o)][CE T (es a)][CA T (as b)]:CE T (es (mF C m F n o (aj a b))):=Rq (C:=C) (m:=m) (F:=F) (n:=n) S S (es o) (as (aj a b)) Pi
class FK (T:G Fd) (C:Str) (F:fT) (n:Nat) where
 i:Nat
 lv:Nat
 ps:G Str
 h:T[i]?=M (Tu lv C ps n F)
noncomputable instance[o:FK T C F n][x:CE T (es a)][u:CA T (as b)]:CE T (es (qk C F n (aj a b))) where
 chk Γ e:=(Γ.M.cl.lookup C).isSome&&(P2 Γ o.i (o.lv+1) C e).any λy=>CK.chk T PA (as (aj a b)) Γ (y.1::y.2.1)
 ok c h:=by rw[UH]at h;let(L,l):=Wm.mp h.1;let(y,q,r):=bc h.2;let(rfl,g,i,j,f):=ou q;let(E,w,_):=lO c g;let(t,v,p):=CK.ok c r;show#[_,LG (c.fs _ _ i o.h) BU c.rm v j E w (dY f) (gR f),Ik (c.md.cl _ _ l) p]
end
end CC
set_option warn.classDefReducibility false
namespace CC
open PySem L2 L3 L10
variable{T:bb Fd}{A B C J:Jd TE}{U Z:Jd TA}{Q R:Jd TT}
theorem Sw{a:Gm}{X:Cx}{E:XK}(c:Ct T a X E):X.A.units+1<cLine:=ED c.rm
noncomputable instance[x:CE T (es d)][y:CE T (es k)]:CE T (es (pS d k)) where
 chk Γ e:=(vW e).any λp=>iz p.2.1&&x.chk Γ p.1&&y.chk Γ p.2.1
 ok c h:=by let(p,q,a):=bc h;simp only[UH]at a;let(l,i,g):=x.ok c a.1.2;let(j,f,b):=y.ok c a.2;rw[iH q];show#[_,GA (Sw c) i f (sO a.1.1),FV g b]
def Lr(x y:Gm->Va->Bool)(a:Gm)(e:Va):Bool:=(RZ .In e).any λp=>x a p.1&&y a p.2
def FH[x:CE T (es k)][y:CE T (es d)]{l X E e}(c:Ct T l X E)(h:Lr x.chk y.chk l e=S):∃t,PE X e t/\PT X e (tB t)/\cB X.K E t (qO UL k d):=by let(p,q,a):=bc h;rw[UH]at a;let(_,rfl,b):=sZ q;let(n,g,j):=x.ok c a.1;let(m,f,i):=y.ok c a.2;show#[_,xA (DT (Sw c) g f) b,xH (DT (Sw c) g f) b,HV j i]
noncomputable instance[x:CE T (es k)][y:CE T (es d)]:CT T (l6 (a9 (qO UL k d))):=#[Lr x.chk y.chk,λc h=>let#[_,_,h1,a]:=FH c h;#[_,h1,D6 a]]
noncomputable instance[x:CE T (es d)][y:CE T (es k)]:CE T (es (rh d k)) where
 chk Γ e:=(P3 "pop" e).any λz=>x.chk Γ z.1&&match z.2.1 with
  |[e]=>y.chk Γ e
  |_=>UL
 ok c h:=by
  let((b,l,p,q),z,g):=bc h;let(rfl,m,j,a,u):=oi z;rw[UH]at g;let(i,f):=g;let(L,t,r):=x.ok c i
  match l,a,f with
  |[e],a,f=>let a:[e].all iz=S:=a;let(v,o,n):=y.ok c f;show#[_,Ew t o #[gu m,nv a (by show 1<20;decide),j,?_],Ep r n];rw[dY a];rfl
noncomputable instance[x:CE T (es d)]:CE T (es (vR d)) where
 chk Γ e:=(Et Γ "list" e).any λy=>y.2.1.isEmpty&&(P3 "values" y.1).any λz=>z.2.1.isEmpty&&x.chk Γ z.1
 ok c h:=by let((e,l,E,w),q,f):=bc h;let(rfl,g,i):=kE q;simp only[UH,VF]at f;let(rfl,o):=f;let((b,l,v,u),z,a):=bc o;let(rfl,r,p,H,G):=oi z;simp only[UH,VF]at a;let(rfl,n):=a;let(t,m,j):=x.ok c n;show#[_,xS c g xk (.inr #[_,W]) (L10.wO c.cm) i (iG (Oz aaj Z9 PySem.F.type_dict_values L10.AF m (gu r) p) lM (kM W)),DA j]
def Qj(x:Str){v:UI}(b:VP x=M v)(y:(∃id,v=.builtin id)\/∃ty,v=.type ty)(A:Jd TE)[z:CE T A]{r:CL->G V->Hp->VK->Prop}(n:∀{X:Cx},X.calm=S->Xg X v (r X.K))(k:∀{K E t},A K E t->J K E (Fu (r K) (im t jU))):CE T J where
 chk Γ e:=(Et Γ x e).any λy=>y.2.1.isEmpty&&z.chk Γ y.1
 ok c h:=by let((e,l,p,o),q,f):=bc h;let(rfl,g,a):=kE q;simp only[UH,VF]at f;let(rfl,m):=f;let(t,j,i):=z.ok c m;show#[_,xS c g b y (n c.cm) a (iG j lM (dY a)),k i]
noncomputable instance[CE T (es d)]:CE T (es (pN d)):=Qj "sorted" uF (.inl #[_,W]) (es d) (r:=λ_=>wv) L10.wC Cq
noncomputable instance[CE T (es d)]:CE T (es (rP d)):=Qj "dict" L10.Oo (.inr #[_,W]) (es d) (r:=xX) L10.xQ D0
def Ff(i:Nat)(a:Gm)(e:Va):Bool:=(vN e).any λx=>a.N[i]? ==M x.1&&(a.sc.lookup x.1==M .local||(a.sc.lookup x.1==M .cell&&a.fc.contains x.1))
def nI{b:Gm}{X:Cx}{E:XK}{i:Nat}{e:Va}(c:Ct T b X E)(h:Ff i b e=S):∃x p,e=.Name x p/\X.N[i]?=M x/\L2.NX X.env.scope x/\(X.fn x=S\/WL x X.env.scope.names=M Vb.local):=by
 let((x,p),q,a):=bc h;simp only[UH,Wi]at a;show#[x,p,rc q,by rw[c.n];show beq_iff_eq.mp a.1,?_];ext L2.NX;rw[c.sc];rcases a.2 with z|⟨z,w⟩
 .show#[.inl (eD z),.inr (eD z)]
 .show#[.inr (eD z),.inl (c.fc _ (YS.mp w))]
def P8{G:Jd TG}(i:Nat)(k:∀{K E},G K E (mx i)):CG T G where
 chk:=Ff i
 ok c h:=by let(x,p,rfl,e,b,a):=nI c h;show#[_,#[Ka c.nd e b a,λ_=>W],k]
noncomputable instance:CG T (go (gN i)):=P8 i sr
noncomputable instance:CG T (Gr (eY i)):=P8 i pE
def Qx{G:Jd wy}(k:∀{K E},G K E Kf):CH T G:=#[λ_ l=>l.isEmpty,λ_ h=>by rw[VF.mp h];show#[_,#[JK,W,W],k]]
noncomputable instance:CH T (gs K8):=Qx No
noncomputable instance:CH T (OL Ax):=Qx JB
def Qf{I:Jd wy}(G:Jd TG)(H:Jd wy)[x:CG T G][y:CH T H](k:∀{K E t u},G K E t->H K E u->I K E (zC t u)):CH T I where
 chk Γ l:=match l with
  |e::r=>x.chk Γ e&&y.chk Γ r
  |[]=>UL
 ok c h:=by
  split at h
  .rw[UH]at h;let(o,(m,a),j):=x.ok c h.1;let(n,(i,f,b),g):=y.ok c h.2;show#[_,#[Gj m i (by rw[a];rfl),by rw[a,U4,U4,f],by rw[a,List.findIdx?_cons,b];rfl],k j g]
  .ext h
noncomputable instance[CG T (go g)][CH T (gs r)]:CH T (gs (Bg g r)):=Qf (go g) (gs r) GK
noncomputable instance[CG T (Gr g)][CH T (OL r)]:CH T (OL (qA g r)):=Qf (Gr g) (OL r) BW
def Qt{I:Jd TG}(n:Nat)(H:Jd wy)[y:CH T H](k:∀{K E t},H K E t->I K E (Ha K n t)):CG T I where
 chk Γ e:=(F6 e).any λl=>decide (l.length=n)&&y.chk Γ l
 ok c h:=by let(l,q,a):=bc h;let(_,_,rfl):=tG q;simp only[UH,decide_eq_true_eq]at a;let(rfl,b):=a;let(t,(j,g,f),i):=y.ok c b;show#[_,#[OZ c.cm j g f,λ_=>W],k i]
noncomputable instance[CH T (gs r)]:CG T (go (gT n r)):=Qt n (gs r) L8
noncomputable instance[CH T (OL r)]:CG T (Gr (KF n r)):=Qt n (OL r) JM
def QM(A:Jd TE){I:Jd TI}[x:CE T A]{f:CL->TE->TI}(p:∀{X:Cx} {d e t},PE X e t->PI X d e (f X.K t))(k:∀{K E t},A K E t->I K E (f K t)):CI T I where
 chk Γ p:=iz p.2&&x.chk Γ p.2
 ok c h:=by rw[UH]at h;let(t,b,a):=x.ok c h.2;show#[_,#[p b,h.1],k a]
noncomputable instance[CE T (eo a)]:CI T (io (iX a)):=QM (eo a) wQ N5
noncomputable instance[CE T (es a)]:CI T (PY (j6 a)):=QM (es a) wQ JH
noncomputable instance[CI T (io f)]:CI T (Lu f):=we (A:=io f) λh=>L3.IO.s h
noncomputable instance:CI T (Lu (vq i)):=#[λa p=>iz p.2&&IZ i a p.2,λc h=>by rw[UH]at h;show#[_,#[wQ (xC c h.2),h.1],Di]]
noncomputable instance[CI T (io f)]:CI T (PY (kZ f)):=we (A:=io f) Ed
noncomputable instance[u:CA T (ao a)]:CI T (io (jf fP a)) where
 chk L p:=(Et L "range" p.2).any λy=>y.2.1.isEmpty&&u.chk L [y.1]
 ok {L X E p} c h:=by let((e,l,F,w),q,b):=bc h;let(z,g,i):=kE q;simp only[UH,VF]at b;let(rfl,n):=b;let(r,o,_):=l4 c g;let(t,m,j):=u.ok c n;let(v,f):=p;let z:f=_:=z;subst z;show#[_,#[Bx r o m (dY i),W],Js j]
noncomputable instance[u:CA T (ao a)]:CI T (io (AX a)) where
 chk L p:=yr p.1&&(Et L "zip" p.2).any λy=>match y.2.1 with
  |[r]=>u.chk L [y.1,r]
  |_=>UL
 ok {L X E p} c h:=by
  rw[UH]at h;let((e,l,G,F),q,f):=bc h.2;let(z,g,b):=kE q;let(w,v,_):=l4 c g;let(i,j):=p;let z:j=_:=z;subst z;let o:yr i=S:=h.1
  match l,b,f with
  |[r],b,f=>let b:[e,r].all iz=S:=b;let(t,n,m):=u.ok c f;let(_,_,_,rfl):=uO o;show#[_,#[Nj w v n (dY b) (gR b),W],MU m]
end CC
set_option warn.classDefReducibility false
namespace CC
open PySem L2 L3 L10
variable{T:bb Fd}{A B C J:Jd TE}{U Z:Jd TA}{Q R:Jd TT}{G:Jd TG}{I:Jd TI}
noncomputable instance:CQ T (lH dW):=#[λ_ l=>l.isEmpty,λ_ h=>by rw[VF.mp h];show#[_,wg,Ez]]
noncomputable instance:CQ T (l6 mQ):=#[λ_ l=>l.isEmpty,λ_ h=>by rw[VF.mp h];show#[_,wg,FR]]
def T4(Q:Jd TT)[z:CT T Q]:CQ T Q where
 chk Γ l:=match l with
  |[e]=>z.chk Γ e
  |_=>UL
 ok c h:=by
  split at h
  .let(t,b,a):=z.ok c h;show#[_,EA b,a]
  .ext h
noncomputable instance[CT T (lH q)]:CQ T (lH q):=T4 (lH q)
def t0{b:Type}(P:Jd (St->Hp->b->Prop))(K:CL)(E:XK):St->Hp->b->Prop:=λa H Q=>∀t,P K E t->t a H Q
def g0(P:Jd TG)(K:CL)(E:XK):TG:=λv a H Q=>∀t,P K E t->t v a H Q
class Cl {τ:Type} (P:Jd (St->Hp->τ->Prop)):Prop where
 cl:∀{K E},P K E (t0 P K E)
class ClG (P:Jd TG):Prop where
 cl:∀{K E},P K E (g0 P K E)
noncomputable instance:Cl (eo g):=#[λB b O a H e Q R w _ h=>h B b O a H e Q R w]
noncomputable instance:Cl (es g):=#[λB a H α b e Q s l w _ h=>h B a H α b e Q s l w]
noncomputable instance:Cl (lH g):=#[λB b O a H e Q R w _ h=>h B b O a H e Q R w]
noncomputable instance:Cl (l6 g):=#[λB a H α b e Q s l w _ h=>h B a H α b e Q s l w]
noncomputable instance:ClG (go g):=#[λB b O a H e v pv Q R p w _ h=>h B b O a H e v pv Q R p w]
noncomputable instance:ClG (Gr g):=#[λB a H α b e v x Q s l p w _ h=>h B a H α b e v x Q s l p w]
def PH(e:Va):bb Str:=((vN e).map (·.1)).toList++((F6 e).getD []).filterMap λe=>(vN e).map (·.1)
def Pe(l:bb (Str×Vb)):bb Str:=(l.filter λy=>y.2==Vb.cell&&l.all λp=> !(p.1==y.1)|| !(p.2==Vb.free)).map (·.1)
def SD(a:Gm)(l:bb (Str×Vb)):bb (Str×Vb):=l.map λp=>if(p.2==Vb.free&&(ScopeKind.function==ScopeKind.function)&&a.sc.lookup p.1==M .cell)then(p.1,.cell)else p
def Gm.inn(b:Gm)(own:bb Str)(a:bb (Str×Nat))(sc:bb (Str×Vb)):Gm:={b with N:=own++a.map (·.1),sc:=SD b sc,rz:=UL,fa:=UL,fc:=Pe sc}
def x9(b:Gm)(a:bb Nat):bb (Str×Nat):=a.filterMap λj=>(b.N[j]?).map λx=>(x,j)
def SS(b:Gm)(sc:WO)(a:bb (Str×Nat)):Bool:=a.all λp=>b.N[p.2]? ==M p.1&&sc.names.lookup p.1==M .free&&(b.sc.lookup p.1==M .cell||b.sc.lookup p.1==M .free)
theorem Kx{d:Gm}{X:Cx}{E:XK}{sc:WO}(c:Ct T d X E):∀{a:bb (Str×Nat)},SS d sc a=S->aaD X sc a
 |[],_=>trivial
 |p::r,h=>by unfold SS at h;simp only[XW,UH,Wi]at h;let(((g,f),e),b):=h;show#[#[by rw[c.n];show beq_iff_eq.mp g,eD f,?_],Kx c b];rw[c.sc];show e.imp eD eD
theorem zH{env:Env}{y:Str}:∀{l:bb (Str×Vb)} {acc:bb (Str×UP)},(∀p∈l,p.1=y->(p.2==Vb.free)=UL)->acc.lookup y=P->(fY env l acc).lookup y=P
 |[],_,_,h=>h
 |(n,k)::r,acc,h,f=>by
  let a:=λacc=>zH (env:=env) (y:=y) (l:=r) (acc:=acc) λp b=>h p (UX _ b);ext fY;split
  .rename_i q
   let ne:n≠y:=λe=>by rw[h (n,k) UT e]at q;ext q
   split
   .show a _ (by rw[VD,show(y==n)=UL from beq_eq_false_iff_ne.mpr (da ne)];show f)
   .show a _ f
  .show a _ f
def Es{env:Env}{l:bb (Str×Vb)}{y:Str}(h:y∈Pe l):((fY env l []).lookup y).isNone=S:=by
 let(p,f,rfl):=Vl.mp h;let(_,a):=Wg.mp f;rw[UH]at a;rw[zH (λq b e=>?_) W]
 .rfl
 .let:=V9.mp a.2 q b;rw[e,dw]at this;revert this;cases q.2==Vb.free<;>intro h<;>first|rfl|ext h
structure Lc(T:bb Fd)(Γ':Gm)(X:Cx)(E:XK)(n:Nat)(fj:bb Nat)(I:Jd TI)(G:Jd TG)(Q:Jd TT)(A:Jd TE)(sc:WO)(elt:Va)(cp:X1) where
 own:bb Str
 fv:bb (Str×Nat)
 wi:TI
 e:cp.is_async=0
 ln:own.length=n
 fj:fv.map (·.2)=fj
 pi:PI X cp.target cp.iter wi
 i:I X.K E wi
 pg:∀s H C fp,PG (bX X s H sc C (dE own fv) fp) cp.target (g0 G X.K E0)
 g:G X.K E0 (g0 G X.K E0)
 pq:∀s H C fp,wm (bX X s H sc C (dE own fv) fp) cp.ifs (t0 Q X.K E0)
 q:Q X.K E0 (t0 Q X.K E0)
 pe:∀s H C fp,PE (bX X s H sc C (dE own fv) fp) elt (t0 A X.K E0)
 a:A X.K E0 (t0 A X.K E0)
 fvk:aaD X sc fv
 fr:(sc.names.all λy=> !(y.2==Vb.free)||X.env.scope.names.lookup y.1==M .cell||X.env.scope.names.lookup y.1==M .free)=S
 kd:sc.kind=.function
 nd:(sc.names.map (·.1)).Nodup
 nm:∀y∈sc.names,y.2=.local->sc.names.lookup y.1=M .local
 fold:∀z,foldedSetIterable cp.iter X.env z=pure z
 ct:∀s H C fp W E',Ct T Γ' ((bX X s H sc C (dE own fv) fp).Zl W) E'
def JP(n:Nat)(d:bb Nat)(i:CI T I)(g:CG T G)(w:CQ T Q)(x:CE T A)(b:Gm)(elt:Va)(c:X1)(sc:WO):Bool:=
 let own:=PH c.target
 let e:=x9 b d
 let a:=b.inn own e sc.names
 decide (own.length=n)&&decide (e.map (·.2)=d)&&decide (c.is_async=0)&&SS b sc e&&(sc.names.all λy=> !(y.2==Vb.free)||b.sc.lookup y.1==M .cell||b.sc.lookup y.1==M .free)&&decide (sc.kind=.function)&&decide ((sc.names.map (·.1)).Nodup)&&(sc.names.all λy=> !(y.2==Vb.local)||sc.names.lookup y.1==M .local)&&decide ((own++e.map (·.1)).Nodup)&&i.chk b (c.target,c.iter)&&g.chk a c.target&&w.chk a c.ifs&&x.chk a elt
def yu[Cl A][Cl Q][ClG G]{i:CI T I}{g:CG T G}{w:CQ T Q}{x:CE T A}{n:Nat}{f:bb Nat}{d:Gm}{X:Cx}{E:XK}{o:Va}{j:X1}{sc:WO}(c:Ct T d X E)(h:JP n f i g w x d o j sc=UJ):Nonempty (Lc T (d.inn (PH j.target) (x9 d f) sc.names) X E n f I G Q A sc o j):=by
 unfold JP at h;simp only[UH,decide_eq_true_eq]at h;let((((((((((((h1,h2),h3),k1),k2),k3),k4),k5),k6),h5),Y),S),P):=h;let(L,(O,M),N):=i.ok c h5;let ct:∀s H C a W K,Ct T (d.inn (PH j.target) (x9 d f) sc.names) ((bX X s H sc C (dE (PH j.target) (x9 d f)) a).Zl W) K:=λs H C a W K=>
  #[rfl,k6,by show(relabel sc X.env).names=SD d sc.names;unfold relabel SD Env.kindOf;rw[c.kd,c.sc],k3,c.cm,c.rm,λz=>(ZN z),λz=>(ZN z),λy p=>Es p,c.md,c.fs]
 let q:∀s H C a,Ct T (d.inn (PH j.target) (x9 d f) sc.names) (bX X s H sc C (dE (PH j.target) (x9 d f)) a) E0:=λs H C a=>ct s H C a _ E0;show#[#[PH j.target,x9 d f,L,h3,h1,h2,O,N,λs H C a=>?_,ClG.cl,λs H C a=>?_,Cl.cl,λs H C a=>?_,Cl.cl,Kx c k1,?_,k3,k4,λy p e=>?_,yI M,ct]]
 .let(t,(m,_),l):=g.ok (q s H C a) Y;show λb s F H v u Q I r z=>m _ _ _ _ _ _ _ I r (z _ l)
 .let(t,m,l):=w.ok (q s H C a) S;show λb s F H Q I z=>m _ _ _ _ _ I (z _ l)
 .let(t,m,l):=x.ok (q s H C a) P;show λb s F H Q I z=>m _ _ _ _ _ I (z _ l)
 .rw[c.sc];show k2
 .let:=V9.mp k5 y p;rw[e]at this;show eD this
def Pn(e:Va):bg (Va×X1×WO×Pos):=(Tl e).bind λy=>match y.2.1 with
 |[a]=>M (y.1,a,y.2.2)
 |_=>P
def zt{e:Va}{y:Va×X1×WO×Pos}(h:Pn e=M y):e=.ListComp y.1 [y.2.1] y.2.2.1 y.2.2.2:=by
 let((a,l,s,p),q,b):=VI.mp h;rw[OQ q]
 match l,b with
 |[f],b=>ext b;rfl
def Rg(I:Jd TI)(G:Jd TG)(Q:Jd TT)(A:Jd TE)[Cl A][Cl Q][ClG G][i:CI T I][g:CG T G][w:CQ T Q][x:CE T A](n:Nat)(f:bb Nat)(k:∀{K E own v a g s d},own.length=n->v.map (·.2)=f->I K E a->G K E0 g->Q K E0 s->A K E0 d->J K E (qZ own v a g s d)):CE T J where
 chk Γ e:=(Pn e).any λy=>JP n f i g w x Γ y.1 y.2.1 y.2.2.1
 ok c h:=by let((o,r,u,p),q,m):=bc h;rw[zt q];let⟨l⟩:=yu c m;let(t,b,j,as):=r;obtain rfl:as=0:=l.e;show#[_,zZ l.own l.fv c.cm l.pi l.pg l.pq l.pe l.fvk l.fr l.kd l.nd l.nm l.fold,k l.ln l.fj l.i l.g l.q l.a]
noncomputable instance[CI T (Lu f)][CG T (go g)][CQ T (lH q)][CE T (eo a)]:CE T (eo (dC n l f g q a)):=Rg (Lu f) (go g) (lH q) (eo a) n l pU
noncomputable instance[CI T (PY f)][CG T (Gr g)][CQ T (l6 q)][CE T (es a)]:CE T (es (mz n l f g q a)):=Rg (PY f) (Gr g) (l6 q) (es a) n l EJ
end CC
set_option warn.classDefReducibility false
namespace CC
open PySem L2 L3 L10
variable{T:bb Fd}{A B C J:Jd TE}{U Z:Jd TA}{Q R:Jd TT}{G:Jd TG}{I:Jd TI}{S Y X:Jd TS}
def Rv:Wz->bg (Va×bb Wz×bb Wz)
 |.If c a b _=>M (c,a,b)
 |_=>P
def DB:Wz->bg (bg Va)
 |.Return e _=>M e
 |_=>P
def LH:Wz->bg Va
 |.Expr e _=>M e
 |_=>P
def oB:Wz->bg (Va×Va)
 |.Assign [t] e _=>M (t,e)
 |_=>P
def KB:Wz->bg (Va×Va×bb Wz)
 |.For t i b [] _=>M (t,i,b)
 |_=>P
def Rj:Wz->bg (Va×bb Wz)
 |.While c b [] _=>M (c,b)
 |_=>P
def QL:Wz->bg Va
 |.Raise (M e) P _=>M e
 |_=>P
section
variable{s:Wz}
theorem IV(h:Rv s=M x):∃p,s=.If x.1 x.2.1 x.2.2 p:=pW (P:=λx=>∃p,s=.If x.1 x.2.1 x.2.2 p) (by ext s<;>first|show trivial|show#[_,W]) h
theorem uM(h:DB s=M x):∃p,s=.Return x p:=pW (P:=λx=>∃p,s=.Return x p) (by ext s<;>first|show trivial|show#[_,W]) h
theorem Fe(h:LH s=M x):∃p,s=.Expr x p:=pW (P:=λx=>∃p,s=.Expr x p) (by ext s<;>first|show trivial|show#[_,W]) h
theorem iq(h:oB s=M x):∃p,s=.Assign [x.1] x.2 p:=pW (P:=λx=>∃p,s=.Assign [x.1] x.2 p) (by ext s<;>first|show trivial|(rename_i l _ _;rcases l with _|⟨t,_|⟨_,_⟩⟩<;>first|show trivial|show#[_,W])) h
theorem BS(h:KB s=M x):∃p,s=.For x.1 x.2.1 x.2.2 [] p:=pW (P:=λx=>∃p,s=.For x.1 x.2.1 x.2.2 [] p) (by ext s<;>first|show trivial|(rename_i l _;ext l<;>first|show trivial|show#[_,W])) h
theorem GR(h:Rj s=M x):∃p,s=.While x.1 x.2 [] p:=pW (P:=λx=>∃p,s=.While x.1 x.2 [] p) (by ext s<;>first|show trivial|(rename_i l _;ext l<;>first|show trivial|show#[_,W])) h
theorem Ip(h:QL s=M x):∃p,s=.Raise (M x) lD p:=pW (P:=λx=>∃p,s=.Raise (M x) lD p) (by ext s<;>first|show trivial|(rename_i a b _;ext a<;>ext b<;>first|show trivial|show#[_,W])) h
end
def Ti(S:Jd TS)[o:CU T S]:CS T S where
 chk Γ b:=match b with
  |[s]=>o.chk Γ s
  |_=>UL
 ok c h:=by
  split at h
  .let(t,e,a):=o.ok c h;show#[_,zk e,a]
  .ext h
noncomputable instance[CU T (so f)]:CS T (so f):=Ti (so f)
noncomputable instance[CU T (cV f)]:CS T (cV f):=Ti (cV f)
noncomputable instance:CS T (so dQ):=#[λ_ b=>b.isEmpty,λ_ h=>by rw[VF.mp h];show#[_,yQ,HQ]]
noncomputable instance:CS T (cV bZ):=#[λ_ b=>b.isEmpty,λ_ h=>by rw[VF.mp h];show#[_,yQ,Fq]]
def LL(Y X:Jd TS)[o:CU T Y][n:CS T X](k:∀{K E t u},Y K E t->X K E u->S K E (Cs t u)):CS T S where
 chk Γ b:=match b with
  |s::r=>o.chk Γ s&&n.chk Γ r
  |_=>UL
 ok c h:=by
  split at h
  .rw[UH]at h;let(t,g,f):=o.ok c h.1;let(i,e,a):=n.ok c h.2;show#[_,vP g e,k f a]
  .ext h
noncomputable instance[CU T (so f)][CS T (so g)]:CS T (so (aV f g)):=LL (so f) (so g) Nc
noncomputable instance[CU T (cV f)][CS T (cV g)]:CS T (cV (aD f g)):=LL (cV f) (cV g) HF
def LI(Q:Jd TT)(Y X:Jd TS)[z:CT T Q][m:CS T Y][n:CS T X](k:∀{K E c t u},Q K E c->Y K E t->X K E u->S K E (HC c t u)):CU T S where
 chk Γ s:=(Rv s).any λy=>z.chk Γ y.1&&m.chk Γ y.2.1&&n.chk Γ y.2.2
 ok c h:=by let(y,q,a):=bc h;let(_,rfl):=IV q;simp only[UH]at a;let(t,j,i):=z.ok c a.1.1;let(o,g,f):=m.ok c a.1.2;let(l,e,b):=n.ok c a.2;show#[_,Qz j g e,k i f b]
noncomputable instance[CT T (lH q)][CS T (so f)][CS T (so g)]:CU T (so (kC q f g)):=LI (lH q) (so f) (so g) QN
noncomputable instance[CT T (l6 q)][CS T (cV f)][CS T (cV g)]:CU T (cV (bV q f g)):=LI (l6 q) (cV f) (cV g) NQ
def Lh(A:Jd TE)[x:CE T A](k:∀{K E t},A K E t->S K E (GI t)):CU T S where
 chk Γ s:=(DB s).any λy=>y.any (x.chk Γ)
 ok c h:=by let(y,q,i):=bc h;let(e,a,g):=bc i;let(_,rfl):=uM q;subst a;let(t,f,b):=x.ok c g;show#[_,OV f,k b]
noncomputable instance[CE T (eo a)]:CU T (so (cX a)):=Lh (eo a) Mc
noncomputable instance[CE T (es a)]:CU T (cV (L10.gJ a)):=Lh (es a) Je
noncomputable instance:CU T (cV pQ) where
 chk _ s:=(DB s).any (·.isNone)
 ok c h:=by let(y,q,a):=bc h;let(_,rfl):=uM q;rw[Xh.mp a];show#[_,Ij,Dc]
def C2(A:Jd TE)[x:CE T A](k:∀{K E t},A K E t->S K E (uS t)):CU T S where
 chk Γ s:=(LH s).any λe=>(iz e&& !MR e)&&x.chk Γ e
 ok c h:=by let(y,q,a):=bc h;let(_,rfl):=Fe q;let a:=(UH _ _).mp a;let(t,f,b):=x.ok c a.2;show#[_,zi f (yy a.1),k b]
noncomputable instance[CE T (eo a)]:CU T (so (iV a)):=C2 (eo a) JG
noncomputable instance[CE T (es a)]:CU T (cV (br a)):=C2 (es a) EK
def Kk(i:Nat)(A:Jd TE)[x:CE T A](k:∀{K E t},A K E t->S K E (u8 t (mx i))):CU T S where
 chk Γ s:=(oB s).any λy=>(iz y.2&& !MR y.2)&&(Ff i Γ y.1&&x.chk Γ y.2)
 ok c h:=by let((f,e),q,a):=bc h;let(_,rfl):=iq q;let a:=(UH _ _).mp a;let b:=(UH _ _).mp a.2;let(t,j,g):=x.ok c b.2;let(y,p,z,k1,k2,k3):=nI c b.1;let z:f=_:=z;subst z;show#[_,B4 c.nd k1 k2 j (yy a.1) k3,k g]
noncomputable instance[CE T (eo a)]:CU T (so (cb a (gN i))):=Kk i (eo a) λh=>De h sr
noncomputable instance[CE T (es a)]:CU T (cV (bW a (eY i))):=Kk i (es a) λh=>sM h pE
def SN(A:Jd TE)(G:Jd TG)[x:CE T A][y:CG T G](k:∀{K E t g},A K E t->G K E g->S K E (u8 t g)):CU T S where
 chk Γ s:=(oB s).any λz=>gn z.2&&yr z.1&&y.chk Γ z.1&&x.chk Γ z.2
 ok c h:=by let((m,e),q,a):=bc h;let(_,rfl):=iq q;simp only[UH]at a;let(((b,j),i),f):=a;let(t,l,a):=x.ok c f;let(n,(k1,k3),k2):=y.ok c i;let(_,_,_,rfl):=uO j;show#[_,Ph l k1 (Jp b) (AN b) (by rw[k3];rfl),k a k2]
noncomputable instance[CE T (es a)][CH T (OL r)]:CU T (cV (bW a (KF n r))):=SN (es a) (Gr (KF n r)) sM
def NA{elt b sc x p n}{a:Pos}{env:Env}(h:env.kindOf x=M .cell):Xe (.ListComp elt [b] sc a) (M (.Name x p)) n env=pure UL:=by show(pure _:Sem Bool)=_;rw[h];congr 1;show(((_&&UL)&&_)&&_)=UL;rw[Bool.and_false];rfl
def Lo(I:Jd TI)(G:Jd TG)(Q:Jd TT)(A:Jd TE)[Cl A][Cl Q][ClG G][ii:CI T I][g:CG T G][w:CQ T Q][x:CE T A](n:Nat)(r:bb Nat)(i:Nat)(k:∀{K E own o b g j d},own.length=n->o.map (·.2)=r->I K E b->G K E0 g->Q K E0 j->A K E0 d->S K E (u8 (qZ own o b g j d) (mx i))):CU T S where
 chk Γ s:=(oB s).any λz=>(vN z.1).any λv=>(Pn z.2).any λy=>Ff i Γ z.1&&(Γ.sc.lookup v.1==M .cell||(Γ.sc.lookup v.1==M .local&&v.2.line==y.2.2.2.line&& !(y.2.2.1.names.any λy=>y.1==v.1&&(y.2==.local||y.2==.cell))))&&JP n r ii g w x Γ y.1 y.2.1 y.2.2.1
 ok c h:=by
  let((f,e),q,h2):=bc h;let(_,rfl):=iq q;let((v,vp),N,h3):=bc h2;let((elt,cp,sc,p),L,m):=bc h3;let u:f=_:=rc N;let t:e=_:=zt L;subst u t;simp only[UH,WM,Wi]at m;let((hg,a),hc):=m;let(_,_,z,k1,k2,k3):=nI c hg;ext z;let⟨l⟩:=yu c hc;let(f,iter,ifs,as):=cp;obtain rfl:as=0:=l.e;show#[_,?_,k l.ln l.fj l.i l.g l.q l.a];rcases a with a|⟨⟨a,hp⟩,ha⟩
  .let a:=eD a;rw[<-c.sc]at a;show B4 c.nd k1 k2 (zZ l.own l.fv c.cm l.pi l.pg l.pq l.pe l.fvk l.fr l.kd l.nd l.nm l.fold) (NA a) k3
  .let a:=eD a;rw[<-c.sc]at a;show JN l.own l.fv c.nd k1 a c.cm l.pi l.pg l.pq l.pe l.fvk l.fr (RA c.kd a hp ha) l.kd l.nd l.nm l.fold
noncomputable instance[CI T (Lu f)][CG T (go g)][CQ T (lH q)][CE T (eo a)]:CU T (so (cb (dC n l f g q a) (gN i))):=Lo (Lu f) (go g) (lH q) (eo a) n l i λo m j h e b=>De (pU o m j h e b) sr
noncomputable instance[CI T (Lu f)][CG T (go g)][CQ T (lH q)][CE T (eo a)]:CU T (cV (bW (jV (ag (dC n l f g q a))) (eY i))):=Lo (Lu f) (go g) (lH q) (eo a) n l i λo m j h e b=>sM (zB (ur (pU o m j h e b))) pE
noncomputable instance{C f:Str}[x:CE T (es o)][y:CE T (es a)]:CU T (cV (eJ C f o a)) where
 chk Γ s:=(oB s).any λz=>(Sm z.1).any λw=>w.2.1==f&&NH Γ C f&&iz z.2&&x.chk Γ w.1&&y.chk Γ z.2
 ok c h:=by let((i,e),q,F):=bc h;let(_,rfl):=iq q;let((b,n,p),j,g):=bc F;let z:i=_:=wT j;subst z;simp only[UH,beq_iff_eq]at g;let((((rfl,E),v),u),r):=g;let(L,m,l):=yz c E;let(t,k1,k2):=x.ok c u;let(H,k3,k4):=y.ok c r;show#[_,Nb k1 k3 (RN v),JF m l k2 k4]
noncomputable instance[x:CE T (es d)][y:CE T (es k)][z:CE T (es v)]:CU T (cV (qS d k v)) where
 chk Γ s:=(oB s).any λr=>(vW r.1).any λw=>iz r.2&&x.chk Γ w.1&&y.chk Γ w.2.1&&z.chk Γ r.2
 ok c h:=by let((b,e),q,m):=bc h;let(_,rfl):=iq q;let(w,f,a):=bc m;let z:b=_:=iH f;subst z;simp only[UH]at a;let(((l,j),i),g):=a;let(t,k1,k2):=x.ok c j;let(o,k3,k4):=y.ok c i;let(n,k5,k6):=CK.ok c g;show#[_,Ju (Sw c) k1 k3 k5 (KR l),Gi k2 k4 k6]
def LK(I:Jd TI)(G:Jd TG)(Y:Jd TS)[v:CI T I][y:CG T G][m:CS T Y](k:∀{K E d g t},I K E d->G K E g->Y K E t->S K E (Ie d g t)):CU T S where
 chk Γ s:=Γ.fa&&(KB s).any λz=>v.chk Γ (z.1,z.2.1)&&y.chk Γ z.1&&m.chk Γ z.2.2
 ok c h:=by rw[UH]at h;let(z,q,a):=bc h.2;let(_,rfl):=BS q;simp only[UH]at a;let(t,(f,b),e):=v.ok c a.1.1;let(j,(k1,_),k2):=y.ok c a.1.2;let(i,k3,k4):=m.ok c a.2;show#[_,Oq (c.po h.1) c.cm f k1 k3 (yI b),k e k2 k4]
noncomputable instance[CI T (io f)][CG T (go g)][CS T (so b)]:CU T (so (l8 f g b)):=LK (io f) (go g) (so b) OU
noncomputable instance[CI T (PY f)][CG T (Gr g)][CS T (cV b)]:CU T (cV (sW f g b)):=LK (PY f) (Gr g) (cV b) Gw
def gm(M:Md)(N:bb Str)(st:Wz)(lv top:Nat)(a:Bool):Gm:=#[M,N,(aw st).names,lv,a,UJ,Pe (aw st).names,top]
def Td(N a:bb Str)(sc:WO):Bool:=decide (sc.kind=.function)&& !sc.isCoroutine&& !sc.isGenerator&&decide N.Nodup&&decide (N.take a.length=a)&&a.all (λx=>sc.names.lookup x==M .local||sc.names.lookup x==M .cell)&&sc.names.all (λy=> !(y.2==.free))
def t6{N c:bb Str}{sc:WO}(h:Td N c sc=UJ):W3 N c sc:=by
 unfold Td at h;simp only[UH,decide_eq_true_eq,WM]at h;let((((((n,m),l),j),i),g),f):=h;show#[n,m,l,j,i,λx b=>?_,λy a e=>?_]
 .let:=V9.mp g x b;rw[Wi]at this;show this.imp eD eD
 .let:=V9.mp f y a;rw[e]at this;ext this
section
variable{P:Vc}{w:Vw}{K:CL}{v:Str->bg UI}{base:Heap}{f:UP}{L:VT}{M:Md}{Z x:Str}{N u:bb Str}{k n top:Nat}{y:Wz}
def Wf(T:bb Fd)(S:Jd TS)[c:CS T S](M:Md)(N u:bb Str)(y:Wz)(k top:Nat)(a:Bool):Bool:=Td N u (aw y)&&c.chk (gm M N y k top a) (bT y)
theorem Tq(a:aaW K v M)(fs:∀i L,i<top->T[i]?=cL L->L P w K v base)(S:W3 N u (aw y)){c A outer s H E}(b:WC k (A.deeper (Vx Z (aw y) s.heap.objs.size f c))):Ct T (gm M N y k top UL) (eZ j0 P w K v base N Z (aw y) f c A outer s H E).nox E:=
 #[W,S.nd,W,S.kind,W,b,λ_=>aaq.never,λz=>ZN z,λ_ _=>W,a,fs]
theorem TQ(a:aaW K v M)(fs:∀i L,i<top->T[i]?=cL L->L P w K v base)(S:W3 N u (aw y)){c A outer s H E}(b:WC k (A.deeper (Vx Z (aw y) s.heap.objs.size f c))):Ct T (gm M N y k top UJ) (eZ (L4.lB P w) P w K v base N Z (aw y) f c A outer s H E) E:=
 #[W,S.nd,W,S.kind,W,b,λ_=>aaq.leaving,λ_=>#[_,_,_,_,_,_,_,_,_,W],λ_ _=>W,a,fs]
def lG{g:FS}{b:FN}[c:CS T (so g)](e:aaW K v M)(fs:∀i L,i<top->T[i]?=cL L->L P w K v base)(F:ZD K x Z y f L)(h:Wf T (so g) M N u y k top UL=UJ)(d:u.length=n:=by rfl)(l:b=fy N.length g:=by rfl):FnOk P w K v base j0 (k+1) f L u (AL K n b):=by let h:=(UH _ _).mp h;let S:=t6 h.1;show TK F S d W l λm A a s H E j=>c.ok (Tq e fs S j) h.2
def i4{g:dU}{b:fT}[c:CS T (cV g)](e:aaW K v M)(fs:∀i L,i<top->T[i]?=cL L->L P w K v base)(F:ZD K x Z y f L)(h:Wf T (cV g) M N u y k top UL=UJ)(d:u.length=n:=by rfl)(l:b=cE N.length g:=by rfl):FnOk P w K v base j0 (k+1) f L u (kA K n b):=by let h:=(UH _ _).mp h;let S:=t6 h.1;show TF F S d W l λm A a s H E j=>c.ok (Tq e fs S j) h.2
def Oe{g:dU}{b:fT}[c:CS T (cV g)](e:aaW K v M)(fs:∀i L,i<top->T[i]?=cL L->L P w K v base)(F:ZD K x Z y f L)(h:Wf T (cV g) M N u y k top UJ=UJ)(d:u.length=n:=by rfl)(l:b=cE N.length g:=by rfl):FnOk P w K v base (L4.lB P w) (k+1) f L u (kA K n b):=by let h:=(UH _ _).mp h;let S:=t6 h.1;show Tb F S d W l λm A a s H E j=>c.ok (TQ e fs S j) h.2
end
section
variable{T:bb Fd}{P:Vc}{w:Vw}{K:CL}{mg:Str->bg UI}{base:Heap}
theorem Ud:∀i fd,i<0->T[i]?=M fd->fd P w K mg base:=λ_ _ h=>a7 h (adM _)
theorem jb{n:Nat}{x:Fd}(h:∀i fd,i<n->T[i]?=M fd->fd P w K mg base)(e:T[n]?=M x)(a:x P w K mg base):∀i fd,i<n+1->T[i]?=M fd->fd P w K mg base:=λi fd b q=>by
 rcases Nat.lt_succ_iff_lt_or_eq.mp b with z|rfl
 .show h i fd z q
 .rw[e]at q;ext q;show a
theorem look{α:Type}{R:Str->α->Prop}{y:Str}{e:α}{l:bb (Str×α)}(h:R y e)(r:∀x d,l.lookup x=M d->R x d):∀x d,((y,e)::l).lookup x=M d->R x d:=λx d q=>by
 rw[VD]at q;split at q
 .rename_i z;rw[beq_iff_eq]at z;ext q;rw[z];show h
 .show r x d q
abbrev Sc(K:CL)(mg:Str->bg UI):Str->D->Prop:=λx d=>∃v u,mg x=M u/\RelV v u/\∀O H,DV O K H v d
theorem Uf:∀x d,([]:bb (Str×D)).lookup x=M d->Sc K mg x d:=λ_ _ h=>nomatch h
theorem SI{y:Str}{e:D}{l:bb (Str×D)}(h:Sc K mg y e)(r:∀x d,l.lookup x=M d->Sc K mg x d):∀x d,((y,e)::l).lookup x=M d->Sc K mg x d:=look h r
theorem SX{x:Str}{a:UP}{d:D}(h:mg x=M (.ref a))(k:∀O H,DV O K H (.ref a) d):Sc K mg x d:=#[.ref a,_,h,W,k]
theorem Ub:∀C L,([]:bb (Str×bb Str)).lookup C=M L->jT K C L:=λ_ _ h=>nomatch h
theorem TL{y:Str}{e:bb Str}{l:bb (Str×bb Str)}(h:jT K y e)(r:∀x d,l.lookup x=M d->jT K x d):∀x d,((y,e)::l).lookup x=M d->jT K x d:=look h r
abbrev T1(K:CL)(mg:Str->bg UI)(x:Str):Prop:=∃C,Vj K U9 x=M (M (.ref C))/\mg x=M (.ref C)/\XG K C Rn "ValueError.__new__"=UJ
theorem T0:∀x∈([]:bb Str),T1 K mg x:=λ_ h=>nomatch h
end
end CC
set_option warn.classDefReducibility false
namespace CC
open PySem L2 L3 L10
variable{T:bb Fd}
noncomputable instance:BOp AI:=JE .Pow #[_,M8,J5]
end CC
set_option warn.classDefReducibility false
namespace CC
open PySem L2 L3 L10
variable{T:bb Fd}{A B C J:Jd TE}{U Z:Jd TA}{Q R:Jd TT}
noncomputable instance:CB xY:=#["abs",_,Qa,.inl #[_,W],λ_=>#[_,Be,NJ]]
end CC
set_option warn.classDefReducibility false
namespace CC
open PySem L2 L3 L10
variable{T:bb Fd}{A B C J:Jd TE}{U Z:Jd TA}{Q R:Jd TT}
theorem Bc{a:Gm}{X:Cx}{E:XK}(c:Ct T a X E):X.A.units+64<cLine:=c.rm.units
noncomputable instance:CE T (es tL) where
 chk _ e:=(TN e).any λy=>y.1.isEmpty&&y.2.isEmpty
 ok _ h:=by let((k,v),q,a):=bc h;let(_,rfl):=OG q;simp only[UH,VF]at a;let(rfl,rfl):=a;show#[_,LD.pe_ddnew,BK]
noncomputable instance[x:CE T (es d)][y:CE T (es k)]:CE T (es (jq d k)) where
 chk Γ e:=(vW e).any λp=>iz p.2.1&&x.chk Γ p.1&&y.chk Γ p.2.1
 ok c h:=by let(p,q,a):=bc h;simp only[UH]at a;let(l,i,g):=x.ok c a.1.2;let(j,f,b):=y.ok c a.2;rw[iH q];show#[_,LD.pe_ddget (Bc c) i f (sO a.1.1),Bt g b]
def KA(op:aaF)(x y:Gm->Va->Bool)(a:Gm)(e:Va):Bool:=(RZ op e).any λp=>x a p.1&&y a p.2
def Ql(neg:Bool):aaF:=if neg then .NotIn else .In
def Ch{neg:Bool}[x:CE T (es k)][y:CE T (es d)]{l X E e}(c:Ct T l X E)(h:KA (Ql neg) x.chk y.chk l e=S):∃t,PE X e t/\PT X e (tB t)/\cB X.K E t (pB neg k d):=by
 let(p,q,g):=bc h;rw[UH]at g;let(_,rfl,a):=sZ q;let(n,f,j):=x.ok c g.1;let(m,b,i):=y.ok c g.2;cases neg with
 |false=>show#[_,xA (LD.pc_ddin (Bc c) f b) a,xH (LD.pc_ddin (Bc c) f b) a,vj j i]
 |true=>show#[_,xA (LD.pc_ddnin (Bc c) f b) a,xH (LD.pc_ddnin (Bc c) f b) a,vj j i]
noncomputable instance[x:CE T (es k)][y:CE T (es d)]:CT T (l6 (a9 (pB neg k d))):=#[KA (Ql neg) x.chk y.chk,λc h=>let#[_,_,h1,a]:=Ch c h;#[_,h1,D6 a]]
noncomputable instance[x:CE T (es d)][y:CE T (es k)][z:CE T (es v)]:CU T (cV (ot d k v)) where
 chk Γ s:=(oB s).any λr=>(vW r.1).any λw=>iz r.2&&x.chk Γ w.1&&y.chk Γ w.2.1&&z.chk Γ r.2
 ok c h:=by let((b,e),q,m):=bc h;let(_,rfl):=iq q;let(w,f,a):=bc m;let z:b=_:=iH f;subst z;simp only[UH]at a;let(((l,j),i),g):=a;let(t,k1,k2):=x.ok c j;let(o,k3,k4):=y.ok c i;let(n,k5,k6):=CK.ok c g;show#[_,LD.ps_ddput (Bc c) k1 k3 k5 (KR l),AU k2 k4 k6]
def KU:Wz->I (Va×aba×Va)
 |.AugAssign t o e _=>M (t,o,e)
 |_=>P
theorem F3{s:Wz}(h:KU s=M x):∃p,s=.AugAssign x.1 x.2.1 x.2.2 p:=pW (P:=λx=>∃p,s=.AugAssign x.1 x.2.1 x.2.2 p) (by ext s<;>first|show trivial|show#[_,W]) h
class IOp (f:D->D->I RV) where
 op:aba
 ok:∀{X:Cx},∃ti,Si X op ti/\iA X.K ti f
noncomputable instance:IOp NN:=#[.Add,#[_,JQ,Bh]]
noncomputable instance[o:IOp f][x:CE T (es a)]:CU T (cV (AB i f a)) where
 chk Γ s:=(KU s).any λy=>decide (y.2.1=o.op)&&(Ff i Γ y.1&&x.chk Γ y.2.2)
 ok c h:=by let((g,op,e),q,b):=bc h;let(_,rfl):=F3 q;simp only[UH,decide_eq_true_eq]at b;let(rfl,u,r):=b;let(t,n,m):=x.ok c r;let(y,p,z,k1,k2,k3):=nI c u;let z:g=_:=z;subst z;let(v,l,j):=o.ok;show#[_,NM c.nd k1 k2 n l k3,GJ j m]
noncomputable instance[z:CT T (l6 q)][m:CS T (cV b)]:CU T (cV (oz q b)) where
 chk Γ s:=Γ.fa&&(Rj s).any λy=>z.chk Γ y.1&&m.chk Γ y.2
 ok c h:=by rw[UH]at h;let(y,q,a):=bc h.2;let(_,rfl):=GR q;rw[UH]at a;let(t,f,e):=z.ok c a.1;let(g,k1,k2):=m.ok c a.2;show#[_,Ce (c.po h.1) f k1,Al e k2]
def vD:D->V
 |.int i=>.int i
 |_=>.W9
class acT (l:G D):Prop where
 h:∀K O H,Wo O K H (l.map vD) l
noncomputable instance:acT []:=#[λ_ _ _=>.nil]
noncomputable instance[r:acT l]:acT (.int i::l):=#[λK O H=>.cons (.int i) (r.h K O H)]
abbrev K2(ds:G D)(lv:Nat)(x:Str)(b:G Str)(n:Nat)(F:fT):Fd:=λP w K a base=>AW P w K a base (L4.lB P w) lv x b (ds.map vD) (kA K n F)
noncomputable instance[a:acT ds][Fn T (K2 ds) F n][CA T (as u)]:CE T (es (vk F n ds u)):=rJ (as u) (K2 ds) F n S λf x r g d p e b=>#[_,zO f r (x W) e (UU _) g d (dY p) (gR p),Ay (λO H=>a.h _ O H) b]
noncomputable instance[a:acT ds][Fn T (K2 ds) F n][CA T (as u)]:CE T (es (oa F n ds u)):=rJ (as u) (K2 ds) F n UL λf x r g d p e b=>#[_,zO f r Fo e (UU _) g d (dY p) (gR p),wx (λO H=>a.h _ O H) b]
abbrev RP(lv:Nat)(C:Str)(b:G Str)(n:Nat)(F:fT):Fd:=λP w K a base=>vI P w K a base (L4.lB P w) lv C b (kA K n F)
class FKE (T:G Fd) (C:Str) (F:fT) (n:Nat) where
 i:Nat
 lv:Nat
 ps:G Str
 h:T[i]?=M (RP lv C ps n F)
noncomputable instance{C:Str}[o:FKE T C F n][x:CE T (es a)][u:CA T (as b)]:CE T (es (AC C F n (aj a b))) where
 chk Γ e:=Γ.rz&&(Γ.M.cl.lookup C).isSome&&(P2 Γ o.i (o.lv+1) C e).any λy=>CK.chk T PA (as (aj a b)) Γ (y.1::y.2.1)
 ok c h:=by simp only[UH]at h;let(L,l):=Wm.mp h.1.2;let(y,q,p):=bc h.2;let(rfl,g,i,j,f):=ou q;let(w,v,_):=lO c g;let(t,r,m):=CK.ok c p;show#[_,LG (c.fs _ _ i o.h) (Dz c h.1.1) c.rm r j w v (dY f) (gR f),OJ (c.md.cl _ _ l) m]
abbrev Tj(lv:Nat)(x f:Str):Fd:=λP w K b base=>∃(C B fI:UP) (e:Obj) (a:VT) (g:G Str),L9.XC K C B fI/\K.lookup fI=M e/\WX K (.ref fI)=S/\FnOk P w K b base j0 lv fI a g (L9.sX C f)/\Binds K a g []/\Vj K U9 x=M (M (.ref C))/\b x=M (.ref C)
class FX (T:G Fd) (x f:Str) where
 i:Nat
 lv:Nat
 h:T[i]?=M (Tj lv x f)
noncomputable instance{k f:Str}[o:FX T k f][x:CE T (es a)]:CU T (cV (kY k f a)) where
 chk i s:=i.rz&&(QL s).any λe=>(P2 i o.i (o.lv+1) k e).any λy=>y.2.1.isEmpty&&x.chk i y.1
 ok {i X E s} c h:=by rw[UH]at h;let(S,P):=h;let(e,q,O):=bc P;let(_,rfl):=Ip q;let((e0,l,p1,p2),w,b):=bc O;let(rfl,g,hi,K,n):=ou w;simp only[UH,VF]at b;let(rfl,b):=b;let(v,Y,_):=lO c (x:=k) g;let(C,B,fI,oI,fdI,ps,L,H,I,FI,bI,F,G):=c.fs _ _ hi o.h;let(t,u,M):=x.ok c b;let r:=c.rm.mono K;let(N,p,j,f,cd,A,m,s0,H0,e):=c.px S;show#[_,?_,wu F M];rw[e]at v u r⊢;show L9.A9 L H I FI bI r v G (iG u lM (dY n)) Y (dY n) (gR n)
def Qc{P:Vc}{w:Vw}{K:CL}{q:Str->I UI}{base:Heap}{f:UP}{fd:VT}{M:Md}{a x:Str}{N d:G Str}{k n top:Nat}{st:Wz}{g:dU}{e:fT}{TT:UP}{o:Array UI}[c:CS T (cV g)](j:aaW K q M)(fs:∀i fd,i<top->T[i]?=cL fd->fd P w K q base)(F:aaZ K x a st f fd TT o)(h:Wf T (cV g) M N d st k top UJ=UJ)(r:d.length=n:=by rfl)(m:e=cE N.length g:=by rfl):FnOk P w K q base (L4.lB P w) (k+1) f fd d (kA K n e):=by let h:=(UH _ _).mp h;let S:=t6 h.1;show Ri F S r W m λp A b s H E l=>c.ok (TQ j fs S l) h.2
end CC
set_option warn.classDefReducibility false
namespace CC
open PySem L2 L3 L10
variable{T:bb Fd}{A B C J:Jd TE}{U Z:Jd TA}{Q R:Jd TT}
abbrev SR(lv:Nat)(x f g:Str):Fd:=λP w K b base=>∃(C B fI:UP) (e:Obj) (a:VT) (h:G Str),L9.XC K C B fI/\K.lookup fI=M e/\WX K (.ref fI)=S/\FnOk P w K b base j0 lv fI a h (L9.Db C f g)/\Binds K a h []/\Vj K U9 x=M (M (.ref C))/\b x=M (.ref C)
class FX2 (T:G Fd) (x f g:Str) where
 i:Nat
 lv:Nat
 h:T[i]?=M (SR lv x f g)
end CC
set_option warn.classDefReducibility false
namespace CC
open PySem L2 L3 L10
variable{T:bb Fd}{A B C J:Jd TE}{U Z:Jd TA}{Q R:Jd TT}
noncomputable instance[x:CE T (es a)]:CE T (es (vX a)) where
 chk N e:=(Et N "list" e).any λy=>y.2.1.isEmpty&&(Et N "reversed" y.1).any λz=>z.2.1.isEmpty&&x.chk N z.1
 ok {N X E e} c h:=by let((e,l,L,K),q,i):=bc h;let(rfl,g,m):=kE q;simp only[UH,VF]at i;let(rfl,r):=i;let((e2,M,I,H),j,f):=bc r;let(z,u,b):=kE j;let z:e=_:=z;subst z;simp only[UH,VF]at f;let(rfl,p):=f;let(t,o,n):=x.ok c p;let(G,F,_):=l4 c g;let(w,v,_):=l4 c u;show#[_,wL c.cm G F w v o (dY m) (dY b),F4 n]
end CC
set_option warn.classDefReducibility false
namespace CC
open PySem L2 L3 L10
variable{T:bb Fd}
end CC
namespace M02
inductive Con(E:G (Nat×Nat))(r0:Nat):Bool->Nat->Prop
 |base:Con E r0 S r0
 |col {r c:Nat}:Con E r0 S r->(r,c)∈E->Con E r0 R c
 |row {r c:Nat}:Con E r0 R c->(r,c)∈E->Con E r0 S r
def has(n c:Nat):Prop:=n.testBit c=S
structure Nums(E:G (Nat×Nat))(R C:Nat)(ns:G Nat):Prop where
 len:ns.length=R
 lt:∀n∈ns,n<2^C
 own:∀r c,(r,c)∈E->has (ns.getD r 0) c
 snd:∀r,r<R->∀c,has (ns.getD r 0) c->Con E r UL c
abbrev NF:=G Nat×G Nat
structure aoF(E:G (Nat×Nat))(r0:Nat)(s:NF):Prop where
 a:r0∈s.1
 n:∀x∈s.1,Con E r0 S x
 f:∀x∈s.2,Con E r0 R x
 d:s.2.Nodup
 d1:s.1.Nodup
structure amd(R C:Nat)(ss:G (Nat×Nat)):Prop where
 r1:1<=R
 r6:R<=6
 c1:1<=C
 c6:C<=6
 l1:1<=ss.length
 l12:ss.length<=12
 nd:ss.Nodup
 inn:∀s∈ss,s.1<R/\s.2<C
end M02
local macro_rules(kind:=«term{_}»)|`({$a})=>`(L3.ae $a L3.am)|`({$a,$b})=>`(L3.ae $a (L3.ae $b L3.am))|`({$a,$b,$c})=>`(L3.ae $a (L3.ae $b (L3.ae $c L3.am)))|`({$a,$b,$c,$d})=>`(L3.ae $a (L3.ae $b (L3.ae $c (L3.ae $d L3.am))))
local macro_rules|`(~~~$n)=>`(L3.pC (.int $n))
namespace STP
open PySem L2 L3
def gw:FS:=(aV (kC (az (ay i6 (ay aR (aa 0) (~~~2)) (pC .none))) (cX (ay aR (aa 0) (~~~2))) dQ)
 (cX (fw (L10.zz 0) {dC 2 [] (iX (ay aR (aa 0) (~~~0))) (gT 2 (Bg (gN 0) (Bg (gN 1) K8))) (az (ay cH (ay aR (aa 1) (~~~0)) (pC (.str "layer")))) (ay aR (aa 1) (~~~1))})))
def dP:FN:=fy 1 gw
def fQ:FS:=(aV (cb (ay aR (ay aR (ay aR (aa 0) (~~~1)) (aa 1)) (aa 2)) (gN 3))
 (aV (kC (az (ay cH (ay aR (aa 3) (~~~0)) (pC (.str "below")))) (cX (ay aR (ay aR (ay aR (aa 0) (~~~1)) (~~~0)) (aa 2))) dQ)
 (cX (aa 3))))
def gO:FN:=fy 4 fQ
def ei:FS:=(cX (dC 1 [1] (iX (ay aR (aa 0) (~~~2))) (gN 0) (az (fw Aj {dC 1 [0] (iX (aa 1)) (gN 0) dW (ay Gq (aa 0) (ay aR (aa 1) (~~~0)))})) (aa 0)))
def bu:FN:=fy 2 ei
def eO:FS:=(aV (l8 (iX (ay aR (aa 0) (~~~2))) (gN 2) (kC (az (ay cH (fw qM {ay aR (aa 2) (~~~0)}) (fw L9.fK {aa 1}))) (cX (ay ce (cU {aU {pC (.str "letter"),ay aR (aa 2) (~~~1)}}) (ay fq (cU {pC (.tuple [(.str "none")])}) (ay o0 (fw fu {aa 1}) (~~~1))))) dQ))
 (cX (dC 1 [0] (iX (aa 1)) (gN 0) dW (ay aR (ay aR (ay aR (aa 1) (~~~1)) (~~~0)) (aa 0)))))
def eV:FN:=fy 3 eO
open L10
def eA:dU:=(aD (eJ "Hand" "bed" (ar 0) (ag (aa 1)))
 (aD (eJ "Hand" "acts" (ar 0) (rP (ag (ay aR (aa 2) (~~~0)))))
 (aD (eJ "Hand" "waiting" (ar 0) (ag (ay aR (aa 2) (~~~1))))
 (aD (eJ "Hand" "once" (ar 0) (ag (ay aR (aa 2) (~~~2))))
 (eJ "Hand" "sent" (ar 0) (ag (cU am)))))))
def dg:fT:=cE 3 eA
def fG:dU:=(gJ (kR (aj (Gp hV (aj (mz 1 [0] (j6 (pN (aP "Hand" "acts" (ar 0)))) (eY 0) mQ (kR (aj (ag (aa 0)) (aj (pS (aP "Hand" "acts" (ar 1)) (ag (aa 0))) aK)))) aK)) (aj (aP "Hand" "waiting" (ar 0)) (aj (aP "Hand" "once" (ar 0)) aK)))))
def bv:fT:=cE 1 fG
def dD:dU:=(gJ (wR (kI i6 (aP "Hand" "waiting" (ar 0)) (ag (pC .none))) (kI Gq (ag (aa 1)) (i7 (aP "Hand" "waiting" (ar 0)) (ag (~~~0))))))
def bR:fT:=cE 2 dD
def eR:dU:=(gJ (kI Gq (ag (aa 1)) (vR (aP "Hand" "acts" (ar 0)))))
def bx:fT:=cE 2 eR
def gL:dU:=(aD (bV (jW (bh (az (ay cH (ay aR (aa 2) (~~~0)) (pC (.str "letter"))))) (qE (a9 (aG "Hand" "has_act" bx 2 (ar 0) (aj (ag (aa 2)) aK))))) (br (pz (aP "Hand" "sent" (ar 0)) (ag (aU {ay aR (aa 2) (~~~1),pC (.str "down")})))) bZ)
 (qS (aP "Hand" "acts" (ar 0)) (ag (aa 1)) (ag (aa 2))))
def aZ:fT:=cE 3 gL
def jJ:dU:=(aD (bW (rh (aP "Hand" "acts" (ar 0)) (ag (aa 1))) (eY 2))
 (bV (jW (bh (az (ay cH (ay aR (aa 2) (~~~0)) (pC (.str "letter"))))) (qE (a9 (aG "Hand" "has_act" bx 2 (ar 0) (aj (ag (aa 2)) aK))))) (br (pz (aP "Hand" "sent" (ar 0)) (ag (aU {ay aR (aa 2) (~~~1),pC (.str "up")})))) bZ))
def iw:fT:=cE 3 jJ
def fM:dU:=(aD (bW (i7 (aP "Hand" "waiting" (ar 0)) (ag (~~~0))) (eY 1))
 (aD (bW (i7 (aP "Hand" "waiting" (ar 0)) (ag (~~~2))) (eY 2))
 (aD (eJ "Hand" "waiting" (ar 0) (ag (pC .none)))
 (aD (bW (jV (KI (bh (az (ay cH (aa 2) (pC (.tuple [(.str "chord")]))))) (g8 eV 2 (aj (aP "Hand" "bed" (ar 0)) (aj (ag (aa 1)) aK))) (ag (cU {aU {pC (.str "layer"),ay aR (aa 2) (~~~2)}})))) (eY 3))
 (sW (kZ (AX {aa 1,aa 3})) (KF 2 (qA (eY 4) (qA (eY 5) Ax))) (br (aG "Hand" "come" aZ 3 (ar 0) (aj (ag (aa 4)) (aj (ag (aa 5)) aK)))))))))
def cF:fT:=cE 6 fM
def c8:dU:=(aD (bV (BN (a9 (kI qG (aP "Hand" "waiting" (ar 0)) (ag (pC .none)))) (BN (a9 (kI uj (i7 (aP "Hand" "waiting" (ar 0)) (ag (~~~2))) (ag (pC (.tuple [(.str "chord")]))))) (a9 (kI uj (g8 dP 1 (aj (aG "Hand" "stands" bv 1 (ar 0) aK) aK)) (ag (~~~0)))))) (gJ (ag (pC (.bool R)))) bZ)
 (gJ (kI uj (g8 bu 2 (aj (aP "Hand" "bed" (ar 0)) (aj (kI ce (i7 (aP "Hand" "waiting" (ar 0)) (ag (~~~0))) (ag (aU {aa 1}))) aK))) (ag (cU am)))))
def cY:fT:=cE 2 c8
def cO:dU:=(aD (bW (kI ce (i7 (aP "Hand" "waiting" (ar 0)) (ag (~~~0))) (ag (aU {aa 1}))) (eY 2))
 (aD (eJ "Hand" "waiting" (ar 0) (kR (aj (ag (aa 2)) (aj (i7 (aP "Hand" "waiting" (ar 0)) (ag (~~~1))) (aj (ag (pC (.tuple [(.str "chord")]))) aK)))))
 (bV (a9 (kI cH (mz 1 [] (j6 (g8 bu 2 (aj (aP "Hand" "bed" (ar 0)) (aj (ag (aa 2)) aK)))) (eY 0) mQ (ag (fw fu {ay aR (aa 0) (~~~0)}))) (ag (cU {fw fu {aa 2}})))) (br (aG "Hand" "decide" cF 1 (ar 0) aK)) bZ)))
def cK:fT:=cE 3 cO
def gv:dU:=(aD (bW (g8 dP 1 (aj (aG "Hand" "stands" bv 1 (ar 0) aK) aK)) (eY 2))
 (aD (bW (g8 gO 3 (aj (aP "Hand" "bed" (ar 0)) (aj (ag (aa 2)) (aj (ag (aa 1)) aK)))) (eY 3))
 (aD (bW (ag (ay aR (aa 3) (~~~0))) (eY 4))
 (aD (bV (bh (az (ay mv (aa 4) (aU {pC (.str "layer"),pC (.str "once")})))) (eJ "Hand" "once" (ar 0) (ag (pC .none))) bZ)
 (bV (bh (az (ay cH (aa 4) (pC (.str "tap"))))) (eJ "Hand" "waiting" (ar 0) (ag (aU {aU {aa 1},~~~0,aa 3}))) (bV (jW (bh (az (ay cH (aa 4) (pC (.str "letter"))))) (jW (bh (az (ay cH (aa 2) (~~~0)))) (a9 (kI uj (g8 bu 2 (aj (aP "Hand" "bed" (ar 0)) (aj (ag (aU {aa 1})) aK))) (ag (cU am)))))) (eJ "Hand" "waiting" (ar 0) (ag (aU {aU {aa 1},~~~0,pC (.tuple [(.str "chord")])}))) (bV (bh (az (ay cH (aa 4) (pC (.str "once"))))) (aD (br (aG "Hand" "come" aZ 3 (ar 0) (aj (ag (aa 1)) (aj (ag (pC (.tuple [(.str "none")]))) aK))))
 (eJ "Hand" "once" (ar 0) (ag (ay aR (aa 3) (~~~1))))) (br (aG "Hand" "come" aZ 3 (ar 0) (aj (ag (aa 1)) (aj (ag (aa 3)) aK)))))))))))
def eT:fT:=cE 5 gv
def gc:dU:=(aD (bV (BN (a9 (qO R (ag (aa 1)) (aP "Hand" "acts" (ar 0)))) (a9 (aG "Hand" "is_waiting" bR 2 (ar 0) (aj (ag (aa 1)) aK)))) pQ bZ)
 (aD (bV (a9 (aG "Hand" "makes_chord" cY 2 (ar 0) (aj (ag (aa 1)) aK))) (aD (br (aG "Hand" "put_to_chord" cK 2 (ar 0) (aj (ag (aa 1)) aK)))
 pQ) bZ)
 (aD (bV (a9 (kI i6 (aP "Hand" "waiting" (ar 0)) (ag (pC .none)))) (br (aG "Hand" "decide" cF 1 (ar 0) aK)) bZ)
 (br (aG "Hand" "begin" eT 2 (ar 0) (aj (ag (aa 1)) aK))))))
def gr:fT:=cE 2 gc
def fL:dU:=(aD (bW (i7 (aP "Hand" "waiting" (ar 0)) (ag (~~~2))) (eY 2))
 (bV (bh (az (ay cH (aa 2) (pC (.tuple [(.str "chord")]))))) (br (aG "Hand" "decide" cF 1 (ar 0) aK)) (aD (eJ "Hand" "waiting" (ar 0) (ag (pC .none)))
 (br (aG "Hand" "come" aZ 3 (ar 0) (aj (ag (aa 1)) (aj (ag (aU {pC (.str "letter"),ay aR (aa 2) (~~~1)})) aK)))))))
def fO:fT:=cE 3 fL
def gM:dU:=(aD (bV (a9 (aG "Hand" "is_waiting" bR 2 (ar 0) (aj (ag (aa 1)) aK))) (br (aG "Hand" "settle" fO 2 (ar 0) (aj (ag (aa 1)) aK))) bZ)
 (bV (a9 (qO R (ag (aa 1)) (aP "Hand" "acts" (ar 0)))) (br (aG "Hand" "go" iw 2 (ar 0) (aj (ag (aa 1)) aK))) bZ))
def gY:fT:=cE 2 gM
def eS:dU:=(aD (bV (a9 (kI qG (aP "Hand" "waiting" (ar 0)) (ag (pC .none)))) pQ bZ)
 (aD (bW (kI ce (i7 (aP "Hand" "waiting" (ar 0)) (ag (~~~1))) (ag (~~~1))) (eY 1))
 (aD (eJ "Hand" "waiting" (ar 0) (kR (aj (i7 (aP "Hand" "waiting" (ar 0)) (ag (~~~0))) (aj (ag (aa 1)) (aj (i7 (aP "Hand" "waiting" (ar 0)) (ag (~~~2))) aK)))))
 (bV (a9 (kI cH (ag (aa 1)) (i7 (aP "Hand" "bed" (ar 0)) (ag (~~~3))))) (br (aG "Hand" "decide" cF 1 (ar 0) aK)) bZ))))
def eU:fT:=cE 2 eS
def tU:dU:=(aD (bW (qk "Hand" dg 3 (aj (ag (aa 0)) (aj (ag (aa 1)) aK))) (eY 3))
 (aD (bV (bh (az (ay cH (ay aR (aa 2) (~~~0)) (pC (.str "turn"))))) (br (aG "Hand" "wait_on" eU 1 (ar 3) aK)) (bV (bh (az (ay cH (ay aR (aa 2) (~~~0)) (pC (.str "down"))))) (br (aG "Hand" "press" gr 2 (ar 3) (aj (ag (ay aR (aa 2) (~~~1))) aK))) (br (aG "Hand" "lift" gY 2 (ar 3) (aj (ag (ay aR (aa 2) (~~~1))) aK)))))
 (gJ (kR (aj (aP "Hand" "sent" (ar 3)) (aj (aG "Hand" "stands" bv 1 (ar 3) aK) aK))))))
def ka:fT:=cE 4 tU
end STP
local macro_rules| `(tactic|ext:4)=> `(tactic|·first|((simp only[ach,aci]);rfl)|rfl)| `(tactic|ext:3)=> `(tactic|first|with_reducible assumption|change L3.gC _ _|change L3.xM _ _|change L3.pH _ _|change L3.ym _ _|change L3.v9 _ _|change L3.y0 _ _|change L3.ajt _ _|change L3.aiu _ _|change L3.lf _ _|change L3.uh _ _|change L3.acF _ _|change L3.acI _ _|change L3.agM _ _|change L3.ahs _ _|change L3.rT _ _|change L3.ahu _ _|change L3.agI _ _|change L3.agg _ _|change L3.sH _ _|change L3.agj _ _|change L3.af6 _ _|change L3.ahp _ _|change L3.ahV _ _|change L3.g7|change L3.iC|change L3.p7|change L3.anM|change L3.aok|change L3.Kz|change L3.ir _|change L3.iu _|(with_reducible rfl))| `(tactic|ext:0)=> `(tactic|first
 |change L3.aA
 |((with_reducible apply L3.af);rfl)
 |((with_reducible apply L3.iQ);rfl)
 |change L3.av
 |change L3.u9
 |((with_reducible apply L3.aB);(·ext:0);(·ext:0);(·rfl);(·rfl);(·ext:3))
 |((with_reducible apply L3.ajU);(·ext:0);(·rfl);(·rfl))
 |((with_reducible apply L3.ai);(·ext:0);(·ext:0))
 |((with_reducible apply L3.a8);(·ext:0);(·rfl))
 |((with_reducible apply L3.cS);(·ext:0);(·rfl);(·first|ext:3|rfl))
 |((with_reducible apply L3.dZ);(·ext:0);(·rfl);(·rfl);(·with_reducible assumption))
 |((with_reducible apply L3.bG);(·ext:0);(·rfl);(·exact UN rfl))
 |((with_reducible apply L3.kr);(·ext:0);(·rfl);(·exact UN rfl))
 |((with_reducible apply L3.ail);(·ext:0);(·rfl);(·rfl))
 |((with_reducible apply L3.ic);(·ext:0);(·rfl))
 |((with_reducible apply L3.yi);(·ext:0);(·ext:0);(·ext:0);(·rfl);(·first|with_reducible assumption|rfl))
 |((with_reducible apply L3.Im);(·ext:0))
 |((with_reducible apply L3.nA);(·ext:0);(·intro _;ext:0))
 |((with_reducible apply L3.aiw);(·ext:0);(·intro _;ext:0))
 |((with_reducible apply L3.ahk);(·ext:0))
 |((with_reducible apply L3.sU);(·ext:0);(·intro _;ext:0))
 |((with_reducible apply L3.aer);(·ext:0);(·intro _;ext:0))
 |((with_reducible apply L3.nM);(·ext:0);(·rfl);(·first|with_reducible assumption|rfl))
 |((with_reducible apply L3.iK);(·ext:0);(·rfl);(·rfl))
 |((with_reducible apply L3.afX);(·ext:0);(·rfl);(·rfl))
 |((with_reducible apply L3.mn);(·rfl);(·ext:0);(·rfl);(·rfl);(·first|with_reducible assumption|(simp only[W2,U4,L3.cM] at*;ext));ext:4)
 |((with_reducible apply L3.aiK);(·rfl);(·ext:0);(·rfl);(·rfl);(·with_reducible assumption);(·with_reducible assumption);(·with_reducible assumption);ext:4)
 |((with_reducible apply L3.pJ);(·ext:0);(·rfl);ext:4)
 |((with_reducible apply L3.tM);(·ext:0))
 |((with_reducible apply L3.sj);(·ext:0);(·rfl)))
local macro_rules| `(tactic|ext:6)=> `(tactic|first
 |((with_reducible apply L3.aiF);(·ext:0);(·ext:0);(·rfl);(·rfl);(·ext:3))
 |((with_reducible apply L3.agB);(·ext:0);(·rfl);(·rfl);(·with_reducible assumption))
 |((with_reducible apply L3.ais);(·ext:0);(·rfl);(·first|ext:3|rfl))
 |ext:0)
local macro_rules| `(tactic|ext:0)=> `(tactic|first
 |with_reducible assumption
 |((with_reducible apply L3.sU);(·ext:0);(·intro _;ext:6))
 |((with_reducible apply L3.aer);(·ext:0);(·intro _;ext:6))
 |((with_reducible apply L3.Fv);(·ext:0);(·ext:0);(·ext:0);(·rfl);(·rfl);(·rfl);(·ext:3);(·intro _;ext:3))
 |((with_reducible apply L3.zD);(·ext:0);(·rfl);(·rfl);(·rfl)))
local macro_rules| `(tactic|ext:1)=> `(tactic|first
 |((with_reducible apply L3.aY);(·ext:0);(·rfl);ext:4;try ext:1)
 |((with_reducible apply L3.sA);(·ext:0);try ext:1)
 |((with_reducible apply L3.ai3);try ext:1)
 |((with_reducible apply L3.c7);try ext:1)
 |((with_reducible apply L3.fC);(·ext:0);(·rfl))
 |((with_reducible apply L3.ie);(·ext:0))
 |((with_reducible apply L3.ajm);(·ext:0);(·rfl);ext:4)
 |((with_reducible apply L3.nH);(·ext:0))
 |((with_reducible apply L3.d6);(·ext:0);(·rfl))
 |((with_reducible apply L3.akv);(·ext:0))
 |(with_reducible apply L3.agR))
namespace STP
open PySem L2 L3
def cT(c:Nat):Str:=#[#v[97+c]]
inductive Mn where
 |Vk (c:Nat)
 |WN (n:Int)
 |Yu (c:Nat) (n:Int)
 |once (n:Int)
 |none
 |below
 deriving DecidableEq
def mD:Mn->D
 |.Vk c=>.tuple [.str "letter",.str (cT c)]
 |.WN n=>.tuple [.str "layer",.int n]
 |.Yu c n=>.tuple [.str "tap",.str (cT c),.int n]
 |.once n=>.tuple [.str "once",.int n]
 |.none=>.tuple [.str "none"]
 |.below=>.tuple [.str "below"]
def VM(L a:Int):Mn->Prop
 |.Vk c=>c<26
 |.WN n=>1<=n/\n<a
 |.Yu c n=>c<26/\1<=n/\n<a
 |.once n=>1<=n/\n<a
 |.none=>True
 |.below=>L≠0
def Mn.isL:Mn->Bool
 |.Vk _=>S
 |_=>R
structure Bd where
 n:Int
 ls:G (G Mn)
 cs:G (G Nat×Nat)
 wt:Int
def dA(l:G Mn):D:=.tuple (l.map mD)
def Wf(c:G Nat×Nat):D:=.tuple [.tuple (aO c.1),.str (cT c.2)]
def bD(b:Bd):D:=.tuple [.int b.n,.tuple (b.ls.map dA),.tuple (b.cs.map Wf),.int b.wt]
def VL(n a:Int)(b:G (G Mn)):Prop:=∀(i:Nat) l,b[i]?=M l->(l.length:Int)=n/\∀m∈l,VM i a m
def mS(l0:G Mn)(k:Nat):Bool:=(l0[k]?.map Mn.isL).getD R
def VC(l0:G Mn)(c:G Nat×Nat):Prop:=2<=c.1.length/\c.1.Pairwise (·<·)/\(∀k∈c.1,mS l0 k=S)/\c.2<26
structure VB(b:Bd):Prop where
 n1:1<=b.n
 n5:b.n<=5
 l1:1<=b.ls.length
 l3:b.ls.length<=3
 vl:VL b.n b.ls.length b.ls
 c4:b.cs.length<=4
 vc:∀c∈b.cs,VC (b.ls.headD []) c
 cu:b.cs.Pairwise λa c=>a.1≠c.1
 w1:1<=b.wt
 w4:b.wt<=4
def wn:Mn->Nat
 |.Vk _=>0
 |.WN _=>1
 |.Yu _ _=>2
 |.once _=>3
 |.none=>4
 |.below=>5
def ws:Nat->Str
 |0=> "letter"
 |1=> "layer"
 |2=> "tap"
 |3=> "once"
 |4=> "none"
 |_=> "below"
def wd(m:Mn):Str:=ws (wn m)
def mG(m:Mn):wn m<6:=by ext m<;>show UN W
def mO(m:Mn):aR (mD m) (.int 0)=M (.fz (.str (wd m))):=by ext m<;>show g7
theorem LC(m:Mn):UM.strOk (wd m)=S:=(by left:∀i,i<6->UM.strOk (ws i)=S) _ (mG m)
def uu:∀i,i<6->∀j,j<6->(ws i==ws j)=decide (i=j):=by left
def vd(m:Mn)(j:Nat)(a:j<6):cH (.str (wd m)) (.str (ws j))=M (.fz (.bool (decide (wn m=j)))):=by rw[Qr (LC m) ((by left:∀i,i<6->UM.strOk (ws i)=S) j a)];ext wd;rw[uu _ (mG m) _ a]
def Mn.isB:Mn->Bool
 |.below=>S
 |_=>R
def Mn.ab4:Mn->Bool
 |.WN _=>S
 |_=>R
def Mn.isT:Mn->Bool
 |.Yu _ _=>S
 |_=>R
def Mn.isO:Mn->Bool
 |.once _=>S
 |_=>R
theorem jQ(m:Mn):cH (.str (wd m)) (.str "letter")=M (.fz (.bool m.isL)):=(vd m 0 ()).trans (by ext m<;>rfl)
theorem BV(m:Mn):cH (.str (wd m)) (.str "below")=M (.fz (.bool m.isB)):=(vd m 5 ()).trans (by ext m<;>rfl)
theorem Cu(m:Mn):cH (.str (wd m)) (.str "layer")=M (.fz (.bool m.ab4)):=(vd m 1 ()).trans (by ext m<;>rfl)
theorem Mq(m:Mn):cH (.str (wd m)) (.str "tap")=M (.fz (.bool m.isT)):=(vd m 2 ()).trans (by ext m<;>rfl)
theorem IP(m:Mn):cH (.str (wd m)) (.str "once")=M (.fz (.bool m.isO)):=(vd m 3 ()).trans (by ext m<;>rfl)
def RY(m:Mn):mv (.str (wd m)) (.tuple [.str "layer",.str "once"])=M (.fz (.bool (!(m.ab4||m.isO)))):=by
 let h:∀a:Str,UM.strOk a=S->mv (.str a) (.tuple [.str "layer",.str "once"])=M (.fz (.bool (!(("layer":Str)==a||("once":Str)==a)))):=λa b=>by show(if(j4 (.str a)&&(UM.strOk "layer"&&(UM.strOk "once"&&S)))=S then M (RV.fz (.bool (!(UM.eqv (.str "layer") (.str a)||(UM.eqv (.str "once") (.str a)||false)))))else P)=_;rw[show j4 (.str a)=S by ext j4;rw[show UM.canLay0 (.str a)=S from b];rfl,show UM.strOk "layer"=S by left,show UM.strOk "once"=S by left,aaG];rfl
 rw[h _ (LC m)];ext wd;rw[show(("layer":Str)==ws (wn m))=_ from uu 1 () _ (mG m),show(("once":Str)==ws (wn m))=_ from uu 3 () _ (mG m)];ext m<;>rfl
def LB:Mn->Prop
 |.Vk c=>c<26
 |.Yu c _=>c<26
 |_=>True
def VM.lb(h:VM L nL m):LB m:=by
 cases m with
 |Vk c=>show h
 |Yu c n=>show h.1
 |_=>trivial
def n6(h:c<26):UM.strOk (cT c)=S:=by show((#v[97+c]:Array Nat).all λc=>decide (c<0x110000))=S;simp;ext
def tF(h:cT c=cT d):c=d:=by
 let:(97+c)=97+d:=by let a:=dt (λz:Str=>z.cps.toList) h;show List.head_eq_of_cons_eq a
 ext
def sI(h:LB m):UM.canLay0 (mD m)=S:=by
 cases m with
 |Vk c=>show(UM.strOk "letter"&&(UM.strOk (cT c)&&S))=S;rw[n6 h,show UM.strOk "letter"=S by left];rfl
 |WN n=>show(UM.strOk "layer"&&(S&&S))=S;left
 |Yu c n=>show(UM.strOk "tap"&&(UM.strOk (cT c)&&(S&&S)))=S;rw[n6 h,show UM.strOk "tap"=S by left];rfl
 |once n=>show(UM.strOk "once"&&(S&&S))=S;left
 |none=>show(UM.strOk "none"&&S)=S;left
 |below=>show(UM.strOk "below"&&S)=S;left
def EL(h:LB m):j4 (mD m)=S:=by ext j4;rw[sI h];ext m<;>rfl
def mR:Mn->G D
 |.Vk c=>[.str (cT c)]
 |.WN n=>[.int n]
 |.Yu c n=>[.str (cT c),.int n]
 |.once n=>[.int n]
 |.none=>[]
 |.below=>[]
def Ly(m:Mn):mD m=.tuple (.str (wd m)::mR m):=by ext m<;>rfl
def RI(a b:Mn):decide (wd a=wd b)=decide (wn a=wn b):=by
 let h:=uu _ (mG a) _ (mG b)
 assumption
theorem zm(c d:Nat):decide (cT c=cT d)=decide (c=d):=decide_eq_decide.mpr #[tF,λh=>by rw[h]]
def Ms(a b:Mn)(h:wn a=wn b):UM.eqvAll (mR a) (mR b)=decide (a=b):=by
 ext a<;>ext b<;>first|ext h|skip
 .show(decide (cT _=cT _)&&S)=_;rw[zm,Zk];show decide_eq_decide.mpr #[λh=>by rw[h],λh=>by ext h;rfl]
 .show(decide (_=_)&&S)=_;rw[Zk];show decide_eq_decide.mpr #[λh=>by rw[h],λh=>by ext h;rfl]
 .show(decide (cT _=cT _)&&(decide (_=_)&&S))=_;rw[zm,Zk,<-Bool.decide_and];show decide_eq_decide.mpr #[λh=>by rw[h.1,h.2],λh=>by ext h;show#[W,W]]
 .show(decide (_=_)&&S)=_;rw[Zk];show decide_eq_decide.mpr #[λh=>by rw[h],λh=>by ext h;rfl]
 .rfl
 .rfl
def MV(a b:Mn):UM.eqv (mD a) (mD b)=decide (a=b):=by
 rw[Ly,Ly];show(decide (wd a=wd b)&&UM.eqvAll (mR a) (mR b))=_;rw[RI];by_cases h:wn a=wn b
 .rw[a4 h,Yo,Ms a b h]
 .rw[a5 h,Y0,a5 λz=>h (by rw[z])]
theorem yX:∀{l:G Mn},(∀m∈l,LB m)->UM.canLayAll0 (l.map mD)=S
 |[],_=>rfl
 |m::r,h=>by show(UM.canLay0 (mD m)&&UM.canLayAll0 (r.map mD))=S;rw[sI (h m UT),yX λx a=>h x (UX _ a)];rfl
theorem Ab(a:Mn):∀l:G Mn,((l.map mD).any λe=>UM.eqv e (mD a))=decide (a∈l)
 |[]=>rfl
 |m::r=>by
  rw[U5,Xm,Ab a r,MV,<-Bool.decide_or]
  grind
def GV{l:G Mn}(c:LB a)(b:∀m∈l,LB m):Gq (mD a) (.list (l.map mD))=M (.fz (.bool (decide (a∈l)))):=by show(if(j4 (mD a)&&UM.canLayAll0 (l.map mD))=S then _ else _)=_;rw[EL c,yX b,WQ,ax W,Ab]
def tt(e:α->D)(g:α->bg D)(I:aL->Prop)(xs:G α)(p:I d)(i:xs.length<=1000)(b:∀x∈xs,∀d,I d->∃c,jj gt C fe (e x) d=.ok (g x,c)/\I c):iY (cW gt C fe (xs.map e) d [])=.ok (xs.filterMap g):=by
 let h:∀(xs:G α) (a:G D) (d:aL),I d->a.length+xs.length<=1000->(∀x∈xs,∀d,I d->∃c,jj gt C fe (e x) d=.ok (g x,c)/\I c)->cW gt C fe (xs.map e) d a=.ok (a++xs.filterMap g):=by
  intro xs
  induction xs with
  |nil=>intro a d _ _ _;show Res.ok a=_;simp_all
  |cons x r j=>
   intro a d m i b;rw[U4]at i;let(c,o,n):=b x UT d m;rw[U5,oG o ()];let f:(a++(g x).toList).length+r.length<=1000:=by
    rw[US];cases g x with
    |none=>rw[abK,W2];ext
    |some y=>rw[Option.toList_some,XI];ext
   rw[j _ c n f λy l=>b y (UX _ l),Vy];cases q:g x with
   |none=>rw[Yp q];rfl
   |some y=>rw[Yq q];rfl
 rw[h xs [] d p (by simpa using i) b];rfl
def zP(a:cC o=o):cC (M (PV.fz d)::o)=M (.fz d)::o:=by show FZ _::cC o=_;rw[a];rfl
def ny{α:Type}{c:FT}{d:FE}{a:aL}(e f:α->D)(p:α->Bool)(xs:G α)(j:xs.length<=1000)(m:cC a=a)(h:∀x∈xs,c (M (.fz (e x))::a)=.ok (p x,M (.fz (e x))::a))(l:∀x∈xs,p x=S->d (M (.fz (e x))::a)=.ok (.fz (f x),M (.fz (e x))::a)):iY (cW (gN 0) c d (xs.map e) (P::a) [])=.ok ((xs.filter p).map f):=by
 rw[tt e (λx=>if p x=S then M (f x)else P) (λn=>∃o,n=o::a) xs #[P,W] j ?_]
 .congr 1
  clear j h l
  induction xs with
  |nil=>rfl
  |cons x r i=>
   cases q:p x with
   |true=>rw[Yq (b:=f x) (by rw[ax q]),aaP q,i];rfl
   |false=>rw[Yp (by rw[a3 (by rw[q];simp)]),aaQ (by rw[q];simp),i]
 .rintro x g n ⟨o,rfl⟩
  cases q:p x with
  |true=>show#[_,Br W ((h x g).trans (by rw[q])) (l x g q) W (zP m),_,W]
  |false=>show#[_,Ny W ((h x g).trans (by rw[q])) (zP m),_,W]
theorem wX(xs:G α):xs.filter (λ_=>S)=xs:=List.filter_eq_self.mpr λ_ _=>W
def jR{α:Type}(e f:α->D)(xs:G α)(b:xs.length<=1000)(h:cC o=o)(g:∀x∈xs,C (M (.fz (e x))::o)=.ok (.fz (f x),M (.fz (e x))::o)):iY (cW (gN 0) dW C (xs.map e) (P::o) [])=.ok (xs.map f):=by rw[ny e f (λ_=>S) xs b h (λ_ _=>W) λx a _=>g x a,wX]
theorem wf(p:α->Bool):∀l:G α,uc (l.map λc=>UM.bool (p c))=M (l.map p)
 |[]=>rfl
 |c::r=>by show(uc (r.map λc=>UM.bool (p c))).map (p c::·)=_;rw[wf p r];rfl
def En(p:α->Bool)(l:G α):Aj [.list (l.map λc=>UM.bool (p c))]=M (.fz (.bool (l.all p))):=by show(uc _).map (λbs=>RV.fz (.bool (bs.all id)))=_;rw[wf];simp_all
theorem oA:∀ns:G Int,mj (ns.map UM.int)=M ns
 |[]=>rfl
 |n::r=>by show(mj (r.map UM.int)).map (n::·)=_;rw[oA r];rfl
abbrev Ac:=Nat->I Mn
abbrev Wq:=I (G Nat×Int×I (Nat×Int))
structure WW where
 ac:Ac
 wt:Wq
 oc:I Int
def fJ(ac:Ac):G (Nat×Mn):=(U0 5).filterMap λk=>(ac k).map λa=>(k,a)
def pD(p:Nat×Mn):D:=.tuple [nd p.1,mD p.2]
def qj:I (Nat×Int)->D
 |some (c,n)=>mD (.Yu c n)
 |none=>.tuple [.str "chord"]
def ib:Wq->D
 |some (b,a,w)=>.tuple [.tuple (aO b),.int a,qj w]
 |none=>.none
def ng:I Int->D
 |some o=>.int o
 |none=>.none
def dX(s:WW):D:=.tuple [.tuple ((fJ s.ac).map pD),ib s.wt,ng s.oc]
inductive YB where
 |down (k:Nat)
 |up (k:Nat)
 |turn
def bU:YB->D
 |.down k=>.tuple [.str "down",nd k]
 |.up k=>.tuple [.str "up",nd k]
 |.turn=>.tuple [.str "turn",.int 0]
def ez:p∈fJ ac↔p.1<5/\ac p.1=M p.2:=by
 ext fJ;rw[X6];constructor
 .rintro⟨k,e,b⟩
  cases q:ac k with
  |none=>simp_all
  |some a=>rw[q]at b;ext b;show#[V3.mp e,q]
 .rintro⟨e,b⟩;show#[p.1,V3.mpr e,by rw[b];rfl]
theorem tj(ac:Ac):(fJ ac).length<=5:=List.length_filterMap_le _ _
def Gs:Nat×Mn->I Int
 |(_,.WN n)=>M n
 |_=>P
def uw(ac:Ac):Int:=(((fJ ac).filterMap Gs).foldl jx P).getD 0
def iO(ac:Ac):I Int->Int
 |some o=>o
 |none=>uw ac
def BZ(ac:Ac):iY (cW (gT 2 (Bg (gN 0) (Bg (gN 1) K8))) (az (ay cH (ay aR (aa 1) (~~~0)) (pC (.str "layer")))) (ay aR (aa 1) (~~~1)) ((fJ ac).map pD) [P,P] [])=.ok (((fJ ac).filterMap Gs).map .int):=by
 rw[tt pD (λp=>(Gs p).map .int) (λg=>∃e b,g=[e,b]) (fJ ac) #[P,P,W] (Vv (tj ac) ()) ?_,List.map_filterMap];rintro⟨k,a⟩ _ g ⟨e,b,rfl⟩;let e1:=mO a;let e2:=Cu a;let f:az (ay cH (ay aR (aa 1) (~~~0)) (pC (.str "layer"))) [M (.fz (nd k)),M (.fz (mD a))]=.ok (a.ab4,[M (.fz (nd k)),M (.fz (mD a))]):=by ext:0
 show#[[M (.fz (nd k)),M (.fz (mD a))],?_,_,_,W];cases a with
 |WN n=>show Br W f (aB (af W) aA W W iC) W W
 |_=>show Ny W f W
def vi(s:WW):dP [dX s]=.ok (.fz (.int (iO s.ac s.oc))):=by
 show g9 W ?_;let e2:aR (dX s) (.int 2)=M (.fz (ng s.oc)):=p7;let e0:aR (dX s) (.int 0)=M (.fz (.tuple ((fJ s.ac).map pD))):=g7;ext gw;cases q:s.oc with
 |some o=>
  rw[q]at e2;let e3:i6 (ng (M o)) .none=M (.fz (.bool S)):=W;ext:1
  .intro _;show fC (by ext:0) W W
  .intro h;ext h
 |none=>
  rw[q]at e2;let e3:i6 (ng P) .none=M (.fz (.bool R)):=W;ext:1
  .intro h;ext h
  .intro _;show c7 (d6 (cS (rv:=.fz (.int (uw s.ac))) (ai (cJ (by ext:0) W (BZ s.ac)) av) W ?_) W W);show(mj _).map _=_;rw[oA];rfl
def iU(b:Bd)(L k:Nat):Mn:=((b.ls[L]?.getD [])[k]?).getD .none
def look(b:Bd)(L:Int)(k:Nat):Mn:=if(iU b L.toNat k).isB=S then iU b 0 k else iU b L.toNat k
section
variable{b:Bd}(Z:VB b)
include Z
def K9{L k:Nat}(a:L<b.ls.length)(e:(k:Int)<b.n):∃l,b.ls[L]?=M l/\l[k]?=M (iU b L k):=by
 let g:=Z.vl L _ (U6 a);let f:k<(b.ls[L]).length:=by ext
 show#[_,U6 a,?_];ext iU;simp_all
def wz{L k:Nat}(e:L<b.ls.length)(a:(k:Int)<b.n):VM L b.ls.length (iU b L k):=by let(l,g,f):=K9 Z e a;show(Z.vl L l g).2 _ (Vr f)
def E9{L k:Nat}(e:L<b.ls.length)(a:(k:Int)<b.n):∃d,aR (.tuple (b.ls.map dA)) (nd L)=M (.fz d)/\aR d (nd k)=M (.fz (mD (iU b L k))):=by let(l,f,g):=K9 Z e a;show#[dA l,Lq (by rw[UZ,f];rfl),Lq (by simp_all)]
def JR{L:Int}{k:Nat}(i:0<=L)(h:L<b.ls.length)(e:(k:Int)<b.n):gO [bD b,.int L,nd k]=.ok (.fz (mD (look b L k))):=by
 obtain⟨n,rfl⟩:∃n:Nat,L=(n:Int):=#[L.toNat,by ext];let g:=Z.l1;let(d,e2,e3):=E9 Z (L:=n) () e;let(f,e4,e5):=E9 Z (L:=0) () e;let e1:aR (bD b) (.int 1)=M (.fz (.tuple (b.ls.map dA))):=iC;let e6:=mO (iU b n k);let e7:=BV (iU b n k);let e8:aR (.tuple (b.ls.map dA)) (.int 0)=M (.fz f):=e4;let a:look b (n:Int) k=if(iU b n k).isB=S then iU b 0 k else iU b n k:=W
 rw[a];generalize iU b n k=m at e3 e6 e7 a;generalize iU b 0 k=m0 at e5 a;show g9 W ?_;ext fQ;ext:1
 .intro q;rw[ax q];show fC (by ext:0) W W
 .intro q;rw[a3 (by rw[q];simp)];show c7 (d6 (by ext:0) W W)
def sJ{L:Int}{k:Nat}(g:0<=L)(i:L<b.ls.length)(f:(k:Int)<b.n):VM L b.ls.length (look b L k)/\look b L k≠.below:=by
 let h:=Z.l1;let a:=wz Z (L:=0) (k:=k) () f;let v:=wz Z (L:=L.toNat) (k:=k) () f;let e:iU b 0 k≠.below:=λz=>by rw[z]at a;show a W
 rw[ace g]at v;ext look;split
 .show#[?_,e]
  generalize iU b 0 k=m at a e;cases m with
  |below=>show a7 W e
  |_=>show a
 .rename_i q;show#[v,λz=>?_];rw[z]at q;show q W
omit Z in
theorem Ea(ks:bb Nat)(a:ks.length<=5)(c:bb Nat×Nat):az (fw Aj {dC 1 [0] (iX (aa 1)) (gN 0) dW (ay Gq (aa 0) (ay aR (aa 1) (~~~0)))}) [cL (.fz (Wf c)),cL (.fz (.tuple (aO ks)))]=.ok (ks.all λk=>decide (k∈c.1),[cL (.fz (Wf c)),cL (.fz (.tuple (aO ks)))]):=by
 have e:iY (cW (gN 0) dW (ay Gq (aa 0) (ay aR (aa 1) (~~~0))) (aO ks) [lD,cL (.fz (Wf c))] [])=.ok (ks.map λk=>.bool (decide (k∈c.1))):=jR nd (λk=>.bool (decide (k∈c.1))) ks (by ext) rfl λk _=>by have e0:aR (Wf c) (.int 0)=cL (.fz (.tuple (aO c.1))):=g7;exact aB (rv:=.fz (.bool (decide (k∈c.1)))) (af rfl) (by ext:0) rfl rfl (sH _ _)
 exact a8 (cS (rv:=.fz (.bool (ks.all λk=>decide (k∈c.1)))) (ds:=[.list (ks.map λk=>.bool (decide (k∈c.1)))]) (ai (cJ (cs:=[Wf c]) (ds:=aO ks) (by ext:0) rfl e) av) rfl (En _ _)) rfl
def dB(b:Bd)(a:G Nat):G (G Nat×Nat):=b.cs.filter λc=>a.all λk=>decide (k∈c.1)
def zn(a:o.length<=5):bu [bD b,.tuple (aO o)]=.ok (.ow ((dB b o).map Wf)):=by let e2:aR (bD b) (.int 2)=M (.fz (.tuple (b.cs.map Wf))):=p7;let e:=Z.c4;show g9 W ?_;ext ei;show d6 (cJ (cs:=[.tuple (aO o)]) (by ext:0) W (ny Wf Wf (λc=>o.all λk=>decide (k∈c.1)) b.cs () W (λc _=>Ea o a c) λc _ _=>af W)) W W
def na(a:G Nat):G Nat:=(jw (a.map ZU)).map aa5
omit Z in
theorem oX(ks:bb Nat):(na ks).Perm ks:=by have h:=(eE (ks.map ZU)).map aa5;rw[VJ]at h;exact h.trans (by rw[show(aa5∘ZU)=id from funext λx=>rfl,List.map_id])
omit Z in
theorem JV(ks:bb Nat):(jw (ks.map ZU)).map UM.int=aO (na ks):=by unfold na aO;rw[VJ];refine XZ λx a=>?_;obtain⟨n,_,rfl⟩:=Vl.mp ((eE _).mem_iff.mp a);rfl
omit Z in
theorem x4(ks:bb Nat):(na ks).Pairwise (·<=·):=by
 have h:∀l:bb Int,l.Pairwise (·<=·)->(l.map aa5).Pairwise (·<=·):=λl h=>by rw[Yh];exact h.imp λh=>by ext
 exact h _ (dS _)
omit Z in
theorem J7(ks:bb Nat):(na ks).length=ks.length:=(oX ks).length_eq
omit Z in
theorem uG{ks:bb Nat}(h:ks.length<64):L9.fK [.tuple (aO ks)]=cL (.ow (aO (na ks))):=by
 have e:aO ks=(ks.map ZU).map UM.int:=by rw[VJ];rfl
 show(match mj (aO ks)with
  |some a=>if a.length<64 then cL (RV.ow ((jw a).map .int))else lD
  |none=>lD)=_
 rw[e,oA];dsimp only;rw[ax (by rw[UK];exact h),JV]
def KH(b:Bd)(a:G Nat):G Mn:=match b.cs.find? λc=>decide (c.1=na a)with
 |some c=>.Vk c.2::UW (a.length - 1) .none
 |none=>a.map (iU b 0)
omit Z in
omit Z in
theorem R0(n:Nat)(d:D):(UW n [d]).flatten=UW n d:=by
 induction n with
 |zero=>rfl
 |succ n a=>rw[VQ,Ws,a];rfl
def NY{n:bb Nat}(H:1<=n.length)(G:n.length<=5)(C:∀k∈n,(k:Int)<b.n):eV [bD b,.tuple (aO n)]=.ok (.ow ((KH b n).map mD)):=by
 let e2:aR (bD b) (.int 2)=M (.fz (.tuple (b.cs.map Wf))):=p7;let e1:aR (bD b) (.int 1)=M (.fz (.tuple (b.ls.map dA))):=iC;let F:=Z.l1;let i:=uG (ks:=n) ();show g9 W ?_;ext eO;let rt:∀c:bb Nat×Nat,(ay ce (cU {aU {pC (.str "letter"),ay aR (aa 2) (~~~1)}}) (ay fq (cU {pC (.tuple [(.str "none")])}) (ay o0 (fw fu {aa 1}) (~~~1)))) [M (.fz (bD b)),M (.fz (.tuple (aO n))),M (.fz (Wf c))]=.ok (.ow ((Mn.Vk c.2::UW (n.length - 1) Mn.none).map mD),[M (.fz (bD b)),M (.fz (.tuple (aO n))),M (.fz (Wf c))]):=λc=>by
  let l:aR (Wf c) (.int 1)=M (.fz (.str (cT c.2))):=iC;let j:fq (.list [.tuple [.str "none"]]) (.int (((aO n).length:Int) - 1))=M (.ow (UW (n.length - 1) (.tuple [.str "none"]))):=by rw[cM,show((n.length:Int) - 1)=((n.length - 1:Nat):Int) by ext];show(N7 () ()).trans (by rw[R0])
  let y:ce (.list [mD (.Vk c.2)]) (.list (UW (n.length - 1) (.tuple [.str "none"])))=M (.ow ((Mn.Vk c.2::UW (n.length - 1) Mn.none).map mD)):=by show(if 1+(UW (n.length - 1) (UM.tuple [.str "none"])).length<=1000000 then M (RV.ow ([mD (.Vk c.2)]++UW (n.length - 1) (UM.tuple [.str "none"])))else P)=_;rw[VY,ax (),U5,Zq];rfl
  show aB (by ext:0) (aB (by ext:0) (aB (by ext:0) aA W W (xM _ _)) W W j) W W y
 let f:∀(e:bb (bb Nat×Nat)) (o:bg PV),(∀c,e.find? (λc=>decide (c.1=na n))=M c->mY (gN 2) (kC (az (ay cH (fw qM {ay aR (aa 2) (~~~0)}) (fw L9.fK {aa 1}))) (cX (ay ce (cU {aU {pC (.str "letter"),ay aR (aa 2) (~~~1)}}) (ay fq (cU {pC (.tuple [(.str "none")])}) (ay o0 (fw fu {aa 1}) (~~~1))))) dQ) (e.map Wf) [M (.fz (bD b)),M (.fz (.tuple (aO n))),o]=.ok (.rt (.ow ((Mn.Vk c.2::UW (n.length - 1) Mn.none).map mD))))/\
   (e.find? (λc=>decide (c.1=na n))=P->∃u,mY (gN 2) (kC (az (ay cH (fw qM {ay aR (aa 2) (~~~0)}) (fw L9.fK {aa 1}))) (cX (ay ce (cU {aU {pC (.str "letter"),ay aR (aa 2) (~~~1)}}) (ay fq (cU {pC (.tuple [(.str "none")])}) (ay o0 (fw fu {aa 1}) (~~~1))))) dQ) (e.map Wf) [M (.fz (bD b)),M (.fz (.tuple (aO n))),o]=.ok (.nx [M (.fz (bD b)),M (.fz (.tuple (aO n))),u])):=by
  intro e
  induction e with
  |nil=>show λo=>#[λc h=>(by ext h),λ_=>#[o,W]]
  |cons c r B=>
   intro o;let E:aR (Wf c) (.int 0)=M (.fz (.tuple (aO c.1))):=g7
   let a:az (ay cH (fw qM {ay aR (aa 2) (~~~0)}) (fw L9.fK {aa 1})) [M (.fz (bD b)),M (.fz (.tuple (aO n))),M (.fz (Wf c))]=.ok (decide (c.1=na n),[M (.fz (bD b)),M (.fz (.tuple (aO n))),M (.fz (Wf c))]):=
    a8 (aB (cS (by ext:0) W W) (cS (by ext:0) W i) W W (rT _ _)) W
   rw[VG];by_cases h:c.1=na n
   .rw[a4 h]at a⊢;show#[λI t=>?_,λt=>(by ext t)];ext t;show((gN 2 (.fz (Wf c)) [M (.fz (bD b)),M (.fz (.tuple (aO n))),o]).bind λg=>_)=_;rw[CW,dN];show((kC _ _ _ [M (.fz (bD b)),M (.fz (.tuple (aO n))),M (.fz (Wf c))]).bind _)=_;rw[SC a,sj (rt c) W];rfl
   .rw[a5 h]at a⊢
    let w:mY (gN 2) (kC (az (ay cH (fw qM {ay aR (aa 2) (~~~0)}) (fw L9.fK {aa 1}))) (cX (ay ce (cU {aU {pC (.str "letter"),ay aR (aa 2) (~~~1)}}) (ay fq (cU {pC (.tuple [(.str "none")])}) (ay o0 (fw fu {aa 1}) (~~~1))))) dQ) ((c::r).map Wf) [M (.fz (bD b)),M (.fz (.tuple (aO n))),o]=mY (gN 2) (kC (az (ay cH (fw qM {ay aR (aa 2) (~~~0)}) (fw L9.fK {aa 1}))) (cX (ay ce (cU {aU {pC (.str "letter"),ay aR (aa 2) (~~~1)}}) (ay fq (cU {pC (.tuple [(.str "none")])}) (ay o0 (fw fu {aa 1}) (~~~1))))) dQ) (r.map Wf) [M (.fz (bD b)),M (.fz (.tuple (aO n))),M (.fz (Wf c))]:=by show((gN 2 (.fz (Wf c)) [M (.fz (bD b)),M (.fz (.tuple (aO n))),o]).bind λg=>_)=_;rw[CW,dN];show((kC _ _ _ [M (.fz (bD b)),M (.fz (.tuple (aO n))),M (.fz (Wf c))]).bind _)=_;rw[Ta a];rfl
    rw[w];show B _
 let(A,m):=f b.cs P;let v:iX (ay aR (aa 0) (~~~2)) [M (.fz (bD b)),M (.fz (.tuple (aO n))),P]=.ok (b.cs.map Wf,[M (.fz (bD b)),M (.fz (.tuple (aO n))),P]):=by ext:0
 ext KH;cases q:b.cs.find? λc=>decide (c.1=na n)with
 |some c=>show .eq (DW ((wN v).trans (A c q))) #[W]
 |none=>let(u,m):=m q;show .eq (xh ((wN v).trans m)) ?_;show d6 (cJ (by ext:0) W ?_) W W;rw[VJ];show jR nd (mD∘iU b 0) n () W λk p=>?_;let(d,l,j):=E9 Z (L:=0) () (C k p);let l:aR (.tuple (b.ls.map dA)) (.int 0)=M (.fz d):=l;show aB (by ext:0) (af W) W W j
end
end STP
local macro_rules|`(-($x))=>`(Option.some (.fz $x))
namespace STP
open PySem L2 L3
open L10
def ja(p:Nat×Mn):b9×SV:=(.inl (p.1:Int),.fz (mD p.2))
def jz(ac:Ac)(k:Nat)(o:I Mn):Ac:=λj=>if j=k then o else ac j
def dc:jz ac k o k=o:=by ext jz;simp_all
def eF(h:j≠k):jz ac k o j=ac j:=by ext jz;rw[a3 h]
def Dv(ac:Ac):(fJ ac).Pairwise λp q=>p.1<q.1:=by
 ext fJ;show afu _ (λa g h p f q b=>?_) (YG);cases e:ac a with
 |none=>simp_all
 |some x=>
  cases i:ac g with
  |none=>simp_all
  |some y=>rw[e]at f;rw[i]at b;ext f;ext b;show h
def oV(ac:Ac):((fJ ac).map (·.1)).Nodup:=by rw[agt,Yh];show(Dv ac).imp λh=>Vg h
def z9{l:G (Nat×Mn)}(h:(l.map (·.1)).Nodup):l.Nodup:=by rw[agt,Yh]at h;show h.imp λh e=>h (by rw[e])
theorem pZ{l:G (Nat×Mn)}(h:(l.map (·.1)).Nodup)(hm:∀p,p∈l↔p.1<5/\ac p.1=M p.2):l.Perm (fJ ac):=
 (List.perm_ext_iff_of_nodup (z9 h) (z9 (oV ac))).mpr λp=>(hm p).trans ez.symm
section
variable{Y:bb (Nat×Mn)}{X:Ac}(Z:Y.Perm (fJ X))
include Z
theorem jo:p∈Y↔p.1<5/\X p.1=M p.2:=Z.mem_iff.trans ez
theorem F2:(Y.map (·.1)).Nodup:=(Z.map (·.1)).nodup_iff.mpr (oV X)
def Eg:Y.length<=5:=by rw[Z.length_eq];show tj X
def kU{k:Nat}(f:k<5):iJ (Y.map ja) (.inl (k:Int))=(X k).map λa=>SV.fz (mD a):=by
 ext iJ;cases q:(Y.map ja).find? λb=>decide (b.1=(.inl (k:Int):b9))with
 |none=>
  cases e:X k with
  |none=>rfl
  |some a=>let:=List.find?_eq_none.mp q (ja (k,a)) (Vl.mpr #[(k,a),(jo Z).mpr #[f,e],W]);show a7 (a4 W) this
 |some b=>
  let(p,i,rfl):=Vl.mp (Yd q);let h:=a6 (List.find?_some (p:=λb:b9×SV=>decide (b.1=(.inl (k:Int):b9))) q);let g:p.1=k:=by let:=Sum.inl.inj h;ext
  rw[<-g,((jo Z).mp i).2];rfl
def HK{k:Nat}(o:k<5):∃c:G (Nat×Mn),iW (Y.map ja) (.inl (k:Int)) (.fz (mD a))=c.map ja/\c.Perm (fJ (jz X k (M a))):=by
 ext iW;let i:∀p:Nat×Mn,((ja p).1=(.inl (k:Int):b9))↔p.1=k:=λp=>#[λh=>by let:=Sum.inl.inj h;ext,λh=>by rw[<-h];rfl];split
 .rename_i h
  show#[Y.map λp=>if p.1=k then(k,a)else p,?_,pZ ?_ λp=>?_]
  .rw[VJ,VJ]
   show XZ λp _=>?_;show(if(ja p).1=(.inl (k:Int):b9)then((ja p).1,SV.fz (mD a))else ja p)=ja (if p.1=k then(k,a)else p);by_cases e:p.1=k
   .rw[ax ((i p).mpr e),ax e,(i p).mpr e];rfl
   simp_all
  .rw[VJ,show Y.map ((·.1)∘λp:Nat×Mn=>if p.1=k then(k,a)else p)=Y.map (·.1)from XZ λp _=>by
    show(if p.1=k then(k,a)else p).1=p.1;split
    .rename_i e;show e.symm
    .rfl]
   show F2 Z
  .let(w,l,j):=ZO.mp h
   let(n,v,rfl):=Vl.mp l;let b:=(i n).mp (a6 j);rw[Vl];constructor
   .rintro⟨r,u,rfl⟩
    split
    .show#[o,dc]
    .rename_i e;let:=(jo Z).mp u;show#[this.1,by rw[eF e];show this.2]
   .rintro⟨f,g⟩
    by_cases e:p.1=k
    .rw[e,dc]at g;show#[n,v,?_];rw[ax b,<-e,Vd g]
    .rw[eF e]at g;show#[p,(jo Z).mpr #[f,g],by rw[a3 e]]
 .rename_i h
  let A:=λp m e=>h (ZO.mpr #[ja p,Vl.mpr #[p,m,W],a4 ((i p).mpr e)]);show#[Y++[(k,a)],by rw[Vm];rfl,pZ ?_ λp=>?_]
  .rw[Vm,Xy];show#[F2 Z,Wh.mpr #[Wa,Y1],λx t y q=>?_];let(p,b,rfl):=Vl.mp t;rw[U8.mp q];show A p b
  .rw[Vo,U8]
   constructor
   .rintro(b|rfl)
    .let:=(jo Z).mp b;show#[this.1,by rw[eF (A p b)];show this.2]
    .show#[o,dc]
   .rintro⟨b,f⟩
    by_cases e:p.1=k
    .rw[e,dc]at f;show .inr (by rw[<-e,Vd f])
    .rw[eF e]at f;show .inl ((jo Z).mpr #[b,f])
def CV{k:Nat}:∃c:G (Nat×Mn),kG (Y.map ja) (.inl (k:Int))=c.map ja/\c.Perm (fJ (jz X k P)):=by
 let g:∀p:Nat×Mn,((ja p).1=(.inl (k:Int):b9))↔p.1=k:=λp=>#[λh=>by let:=Sum.inl.inj h;ext,λh=>by rw[<-h];rfl];show#[Y.filter λp=>decide (p.1≠k),?_,pZ ?_ λp=>?_]
 .ext kG;rw[List.filter_map];congr 1;show List.filter_congr λp _=>?_;show decide_eq_decide.mpr (not_congr (g p))
 .show ajL ((List.filter_sublist).map _) (F2 Z)
 .rw[Wg,jo Z,decide_eq_true_eq]
  constructor
  .rintro⟨⟨b,a⟩,f⟩;show#[b,by rw[eF f];show a]
  .rintro⟨b,a⟩
   by_cases e:p.1=k
   .rw[e,dc]at a;ext a
   .rw[eF e]at a;show#[#[b,a],e]
def Ds:aF xp ((Y.map ja).map (·.1))=M (Y.map λp=>(p.1:Int)):=by
 clear Z
 induction Y with
 |nil=>rfl
 |cons p r a=>rw[U5,U5];ext aF;rw[a];rfl
def Gc:jw (Y.map λp=>(p.1:Int))=(fJ X).map λp=>(p.1:Int):=by show jK ((eE _).trans (Z.map _)) (dS _) ?_;rw[Yh];show(Dv X).imp λh=>by ext
end
abbrev Sn:=G (Nat×Bool)
def kq(ac:Ac)(a:Mn):Bool:=decide (a∈(fJ ac).map (·.2))
def pM(ac:Ac):Mn->Sn
 |.Vk c=>if kq ac (.Vk c)=S then[]else[(c,S)]
 |_=>[]
def Lz(ac:Ac):Mn->Sn
 |.Vk c=>if kq ac (.Vk c)=S then[]else[(c,R)]
 |_=>[]
def eC(p:WW×Sn)(k:Nat)(a:Mn):WW×Sn:=({p.1 with ac:=jz p.1.ac k (M a)},p.2++pM p.1.ac a)
def go(p:WW×Sn)(k:Nat):WW×Sn:=match p.1.ac k with
 |some a=>({p.1 with ac:=jz p.1.ac k P},p.2++Lz (jz p.1.ac k P) a)
 |none=>p
def gG(p:WW×Sn)(a:G (Nat×Mn)):WW×Sn:=a.foldl (λp q=>eC p q.1 q.2) p
def gF(b:Bd)(a:G Nat):I (Nat×Int)->G Mn
 |some (_,n)=>[.WN n]
 |none=>KH b a
def bH(b:Bd)(p:WW×Sn):WW×Sn:=match p.1.wt with
 |none=>p
 |some (a,_,w)=>gG ({p.1 with wt:=P},p.2) (a.zip (gF b a w))
def yR:Wq->Nat->Bool
 |some (a,_,_),k=>decide (k∈a)
 |none,_=>R
def Ai(b:Bd)(s:WW)(k:Nat):Bool:=match s.wt with
 |some (a,_,P)=>decide (iO s.ac s.oc=0)&& !(dB b (a++[k])).isEmpty
 |_=>R
def oK(b:Bd)(p:WW×Sn)(k:Nat):WW×Sn:=match p.1.wt with
 |some (a,g,_)=>if(dB b (a++[k])).map (·.1.length)=[(a++[k]).length]then bH b ({p.1 with wt:=M (a++[k],g,P)},p.2)else({p.1 with wt:=M (a++[k],g,P)},p.2)
 |none=>p
def dI(s:WW)(m:Mn):WW:=if(m.ab4||m.isO)=S then s else{s with oc:=P}
def si(b:Bd)(L:Int)(p:WW×Sn)(k:Nat):Mn->WW×Sn
 |.Yu c n=>({p.1 with wt:=M ([k],0,M (c,n))},p.2)
 |.Vk c=>if(decide (L=0)&& !(dB b [k]).isEmpty)=S then({p.1 with wt:=M ([k],0,P)},p.2)else eC p k (.Vk c)
 |.once n=>({(eC p k .none).1 with oc:=M n},(eC p k .none).2)
 |m=>eC p k m
def zN(b:Bd)(p:WW×Sn)(k:Nat):WW×Sn:=
 si b (iO p.1.ac p.1.oc) (dI p.1 (look b (iO p.1.ac p.1.oc) k),p.2) k (look b (iO p.1.ac p.1.oc) k)
def gH(b:Bd)(p:WW×Sn)(k:Nat):WW×Sn:=
 if((p.1.ac k).isSome||yR p.1.wt k)=S then p else if Ai b p.1 k=S then oK b p k else zN b (bH b p) k
def bp(b:Bd)(p:WW×Sn)(k:Nat):WW×Sn:=match p.1.wt with
 |some (_,_,P)=>bH b p
 |some (_,_,M (c,_))=>eC ({p.1 with wt:=P},p.2) k (.Vk c)
 |none=>p
def kN(b:Bd)(p:WW×Sn)(k:Nat):WW×Sn:=go (if yR p.1.wt k=S then bp b p k else p) k
def gb(b:Bd)(p:WW×Sn):WW×Sn:=match p.1.wt with
 |none=>p
 |some (a,g,w)=>if g+1=b.wt then bH b ({p.1 with wt:=M (a,g+1,w)},p.2)else({p.1 with wt:=M (a,g+1,w)},p.2)
def bq(b:Bd)(s:WW):YB->WW×Sn
 |.down k=>gH b (s,[]) k
 |.up k=>kN b (s,[]) k
 |.turn=>gb b (s,[])
def G7(b:Bd)(s:WW):G (Str×SV):=[("bed",.fz (bD b)),("acts",.rf 1),("waiting",.fz (ib s.wt)),("once",.fz (ng s.oc)),("sent",.rf 2)]
def jX(p:Nat×Bool):D:=.tuple [.str (cT p.1),.str (if p.2=S then "down" else "up")]
def dG(b:Bd)(s:WW)(sn:Sn)(a:G (Nat×Mn))(J:aH):aH:=.obj "Hand" (G7 b s):: .Zo (a.map ja):: .lst ((sn.map jX).map .fz)::J
def HS(b:Bd)(p:WW×Sn)(c:aH):Prop:=∃a J,a.Perm (fJ p.1.ac)/\c=dG b p.1 p.2 a J
section
variable{b:Bd}{s:WW}{sn:Sn}{Y:bb (Nat×Mn)}{J:aH}{ρ:aQ}{i:Nat}{X:aH}{p:WW×Sn}{k:Nat}{a:Mn}
def Mr:(G7 b s).lookup ("bed":Str)=-(bD b):=by rfl
def HP:(G7 b s).lookup ("acts":Str)=M (.rf 1):=by rfl
def HG:(G7 b s).lookup ("waiting":Str)=-(ib s.wt):=by rfl
def Jw:(G7 b s).lookup ("once":Str)=-(ng s.oc):=by rfl
def JA:(G7 b s).lookup ("sent":Str)=M (.rf 2):=by rfl
def S7(m:Str):Bool:=(m== "bed"||m== "acts"||m== "waiting"||m== "once"||m== "sent")==R
def QX(h:S7 m=S):(G7 b s).lookup m=P:=by unfold S7 at h;simp only[beq_iff_eq,abL]at h;let((((l,j),g),f),e):=h;ext G7;simp_all
theorem lW(h:ρ[i]?=M (M (.rf 0))):aP "Hand" "bed" (ar i) ρ (dG b s sn Y J)=.ok (.fz (bD b)) (dG b s sn Y J):=gI (bF h) W Mr
theorem gl(h:ρ[i]?=M (M (.rf 0))):aP "Hand" "acts" (ar i) ρ (dG b s sn Y J)=.ok (.rf 1) (dG b s sn Y J):=gI (bF h) W HP
theorem bj(h:ρ[i]?=M (M (.rf 0))):aP "Hand" "waiting" (ar i) ρ (dG b s sn Y J)=.ok (.fz (ib s.wt)) (dG b s sn Y J):=gI (bF h) W HG
theorem zV(h:ρ[i]?=M (M (.rf 0))):aP "Hand" "once" (ar i) ρ (dG b s sn Y J)=.ok (.fz (ng s.oc)) (dG b s sn Y J):=gI (bF h) W Jw
theorem sB(h:ρ[i]?=M (M (.rf 0))):aP "Hand" "sent" (ar i) ρ (dG b s sn Y J)=.ok (.rf 2) (dG b s sn Y J):=gI (bF h) W JA
theorem jE(w:Wq)(h:ρ[i]?=M (M (.rf 0)))(e:o ρ X=.ok (.fz (ib w)) (dG b s sn Y J)):eJ "Hand" "waiting" (ar i) o ρ X=.ok (.nx ρ) (dG b {s with wt:=w} sn Y J):=
 (l7 e (bF h) W (by show UN W)).trans (by rfl)
theorem zR(o:I Int)(h:ρ[i]?=M (M (.rf 0)))(e:C ρ X=.ok (.fz (ng o)) (dG b s sn Y J)):eJ "Hand" "once" (ar i) C ρ X=.ok (.nx ρ) (dG b {s with oc:=o} sn Y J):=
 (l7 e (bF h) W (by show UN W)).trans (by rfl)
def bA(e:HS b p X)(hm:S7 m=S)(h:ρ[i]?=M (M (.rf 0)))(d:fa ρ X=.ok xs X)(c:(SV.rf 0::xs).length=n)(f:F (.rf 0::xs) X=.ok x o):aG "Hand" m F n (ar i) fa ρ X=.ok x o:=by let(Y,J,g,rfl):=e;show Af (bF h) W (QX hm) d c f
def Dj(Y:G (Nat×Mn)):(Y.map ja).map (·.2)=((Y.map (·.2)).map mD).map SV.fz:=by rw[VJ,VJ,VJ];rfl
def AK(ac:Ac):Prop:=∀k a,ac k=M a->k<5/\LB a
def Fw(f:HS b p X)(g:AK p.1.ac)(d:LB a):∃c,bx [.rf 0,.fz (mD a)] X=.ok (.fz (.bool (kq p.1.ac a))) c/\HS b p c:=by
 let(Y,J,e,rfl):=f;let e1:kq p.1.ac a=decide (a∈Y.map (·.2)):=decide_eq_decide.mpr (e.map (·.2)).symm.mem_iff;let lb:∀m∈Y.map (·.2),LB m:=λm hm=>by let(q,h,rfl):=Vl.mp hm;show(g _ _ ((jo e).mp h).2).2
 show#[dG b p.1 p.2 Y (J++[.lst ((Y.map ja).map (·.2))]),?_,Y,_,e,W];rw[e1];show hU W (gD (df (ah (af W)) (GU (gl W) W) (sP W (hW (by rw[Dj];show aM)) (GV d lb))))
theorem zj(f:sn.length<1000)(h:ρ[i]?=M (M (.rf 0)))(e:o ρ (dG b s sn Y J)=.ok (.fz (jX (c,d))) (dG b s sn Y J)):pz (aP "Hand" "sent" (ar i)) o ρ (dG b s sn Y J)=.ok (.fz .none) (dG b s (sn++[(c,d)]) Y J):=
 (sS (sB h) W e W (by rw[UK,UK];ext)).trans (by ext dG;rw[Vm,Vm];rfl)
def oH(e:Y.Perm (fJ s.ac))(h:k<5)(o:ρ[0]?=M (M (.rf 0)))(n:ρ[1]?=M (-(nd k)))(m:ρ[2]?=M (-(mD a))):∃c:G (Nat×Mn),c.Perm (fJ (jz s.ac k (M a)))/\qS (aP "Hand" "acts" (ar 0)) (ag (aa 1)) (ag (aa 2)) ρ (dG b s sn Y J)=.ok (.nx ρ) (dG b {s with ac:=jz s.ac k (M a)} sn c J):=by let(c,l,j):=HK e h;let g:aa 1 (bQ ρ)=.ok (.fz (nd k),bQ ρ):=af (by ext bQ;rw[UZ,n];rfl);let f:aa 2 (bQ ρ)=.ok (.fz (mD a),bQ ρ):=af (by ext bQ;rw[UZ,m];rfl);show#[c,j,(He (ah f) (gl o) (ah g) W W (by rw[UK];let:=Eg e;ext)).trans ?_];rw[l];rfl
def nO(m:HS b p X)(v:AK p.1.ac)(x:LB a)(n:k<5)(u:p.2.length<1000):∃d,aZ [.rf 0,.fz (nd k),.fz (mD a)] X=.ok (.fz .none) d/\HS b (eC p k a) d:=by
 let e0:=mO a;let e1:=jQ a;cases q:a.isL with
 |false=>
  let(Y,J,h,rfl):=m;rw[q]at e1;let(f,j,w):=oH (ρ:=[M (.rf 0),-(nd k),-(mD a)]) h n W W W;show#[_,lz W (cg (c9 (fD (aX (by ext:0))) dF) w),f,J,j,?_];let:pM p.1.ac a=[]:=by ext a<;>first|rfl|ext q
  ext eC;simp_all
 |true=>
  rw[q]at e1;let(l,j,y):=Fw m v x;let g:∀t,kq p.1.ac a=t->(jW (bh (az (ay cH (ay aR (aa 2) (~~~0)) (pC (.str "letter"))))) (qE (a9 (aG "Hand" "has_act" bx 2 (ar 0) (aj (ag (aa 2)) aK))))) [M (.rf 0),-(nd k),-(mD a)] X=.ok (!t) l:=λt e=>by rw[e]at j;show fA (aX (by ext:0)) (nu (aN (bA m (by rfl) W (aq (ah (af W)) aI) W j)))
  let(Y,J,h,rfl):=y;cases B:kq p.1.ac a with
  |true=>
   let(f,r,o):=oH (ρ:=[M (.rf 0),-(nd k),-(mD a)]) h n W W W;show#[_,lz W (cg (c9 (g S B) dF) o),f,J,r,?_];let:pM p.1.ac a=[]:=by
    ext a<;>first|ext q|skip
    show(if kq p.1.ac _=S then _ else _)=_;simp_all
   ext eC;simp_all
  |false=>
   ext a<;>first|ext q|skip
   rename_i c;let(f,r,o):=oH (ρ:=[M (.rf 0),-(nd k),-(mD (.Vk c))]) (sn:=p.2++[(c,S)]) h n W W W;let A:aR (mD (.Vk c)) (.int 1)=-(.str (cT c)):=iC;show#[_,lz W (cg (de (g R B) (gP (zj u W (ah (show _=Res.ok (PV.fz (.tuple [.str (cT c),.str "down"]),_) by ext:0))))) o),f,J,r,?_];let:pM p.1.ac (.Vk c)=[(c,S)]:=by show(if kq p.1.ac _=S then _ else _)=_;simp_all
   ext eC;rw[this]
end
end STP
namespace STP
open PySem L2 L3 L10
def VA(a:Int):Mn->Prop
 |.Vk c=>c<26
 |.WN n=>1<=n/\n<a
 |.none=>True
 |_=>False
def VA.lb(h:VA nL m):LB m:=by
 cases m with
 |Vk c=>show h
 |Yu c n=>show h.elim
 |_=>trivial
structure SA(b:Bd)(s:WW):Prop where
 ac:∀k a,s.ac k=M a->(k:Int)<b.n/\VA b.ls.length a
 oc:∀o,s.oc=M o->1<=o/\o<b.ls.length
structure WV(b:Bd)(ac:Ac)(ks:G Nat)(g:Int)(w:I (Nat×Int)):Prop where
 ne:ks≠[]
 nd:ks.Nodup
 kn:∀k∈ks,(k:Int)<b.n
 kf:∀k∈ks,ac k=P
 g0:0<=g
 tp:∀c n,w=M (c,n)->c<26/\(1<=n/\n<b.ls.length)/\ks.length=1
 ch:w=P->∀k∈ks,mS (b.ls.headD []) k=S
structure SW(b:Bd)(s:WW):Prop where
 sa:SA b s
 wt:∀ks g w,s.wt=M (ks,g,w)->WV b s.ac ks g w/\g<b.wt
def xF{c:G Nat}(hd:c.Nodup)(h:∀k∈c,k<n):c.length<=n:=by rw[<-J7 c];let b:=(oX c).nodup_iff.mpr hd;show J6 (((x4 c).and b).imp λh=>by ext) λk a=>h k ((oX c).mem_iff.mp a)
section
variable{b:Bd}(Z:VB b){s:WW}{p:WW×Sn}{Y:bb Nat}{g:Int}{w:bg (Nat×Int)}{X:Ac}{k:Nat}{a:Mn}
include Z
theorem WV.len(h:WV b X Y g w):Y.length<=5:=xF h.nd λk e=>by let:=h.kn k e;let:=Z.n5;ext
omit Z in
theorem WV.ajp(h:WV b X Y g w):1<=Y.length:=List.length_pos_iff.mpr h.ne
theorem SA.ak(h:SA b s):AK s.ac:=λk a e=>by let:=h.ac k a e;let:=Z.n5;show#[by ext,(h.ac k a e).2.lb]
omit Z in
theorem SA.cm(h:SA b p.1)(f:(k:Int)<b.n)(ha:VA b.ls.length a):SA b (eC p k a).1:=by
 refine⟨λj x e=>?_,h.oc⟩;by_cases z:j=k
 .subst z;have i:cL a=cL x:=(dc (ac:=p.1.ac) (k:=j) (o:=cL a)).symm.trans e;cases i;exact⟨f,ha⟩
 .exact h.ac j x ((eF z).symm.trans e)
omit Z in
theorem SA.gg(h:SA b p.1):SA b (go p k).1:=by
 unfold go;split
 .refine⟨λj x e=>?_,h.oc⟩
  by_cases z:j=k
  .subst z;exact a7 ((dc (ac:=p.1.ac) (k:=j) (o:=lD)).symm.trans e) (by simp)
  .exact h.ac j x ((eF z).symm.trans e)
 .exact h
omit Z in
theorem lx:(eC p k a).2.length<=p.2.length+1:=by
 show(p.2++pM p.1.ac a).length<=_;rw[US];have:(pM p.1.ac a).length<=1:=by
  cases a with
  |Vk c=>show(if _ then _ else _:Sn).length<=1;split<;>simp
  |_=>simp[pM]
 ext
omit Z in
theorem A6(e:bb (Nat×Mn)):∀p:WW×Sn,(gG p e).2.length<=p.2.length+e.length:=by
 induction e with
 |nil=>exact λp=>UU _
 |cons q r f=>intro p;have i:=f (eC p q.1 q.2);have h:=lx (p:=p) (k:=q.1) (a:=q.2);show(gG (eC p q.1 q.2) r).2.length<=_;rw[U4];ext
omit Z in
theorem SA.cms(e:bb (Nat×Mn)):∀{p:WW×Sn},SA b p.1->(∀q∈e,(q.1:Int)<b.n/\VA b.ls.length q.2)->SA b (gG p e).1/\(gG p e).1.wt=p.1.wt/\(gG p e).1.oc=p.1.oc:=by
 induction e with
 |nil=>exact λh _=>⟨h,rfl,rfl⟩
 |cons q r j=>intro p h f;have i:=f q UT;exact j (h.cm i.1 i.2) λx l=>f x (UX _ l)
def xU(h:mS (b.ls.headD []) k=S):∃c,iU b 0 k=.Vk c:=by
 let i:=Z.l1;obtain⟨f,r,e⟩:∃f r,b.ls=f::r:=by
  cases q:b.ls with
  |nil=>rw[q]at i;ext i
  |cons l r=>show#[l,r,W]
 unfold mS at h;ext iU;rw[e]at h⊢;rw[aaO,acf];rw[adi]at h;cases q:f[k]? with
 |none=>rw[q]at h;ext h
 |some m=>
  rw[q]at h;cases m with
  |Vk c=>show#[c,W]
  |_=>ext h
def JU(f:(k:Int)<b.n)(h:mS (b.ls.headD []) k=S):VA b.ls.length (iU b 0 k):=by let i:=Z.l1;let(c,e):=xU Z h;let:=wz Z (L:=0) () f;rw[e]at this⊢;show this
def L6(h:WV b X Y g P):∀m∈KH b Y,VA b.ls.length m:=by
 intro m hm;unfold KH at hm;split at hm
 .rename_i c f
  rcases Vh.mp hm with rfl|hm
  .show(Z.vc c (Yd f)).2.2.2
  .rw[(Zr.mp hm).2];trivial
 .let(j,e,rfl):=Vl.mp hm;show JU Z (h.kn j e) (h.ch W j e)
def sG(h:WV b X Y g w):∀q∈Y.zip (gF b Y w),(q.1:Int)<b.n/\VA b.ls.length q.2:=by
 intro q f;let e:=Xo f;show#[h.kn _ e.1,?_];cases w with
 |none=>show L6 Z h _ e.2
 |some i=>let(c,n):=i;rw[U8.mp e.2];show(h.tp c n W).2.1
def WD(b:Bd)(s:WW):Prop:=∀Y g w,s.wt=M (Y,g,w)->WV b s.ac Y g w
def dM(h:SA b p.1)(f:WD b p.1):SW b (bH b p).1/\(bH b p).1.wt=P/\(bH b p).2.length<=p.2.length+5/\(bH b p).1.oc=p.1.oc:=by
 ext bH;split
 .rename_i q;show#[#[h,λY g w e=>by simp_all],q,Nat.le_add_right _ _,W]
 .rename_i Y g w q
  let v:=f Y g w q;let(l,j,i):=SA.cms (Y.zip (gF b Y w)) (p:=({p.1 with wt:=P},p.2)) #[h.ac,h.oc] (sG Z v);show#[#[l,λ_ _ _ e=>?_],j,?_,i]
  .simp_all
  .let:=A6 (Y.zip (gF b Y w)) ({p.1 with wt:=P},p.2)
   let m:=v.len Z
   grind
omit Z in
theorem zg:∀(l:bb Int) (m:bg Int),l.foldl jx m=m\/∃x∈l,l.foldl jx m=cL x
 |[],m=>.inl rfl
 |x::r,m=>by
  rw[YJ];rcases zg r (jx m x)with h|⟨y,hy,h⟩
  .rw[h]
   cases m with
   |none=>exact .inr ⟨x,UT,rfl⟩
   |some z=>
    show cL (if x>z then x else z)=cL z\/_;split
    .exact .inr ⟨x,UT,by show cL (if x>z then x else z)=_;rename_i q;rw[ax q]⟩
    .exact .inl rfl
  .exact .inr ⟨y,UX _ hy,h⟩
omit Z in
theorem yD:∀(l:bb Int) (m:bg Int),(∀x∈l,∃y,l.foldl jx m=cL y/\x<=y)/\∀z,m=cL z->∃y,l.foldl jx m=cL y/\z<=y
 |[],m=>⟨λx f=>(by cases f),λz h=>⟨z,h,Y7 _⟩⟩
 |x::r,m=>by
  rw[YJ];obtain⟨o,n⟩:=yD r (jx m x);have j:∃z,jx m x=cL z/\x<=z/\∀u,m=cL u->u<=z:=by
   cases m with
   |none=>exact⟨x,rfl,Y7 _,λu h=>by cases h⟩
   |some u=>
    refine⟨if x>u then x else u,rfl,?_,λv h=>?_⟩
    .split<;>ext
    .cases h;split<;>ext
  obtain⟨z,e1,e2,e3⟩:=j;obtain⟨y,e4,e5⟩:=n z e1;refine⟨λv e=>?_,λu i=>⟨y,e4,by have:=e3 u i;ext⟩⟩;rcases Vh.mp e with rfl|e
  .exact⟨y,e4,by ext⟩
  .exact o v e
omit Z in
theorem yV{X:Ac}{n:Int}:n∈(fJ X).filterMap Gs↔∃k,k<5/\X k=cL (.WN n):=by
 rw[X6];constructor
 .rintro⟨⟨k,m⟩,f,e⟩
  have h:=ez.mp f;cases m with
  |WN x=>have:x=n:=Vd e;subst this;exact⟨k,h.1,h.2⟩
  |_=>cases e
 .rintro⟨k,f,e⟩;exact⟨(k,.WN n),ez.mpr ⟨f,e⟩,rfl⟩
def GG(h:SA b s):0<=uw s.ac/\uw s.ac<b.ls.length/\(∀k n,s.ac k=M (.WN n)->n<=uw s.ac)/\(uw s.ac=0\/∃k,s.ac k=M (.WN (uw s.ac))):=by
 let l:=Z.l1;let o:=Z.n5;ext uw;generalize hm:((fJ s.ac).filterMap Gs).foldl jx P=m;let i:=(yD ((fJ s.ac).filterMap Gs) P).1;let f:=zg ((fJ s.ac).filterMap Gs) P;rw[hm]at i f;let up:∀k n,s.ac k=M (.WN n)->∃y,m=M y/\n<=y:=λk n e=>i n (yV.mpr #[k,by let:=(h.ac k _ e).1;ext,e]);cases m with
 |none=>show#[Y7 _,by show(0:Int)<_;ext,λk n e=>?_,.inl W];let(y,e2,_):=up k n e;ext e2
 |some x=>
  rcases f with f|⟨y,q,f⟩
  .ext f
  .ext f;let(k,_,e):=yV.mp q;let:=(h.ac k _ e).2;let:1<=x/\x<b.ls.length:=this;show#[by show 0<=x;ext,by show x<_;ext,λk n e=>?_,.inr #[k,e]];let(y,e2,j):=up k n e;ext e2;show j
def sY(h:SA b s):0<=iO s.ac s.oc/\iO s.ac s.oc<b.ls.length:=by
 cases q:s.oc with
 |none=>let:=GG Z h;show#[this.1,this.2.1]
 |some o=>let:=h.oc o q;show#[by show 0<=o;ext,this.2]
end
section
variable{b:Bd}{s:WW}{Q:Sn}{Y:bb (Nat×Mn)}{J:aH}{T:aQ}{i:Nat}{X:aH}{p:WW×Sn}{k:Nat}{a:Mn}
def wK(h:f x=M y):aF f [x]=M [y]:=by ext aF;rw[h];rfl
def eN:(l++[c]).set l.length o=l++[o]:=by simp
def mi(f:HS b p X):∃c,bv [.rf 0] X=.ok (.fz (dX p.1)) c/\HS b p c:=by
 let(Y,J,e,rfl):=f;let h:=Eg e;let j:j6 (pN (aP "Hand" "acts" (ar 0))) [M (.rf 0)] (dG b p.1 p.2 Y J)=.ok ((fJ p.1.ac).map λq=>nd q.1) (dG b p.1 p.2 Y (J++[.dead])):=by
  show(Dr (ds:=(fJ p.1.ac).map λq=>nd q.1) (GS (gl W) W (Ds e) (by rw[UK];ext)) ?_).trans ?_
  .rw[Gc e];show aM.trans ?_;rw[VJ,VJ];rfl
  .rw[eN];rfl
 let l:dJ (eY 0) mQ (kR (aj (ag (aa 0)) (aj (pS (aP "Hand" "acts" (ar 1)) (ag (aa 0))) aK))) ((fJ p.1.ac).map λq=>nd q.1) [P,M (.rf 0)] (dG b p.1 p.2 Y (J++[.dead])) []=.ok (((fJ p.1.ac).map pD).map .fz) (dG b p.1 p.2 Y (J++[.dead])):=by show(lY (λq:Nat×Mn=>nd q.1) (λq=>.fz (pD q)) _ (λT=>∃o,T=[o,M (.rf 0)]) (fJ p.1.ac) _ [] #[P,W] (by let:=tj p.1.ac;grind) ?_).trans (by rw[VJ];rfl);rintro q g T ⟨o,rfl⟩;let hm:=ez.mp g;show#[[-(nd q.1),M (.rf 0)],W,W,?_,_,W];show sf (aq (ah (af W)) (aq (IW (gl W) (ah (af W)) W W (by rw[kU e hm.1,hm.2];rfl)) aI)) (UN W)
 let tp:Gp hV (aj (mz 1 [0] (j6 (pN (aP "Hand" "acts" (ar 0)))) (eY 0) mQ (kR (aj (ag (aa 0)) (aj (pS (aP "Hand" "acts" (ar 1)) (ag (aa 0))) aK)))) aK) [M (.rf 0)] (dG b p.1 p.2 Y J)=.ok (.fz (.tuple ((fJ p.1.ac).map pD))) (dG b p.1 p.2 Y (J++[.dead]++[.lst (((fJ p.1.ac).map pD).map .fz)])):=
  Dx (aq (zG j l) aI) (wK (hW aM)) W
 show#[_,hU W (gD (sf (aq tp (aq (bj W) (aq (zV W) aI))) (UN W))),Y,_,e,W]
def Cf(f:HS b p X):bR [.rf 0,.fz (nd k)] X=.ok (.fz (.bool (yR p.1.wt k))) X:=by
 let(Y,J,h,rfl):=f;show hU W (gD ?_);cases q:p.1.wt with
 |none=>
  let e1:i6 (ib p.1.wt) .none=-(.bool R):=by rw[q];rfl
  show AH (aN (df (bj W) (ah aA) (b8 e1)))
 |some x=>
  let(e,g,w):=x;let e1:i6 (ib p.1.wt) .none=-(.bool S):=by rw[q];rfl
  let e2:aR (ib p.1.wt) (.int 0)=-(.tuple (aO e)):=by rw[q];show g7
  show AJ (aN (df (bj W) (ah aA) (b8 e1))) (df (ah (af W)) (cN (bj W) (ah aA) e2) (b8 (sH _ _)))
def QZ(E:HS b p X)(t:AK p.1.ac)(N:p.1.ac k=M a)(F:p.2.length<1000):∃D,iw [.rf 0,.fz (nd k)] X=.ok (.fz .none) D/\HS b (go p k) D:=by
 let(Y,J,B,rfl):=E;let G:=(t k a N).1;let lb:=(t k a N).2;let(f,I,w):=CV B
 let n:rh (aP "Hand" "acts" (ar 0)) (ag (aa 1)) [M (.rf 0),-(nd k),P] (dG b p.1 p.2 Y J)=.ok (.fz (mD a)) (dG b {p.1 with ac:=jz p.1.ac k P} p.2 f J):=
  (Iz (gl W) W (ah (af W)) W W (by rw[kU B G,N];rfl)).trans (by rw[I];rfl)
 let H:go p k=({p.1 with ac:=jz p.1.ac k P},p.2++Lz (jz p.1.ac k P) a):=by ext go;rw[N]
 rw[H];let o:AK (jz p.1.ac k P):=λj x e=>by
  by_cases z:j=k
  .subst z;rw[dc]at e;ext e
  .rw[eF z]at e;show t j x e
 let e0:=mO a;let e1:=jQ a;let l:az (ay cH (ay aR (aa 2) (~~~0)) (pC (.str "letter"))) (bQ [M (.rf 0),-(nd k),-(mD a)])=.ok (a.isL,bQ [M (.rf 0),-(nd k),-(mD a)]):=by ext:0
 let v:X2 (bV (jW (bh (az (ay cH (ay aR (aa 2) (~~~0)) (pC (.str "letter"))))) (qE (a9 (aG "Hand" "has_act" bx 2 (ar 0) (aj (ag (aa 2)) aK))))) (br (pz (aP "Hand" "sent" (ar 0)) (ag (aU {ay aR (aa 2) (~~~1),pC (.str "up")})))) bZ [M (.rf 0),-(nd k),-(mD a)] (dG b {p.1 with ac:=jz p.1.ac k P} p.2 f J)) (λ_ D=>SV.fz .none=.fz .none/\HS b ({p.1 with ac:=jz p.1.ac k P},p.2++Lz (jz p.1.ac k P) a) D) (λ_ _=>False) (λr D=>r=.fz .none/\HS b ({p.1 with ac:=jz p.1.ac k P},p.2++Lz (jz p.1.ac k P) a) D):=by
  cases q:a.isL with
  |false=>
   rw[q]at l;show dL (fD (aX l)) (jM #[W,f,J,w,?_]);let:Lz (jz p.1.ac k P) a=[]:=by ext a<;>first|rfl|ext q
   simp_all
  |true=>
   rw[q]at l;let(h,u,K):=Fw (p:=({p.1 with ac:=jz p.1.ac k P},p.2)) #[f,J,w,W] o lb;let g:∀m,kq (jz p.1.ac k P) a=m->(jW (bh (az (ay cH (ay aR (aa 2) (~~~0)) (pC (.str "letter"))))) (qE (a9 (aG "Hand" "has_act" bx 2 (ar 0) (aj (ag (aa 2)) aK))))) [M (.rf 0),-(nd k),-(mD a)] (dG b {p.1 with ac:=jz p.1.ac k P} p.2 f J)=.ok (!m) h:=λm e=>by
    let u:bx [.rf 0,.fz (mD a)] (dG b {p.1 with ac:=jz p.1.ac k P} p.2 f J)=.ok (.fz (.bool m)) h:=by rw[<-e];show u
    show fA (aX l) (nu (aN (bA (p:=({p.1 with ac:=jz p.1.ac k P},p.2)) #[f,J,w,W] (by rfl) W (aq (ah (af W)) aI) W u)))
   let(y,C,A,e2):=K;rw[e2]at g;cases q2:kq (jz p.1.ac k P) a with
   |true=>
    show dL (g S q2) (jM #[W,y,C,A,?_]);let:Lz (jz p.1.ac k P) a=[]:=by
     ext a<;>first|ext q|skip
     show(if kq (jz p.1.ac k P) _=S then _ else _)=_;rw[ax q2]
    simp_all
   |false=>
    ext a<;>first|ext q|skip
    rename_i c;let L:aR (mD (.Vk c)) (.int 1)=-(.str (cT c)):=iC;show nU (g R q2) (gQ (zj (d:=R) F W (ah (show _=Res.ok (PV.fz (.tuple [.str (cT c),.str "up"]),_) by ext:0))) #[W,y,C,A,?_]);let:Lz (jz p.1.ac k P) (.Vk c)=[(c,R)]:=by show(if kq (jz p.1.ac k P) _=S then _ else _)=_;simp_all
    rw[this]
 show hJ W (iB n W v)
end
section
variable{b:Bd}(Z:VB b){s:WW}{sn:Sn}{X:bb (Nat×Mn)}{J:aH}{Q:aQ}{i:Nat}{T:aH}{p:WW×Sn}{k:Nat}{a:Mn}{Y:bb Nat}{g:Int}{w:bg (Nat×Int)}
theorem El:∀(Y:G Nat) (as:G Mn),kB (aO Y) (as.map mD)=(Y.zip as).map pD
 |[],_=>by rfl
 |_::_,[]=>rfl
 |k::r,a::t=>by show UM.tuple [nd k,mD a]::kB (aO r) (t.map mD)=_;rw[El r t];rfl
def xI(h:∀c n,w=M (c,n)->c<26):cH (qj w) (.tuple [.str "chord"])=-(.bool w.isNone)/\uj (qj w) (.tuple [.str "chord"])=-(.bool w.isSome):=by
 cases w with
 |none=>
  let l:j4 (.tuple [.str "chord"])=S:=by left
  let j:UM.canLay0 (.tuple [.str "chord"])=S:=by left
  let f:UM.eqv (.tuple [.str "chord"]) (.tuple [.str "chord"])=S:=by rfl
  constructor
  .show(if(j4 (.tuple [.str "chord"])&&UM.canLay0 (.tuple [.str "chord"]))=S then M (RV.fz (.bool (UM.eqv (.tuple [.str "chord"]) (.tuple [.str "chord"]))))else P)=_;rw[l,j,f];rfl
  .show(if(j4 (.tuple [.str "chord"])&&UM.canLay0 (.tuple [.str "chord"]))=S then M (RV.fz (.bool (!UM.eqv (.tuple [.str "chord"]) (.tuple [.str "chord"]))))else P)=_;rw[l,j,f];rfl
 |some m=>
  let(c,n):=m;let lb:LB (.Yu c n):=h c n W;let e:UM.eqv (mD (.Yu c n)) (.tuple [.str "chord"])=R:=by rfl
  constructor
  .show(if(j4 (mD (.Yu c n))&&UM.canLay0 (.tuple [.str "chord"]))=S then M (RV.fz (.bool (UM.eqv (mD (.Yu c n)) (.tuple [.str "chord"]))))else P)=_;rw[EL lb,show UM.canLay0 (.tuple [.str "chord"])=S by left,e];rfl
  .show(if(j4 (mD (.Yu c n))&&UM.canLay0 (.tuple [.str "chord"]))=S then M (RV.fz (.bool (!UM.eqv (mD (.Yu c n)) (.tuple [.str "chord"]))))else P)=_;rw[EL lb,show UM.canLay0 (.tuple [.str "chord"])=S by left,e];rfl
theorem uD(Y:G Nat)(w:I (Nat×Int))(as:G Mn):∀(h:G (Nat×Mn)) (p:WW×Sn) (T:aH) (n m:I SV),HS b p T->AK p.1.ac->(∀q∈h,q.1<5/\LB q.2)->p.2.length+h.length<1000->
  ∃d c,jp (KF 2 (qA (eY 4) (qA (eY 5) Ax))) (br (aG "Hand" "come" aZ 3 (ar 0) (aj (ag (aa 4)) (aj (ag (aa 5)) aK)))) (h.map pD) [M (.rf 0),-(.tuple (aO Y)),-(qj w),-(.list (as.map mD)),n,m] T=.ok (.nx d) c/\HS b (gG p h) c
 |[],p,T,n,m,B,_,_,_=>#[_,T,W,B]
 |q::r,p,T,n,m,B,L,C,N=>by
  rw[U4]at N;let l:=C q UT;let(f,e1,A):=nO B L l.2 l.1 ();let o:AK (eC p q.1 q.2).1.ac:=λj x e=>by
   by_cases z:j=q.1
   .let v:M q.2=M x:=by rw[z]at e;show(dc).symm.trans e
    ext v;show#[by rw[z];show l.1,l.2]
   .show L j x ((eF z).symm.trans e)
  let:=lx (p:=p) (k:=q.1) (a:=q.2);let(d,c,e2,y):=uD Y w as r (eC p q.1 q.2) f (-(nd q.1)) (-(mD q.2)) A o (λx u=>C x (UX _ u)) ();show#[d,c,?_,y]
  let t:br (aG "Hand" "come" aZ 3 (ar 0) (aj (ag (aa 4)) (aj (ag (aa 5)) aK))) [M (.rf 0),-(.tuple (aO Y)),-(qj w),-(.list (as.map mD)),-(nd q.1),-(mD q.2)] T=.ok (.nx [M (.rf 0),-(.tuple (aO Y)),-(qj w),-(.list (as.map mD)),-(nd q.1),-(mD q.2)]) f:=
   gP (bA B (by left) W (aq (ah (af W)) (aq (ah (af W)) aI)) W e1)
  show((br (aG "Hand" "come" aZ 3 (ar 0) (aj (ag (aa 4)) (aj (ag (aa 5)) aK))) [M (.rf 0),-(.tuple (aO Y)),-(qj w),-(.list (as.map mD)),-(nd q.1),-(mD q.2)] T).bind _)=_;rw[t,d0];show e2
include Z
def jA(y:HS b p T)(r:SA b p.1)(j:p.1.wt=cL (Y,g,w))(v:WV b p.1.ac Y g w)(L:p.2.length<900):∃d,cF [.rf 0] T=.ok (.fz .none) d/\HS b (bH b p) d:=by
 let(X,J,B,rfl):=y;let e0:aR (ib p.1.wt) (.int 0)=-(.tuple (aO Y)):=by rw[j];show g7
 let e2:aR (ib p.1.wt) (.int 2)=-(qj w):=by rw[j];show p7
 let t:=v.len Z;let u:=v.ajp;let G:=xI λc n h=>(v.tp c n h).1;let F:bH b p=gG ({p.1 with wt:=P},p.2) (Y.zip (gF b Y w)):=by ext bH;rw[j]
 rw[F];let o:az (ay cH (aa 2) (pC (.tuple [.str "chord"]))) (bQ [cL (.rf 0),-(.tuple (aO Y)),-(qj w),P,P,P])=.ok (w.isNone,bQ [cL (.rf 0),-(.tuple (aO Y)),-(qj w),P,P,P]):=a8 (aB (af W) aA W W G.1) W;let m:jV (KI (bh (az (ay cH (aa 2) (pC (.tuple [(.str "chord")]))))) (g8 eV 2 (aj (aP "Hand" "bed" (ar 0)) (aj (ag (aa 1)) aK))) (ag (cU {aU {pC (.str "layer"),ay aR (aa 2) (~~~2)}}))) [cL (.rf 0),-(.tuple (aO Y)),-(qj w),P,P,P] (dG b {p.1 with wt:=P} p.2 X J)=.ok (.fz (.list ((gF b Y w).map mD))) (dG b {p.1 with wt:=P} p.2 X (J++[.dead])):=by
  cases w with
  |none=>let I:=NY Z u t v.kn;show(jd (HA (aX o) (sd (aq (lW W) (aq (ah (af W)) aI)) W I)) (jC aM)).trans (by rw[eN];rfl)
  |some H=>let(c,n):=H;let K:aR (qj (cL (c,n))) (.int 2)=-(.int n):=p7;show(jd (Il (aX o) (dH (show _=Res.ok (PV.ow [.tuple [.str "layer",.int n]],_) by ext:0))) (jC aM)).trans (by rw[eN];rfl)
 let f:∃e d,sW (kZ (AX {aa 1,aa 3})) (KF 2 (qA (eY 4) (qA (eY 5) Ax))) (br (aG "Hand" "come" aZ 3 (ar 0) (aj (ag (aa 4)) (aj (ag (aa 5)) aK)))) [cL (.rf 0),-(.tuple (aO Y)),-(qj w),-(.list ((gF b Y w).map mD)),P,P] (dG b {p.1 with wt:=P} p.2 X (J++[.dead]))=.ok (.nx e) d/\HS b (gG ({p.1 with wt:=P},p.2) (Y.zip (gF b Y w))) d:=by
  let M:=Z.n5;let(e,d,E,C):=uD Y w (gF b Y w) (Y.zip (gF b Y w)) ({p.1 with wt:=P},p.2) (dG b {p.1 with wt:=P} p.2 X (J++[.dead])) P P #[X,_,B,W] (SA.ak Z #[r.ac,r.oc]) (λq A=>by
   let:=sG Z v q A;show#[by ext,this.2.lb]) (by
   rw[List.length_zip];show p.2.length+_<1000;ext)
  show#[e,d,?_,C];ext sW;rw[nZ (zD (ai (af W) (ai (af W) av)) W W W),d0,El];show E
 let(e,d,f,l):=f;show#[d,lz (ρ1:=e) W ?_,l];show cg (lP (cN (bj W) (ah aA) e0) W) (cg (lP (cN (bj W) (ah aA) e2) W) (cg (jE P W (ah aA)) (cg (lP m W) f)))
omit Z in
theorem IK{c:bb Nat×Nat}(h:c.2<26):UM.canLay0 (Wf c)=UJ:=by show(UM.canLayAll0 (aO c.1)&&(UM.strOk (cT c.2)&&UJ))=UJ;rw[gK,n6 h];rfl
omit Z in
theorem Pu:∀{cs:bb (bb Nat×Nat)},(∀c∈cs,c.2<26)->uj (.list (cs.map Wf)) (.list [])=-(.bool (!cs.isEmpty)):=by
 intro cs h;have j:∀cs:bb (bb Nat×Nat),(∀c∈cs,c.2<26)->UM.canLayAll0 (cs.map Wf)=UJ:=by
  intro cs
  induction cs with
  |nil=>exact λ_=>rfl
  |cons c r e=>intro h;show(UM.canLay0 (Wf c)&&UM.canLayAll0 (r.map Wf))=UJ;rw[IK (h c UT),e λx l=>h x (UX _ l)];rfl
 have f:∀cs:bb (bb Nat×Nat),UM.depthAll (cs.map Wf)<=2:=by
  intro cs
  induction cs with
  |nil=>exact Vu _
  |cons c r e=>show max (UM.depth (Wf c)) (UM.depthAll (r.map Wf))<=2;refine ahJ.mpr ⟨?_,e⟩;show max (UM.depthAll (aO c.1)+1) (max 0 0)+1<=2;rw[jB];decide
 show(if((UM.canLayAll0 (cs.map Wf)&&decide (UM.depthAll (cs.map Wf)+1<=64))&&UJ)=UJ then cL (RV.fz (.bool (!UM.eqvAll (cs.map Wf) [])))else lD)=_;rw[j cs h,a4 (show UM.depthAll (cs.map Wf)+1<=64 by have:=f cs;ext)];cases cs<;>rfl
theorem Hu(h:c∈dB b Y):c.2<26:=(Z.vc c (Wg.mp h).1).2.2.2
omit Z in
theorem zp(h:Y≠[])(e:Y.length<=5):ce (.tuple (aO Y)) (.tuple [nd k])=-(.tuple (aO (Y++[k]))):=by
 show(if aO Y≠[]/\(aO Y).length+1<=1000000 then cL (RV.fz (.tuple (aO Y++[nd k])))else lD)=_;rw[ax ⟨by cases Y with
  |nil=>exact a7 rfl h
  |cons x r=>simp[aO],by rw[cM];ext⟩,Ke]
 rfl
def y6{d:dj}{ω1:aH}(e:∃X J,ω1=dG b s sn X J)(l:Q[0]?=M (M (.rf 0)))(f:Y.length<=5)(h:d Q ω1=.ok (.fz (.tuple (aO Y))) ω1):kI uj (g8 bu 2 (aj (aP "Hand" "bed" (ar 0)) (aj d aK))) (ag (cU am)) Q ω1=.ok (.fz (.bool (!(dB b Y).isEmpty))) (ω1++[.lst (((dB b Y).map Wf).map .fz)]++[.lst []]):=by let(X,J,rfl):=e;show df (sd (ds:=[bD b,.tuple (aO Y)]) (aq (lW l) (aq h aI)) W (zn Z f)) (dH (ds:=[]) (ρ':=bQ Q) (kr av W (Vu _))) ?_;show sP (hW (gA aM)) (hW (ds:=[]) aM) (Pu λc j=>Hu Z j)
def Ml(m:HS b p T)(E:SW b p.1)(L:(k:Int)<b.n)(z:yR p.1.wt k=R):∃d,cY [.rf 0,.fz (nd k)] T=.ok (.fz (.bool (Ai b p.1 k))) d/\HS b p d:=by
 cases q:p.1.wt with
 |none=>
  let o:Ai b p.1 k=R:=by ext Ai;rw[q]
  rw[o];let(X,J,l,rfl):=m;let e1:qG (ib p.1.wt) .none=-(.bool S):=by rw[q];rfl
  show#[_,hU W (mr (de (oO (aN (df (bj W) (ah aA) (b8 e1)))) (gD (ah aA)))),X,J,l,W]
 |some x=>
  let(Y,g,w):=x;let v:=(E.wt Y g w q).1;let F:=v.len Z;let e1:qG (ib p.1.wt) .none=-(.bool R):=by rw[q];rfl
  let e2:aR (ib p.1.wt) (.int 2)=-(qj w):=by rw[q];show p7
  let e0:aR (ib p.1.wt) (.int 0)=-(.tuple (aO Y)):=by rw[q];show g7
  let B:=(xI λc n h=>(v.tp c n h).1).2;cases w with
  |some N=>
   let o:Ai b p.1 k=R:=by ext Ai;rw[q]
   rw[o];let(X,J,l,rfl):=m;show#[_,hU W (mr (de (lC (aN (df (bj W) (ah aA) (b8 e1))) (oO (aN (df (cN (bj W) (ah aA) e2) (ah aA) (b8 B))))) (gD (ah aA)))),X,J,l,W]
  |none=>
   let o:Ai b p.1 k=(decide (iO p.1.ac p.1.oc=0)&& !(dB b (Y++[k])).isEmpty):=by ext Ai;rw[q]
   rw[o];let(j,H,C):=mi m;let f:(BN (a9 (kI qG (aP "Hand" "waiting" (ar 0)) (ag (pC .none)))) (BN (a9 (kI uj (i7 (aP "Hand" "waiting" (ar 0)) (ag (~~~2))) (ag (pC (.tuple [(.str "chord")]))))) (a9 (kI uj (g8 dP 1 (aj (aG "Hand" "stands" bv 1 (ar 0) aK) aK)) (ag (~~~0)))))) [cL (.rf 0),-(nd k)] T=.ok (!decide (iO p.1.ac p.1.oc=0)) j:=by
    let I:a9 (kI uj (g8 dP 1 (aj (aG "Hand" "stands" bv 1 (ar 0) aK) aK)) (ag (~~~0))) [cL (.rf 0),-(nd k)] T=.ok (!decide (iO p.1.ac p.1.oc=0)) j:=
     aN (df (yc (aq (bA m (by rfl) W aI W H) aI) W (vi p.1)) (ah aA) (b8 (uh _ _)))
    let(X,J,l,rfl):=m;show lC (aN (df (bj W) (ah aA) (b8 e1))) (lC (aN (df (cN (bj W) (ah aA) e2) (ah aA) (b8 B))) I)
   by_cases A:iO p.1.ac p.1.oc=0
   .rw[a4 A]at f⊢
    let(X,J,l,rfl):=C;let t:k∉Y:=by rw[q]at z;show of_decide_eq_false z
    let r:(Y++[k]).Nodup:=by rw[Xy];show#[v.nd,Wh.mpr #[Wa,Y1],λx u y K e=>t (by simp_all)]
    let G:(Y++[k]).length<=5:=xF r λx u=>by
     let M:=Z.n5;rcases Vo.mp u with h|h
     .let:=v.kn x h;ext
     .rw[U8.mp h];ext
    show#[_,hU W (cg (c9 f dF) (gD (y6 Z #[X,J,W] W G (df (cN (bj W) (ah aA) e0) (ah (bG (ai (af W) av) W (UN W))) (b8 (zp v.ne F)))))),X,_,l,W]
   .rw[a5 A]at f⊢;show#[j,hU W (mr (de f (gD (ah aA)))),C]
end
section
variable{b:Bd}(Z:VB b){s:WW}{sn:Sn}{ps:bb (Nat×Mn)}{J:aH}{ρ:aQ}{i:Nat}{ω:aH}{p:WW×Sn}{k:Nat}{a:Mn}{ks:bb Nat}{g:Int}{w:bg (Nat×Int)}
include Z
def Nt(v:WV b p.1.ac ks g w)(c:k∉ks)(m:(k:Int)<b.n):(ks++[k]).Nodup/\(ks++[k]).length<=5:=by
 let f:(ks++[k]).Nodup:=by rw[Xy];show#[v.nd,Wh.mpr #[Wa,Y1],λx j y l e=>c (by simp_all)]
 show#[f,xF f λx j=>?_];let o:=Z.n5;rcases Vo.mp j with h|h
 .let:=v.kn x h;ext
 .rw[U8.mp h];ext
def tK(o:SW b p.1)(m:(k:Int)<b.n)(z:p.1.ac k=P)(d:yR p.1.wt k=R)(hm:Ai b p.1 k=S):∃ks g,p.1.wt=M (ks,g,P)/\k∉ks/\WV b p.1.ac (ks++[k]) g P/\g<b.wt:=by
 unfold Ai at hm;split at hm
 .rename_i ks g q
  rw[UH]at hm;let(v,t):=o.wt ks g P q;let f:k∉ks:=by rw[q]at d;show of_decide_eq_false d
  let(l,B):=Nt Z v f m;show#[ks,g,q,f,#[by simp,l,λx e=>?_,λx e=>?_,v.g0,λc n h=>(by ext h),λ_ x e=>?_],t]
  .rcases Vo.mp e with h|h
   .show v.kn x h
   .rw[U8.mp h];show m
  .rcases Vo.mp e with h|h
   .show v.kf x h
   .rw[U8.mp h];show z
  .let j:=hm.2
   cases C:dB b (ks++[k])with
   |nil=>rw[C]at j;ext j
   |cons c r=>
    let u:c∈dB b (ks++[k]):=by rw[C];show UT
    let(A,y):=Wg.mp u;let:=V9.mp y x e;show(Z.vc c A).2.2.1 x (a6 this)
 .ext hm
def GN(u:HS b p ω)(l:SW b p.1)(h:p.1.wt=M (ks,g,P))(v:WV b p.1.ac (ks++[k]) g P)(j:WV b p.1.ac ks g P)(y:p.2.length<900):∃d,cK [.rf 0,.fz (nd k)] ω=.ok (.fz .none) d/\HS b (oK b p k) d:=by
 let(ps,J,m,rfl):=u;let r:=v.len Z;let e0:aR (ib p.1.wt) (.int 0)=-(.tuple (aO ks)):=by rw[h];show g7
 let e1:aR (ib p.1.wt) (.int 1)=-(.int g):=by rw[h];show iC
 let E:oK b p k=if(dB b (ks++[k])).map (·.1.length)=[(ks++[k]).length]then bH b ({p.1 with wt:=M (ks++[k],g,P)},p.2)else({p.1 with wt:=M (ks++[k],g,P)},p.2):=by ext oK;rw[h]
 let G:HS b ({p.1 with wt:=M (ks++[k],g,P)},p.2) (dG b {p.1 with wt:=M (ks++[k],g,P)} p.2 ps J):=#[ps,J,m,W];let F:dJ (eY 0) mQ (ag (fw fu {ay aR (aa 0) (~~~0)})) ((dB b (ks++[k])).map Wf) [P] (dG b {p.1 with wt:=M (ks++[k],g,P)} p.2 ps (J++[.dead])) []=.ok ((aO ((dB b (ks++[k])).map (·.1.length))).map .fz) (dG b {p.1 with wt:=M (ks++[k],g,P)} p.2 ps (J++[.dead])):=by
  show(lY Wf (λc=>.fz (nd c.1.length)) _ (λρ=>∃o,ρ=[o]) (dB b (ks++[k])) _ [] #[P,W] ?_ ?_).trans (by ext aO;rw[VJ,VJ];rfl)
  .let:=XJ (λc:bb Nat×Nat=>(ks++[k]).all λk=>decide (k∈c.1)) b.cs;let:=Z.c4;show 0+(dB b (ks++[k])).length<=_;ext dB;ext
  .rintro c _ ρ ⟨o,rfl⟩;let t:aR (Wf c) (.int 0)=-(.tuple (aO c.1)):=g7;show#[[-(Wf c)],W,W,ah (cS (ai (aB (af W) aA W W t) av) W ((ir _).trans (by rw[cM]))),_,W]
 let C:j6 (g8 bu 2 (aj (aP "Hand" "bed" (ar 0)) (aj (ag (aa 2)) aK))) [M (.rf 0),-(nd k),-(.tuple (aO (ks++[k])))] (dG b {p.1 with wt:=M (ks++[k],g,P)} p.2 ps J)=.ok ((dB b (ks++[k])).map Wf) (dG b {p.1 with wt:=M (ks++[k],g,P)} p.2 ps (J++[.dead])):=
  (Dr (sd (aq (lW W) (aq (ah (af W)) aI)) W (zn Z r)) aM).trans (by rw[eN];rfl)
 let rt:cU {fw fu {aa 2}} (bQ [M (.rf 0),-(nd k),-(.tuple (aO (ks++[k])))])=.ok (.ow (aO [(ks++[k]).length]),bQ [M (.rf 0),-(nd k),-(.tuple (aO (ks++[k])))]):=by show kr (ai (cS (ai (af W) av) W ((ir _).trans (by rw[cM]))) av) W (UN W)
 let f:a9 (kI cH (mz 1 [] (j6 (g8 bu 2 (aj (aP "Hand" "bed" (ar 0)) (aj (ag (aa 2)) aK)))) (eY 0) mQ (ag (fw fu {ay aR (aa 0) (~~~0)}))) (ag (cU {fw fu {aa 2}}))) [M (.rf 0),-(nd k),-(.tuple (aO (ks++[k])))] (dG b {p.1 with wt:=M (ks++[k],g,P)} p.2 ps J)=.ok (decide ((dB b (ks++[k])).map (·.1.length)=[(ks++[k]).length])) (dG b {p.1 with wt:=M (ks++[k],g,P)} p.2 ps (J++[.dead])++[.lst ((aO ((dB b (ks++[k])).map (·.1.length))).map .fz)]++[.lst ((aO [(ks++[k]).length]).map .fz)]):=
  aN (df (zG C F) (dH rt) (sP (hW (gA aM)) (hW aM) (rT _ _)))
 let e:HS b ({p.1 with wt:=M (ks++[k],g,P)},p.2) (dG b {p.1 with wt:=M (ks++[k],g,P)} p.2 ps (J++[.dead])++[.lst ((aO ((dB b (ks++[k])).map (·.1.length))).map .fz)]++[.lst ((aO [(ks++[k]).length]).map .fz)]):=#[ps,_,m,W];generalize (dG b {p.1 with wt:=M (ks++[k],g,P)} p.2 ps (J++[.dead])++[.lst ((aO ((dB b (ks++[k])).map (·.1.length))).map .fz)]++[.lst ((aO [(ks++[k]).length]).map .fz)]:aH)=L at f e;rw[E];show hJ W (iB (df (cN (bj W) (ah aA) e0) (ah (bG (ai (af W) av) W (UN W))) (b8 (zp j.ne (j.len Z)))) W (yH (jE (M (ks++[k],g,P)) W (sf (aq (ah (af W)) (aq (cN (bj W) (ah aA) e1) (aq (ah aA) aI))) (UN W))) (vB f (λq=>?_) λq=>?_)))
 .rw[ax (a6 q)];let(n,B,A):=jA Z e #[l.sa.ac,l.sa.oc] W v y;show gQ (bA e (by rfl) W aI W B) #[W,A]
 .rw[a3 (of_decide_eq_false q)];show jM #[W,e]
def HM(f:SW b p.1)(h:p.1.wt=M (ks,g,P))(v:WV b p.1.ac (ks++[k]) g P)(j:g<b.wt):SW b (oK b p k).1:=by
 let l:oK b p k=if(dB b (ks++[k])).map (·.1.length)=[(ks++[k]).length]then bH b ({p.1 with wt:=M (ks++[k],g,P)},p.2)else({p.1 with wt:=M (ks++[k],g,P)},p.2):=by ext oK;rw[h]
 rw[l];split
 .show(dM Z (p:=({p.1 with wt:=M (ks++[k],g,P)},p.2)) #[f.sa.ac,f.sa.oc] λ_ _ _ e=>by ext e;show v).1
 .show#[#[f.sa.ac,f.sa.oc],λ_ _ _ e=>by ext e;show#[v,j]]
omit Z in
theorem yT(s:WW)(m:Mn):(dI s m).ac=s.ac/\(dI s m).wt=s.wt:=by unfold dI;split<;>exact⟨rfl,rfl⟩
omit Z in
theorem yt{m:Mn}(h:SA b s):SA b (dI s m):=by
 unfold dI;split
 .exact h
 .exact⟨h.ac,λo e=>by cases e⟩
def MM(F:HS b p ω)(Q:SA b p.1)(hw:p.1.wt=lD)(T:(k:Int)<b.n)(D:p.2.length<900):∃z,eT [.rf 0,.fz (nd k)] ω=.ok (.fz .none) z/\HS b (zN b p k) z:=by
 let(P,O):=sY Z Q;let I:=JR Z P O T;let(u,R):=sJ Z P O T;let(ω1,h1,YU):=mi F;let h5:=Z.n5;let eb:zN b p k=si b (iO p.1.ac p.1.oc) (dI p.1 (look b (iO p.1.ac p.1.oc) k),p.2) k (look b (iO p.1.ac p.1.oc) k):=W;rw[eb];let S:g8 dP 1 (aj (aG "Hand" "stands" bv 1 (ar 0) aK) aK) [cL (.rf 0),-(nd k),lD,lD,lD] ω=.ok (.fz (.int (iO p.1.ac p.1.oc))) ω1:=yc (aq (bA F (by rfl) W aI W h1) aI) W (vi p.1);generalize iO p.1.ac p.1.oc=L at I u R S P O;generalize look b L k=m at I u R;let(ps,J,hp,rfl):=YU;let lb:=u.lb;let c0:=mO m;let c1:=RY m;let c2:=Mq m;let c3:=jQ m;let c4:=IP m;let eL:cH (.int L) (.int 0)=-(.bool (decide (L=0))):=lf _ _;let B:(aD (bV (bh (az (ay mv (aa 4) (aU {pC (.str "layer"),pC (.str "once")})))) (eJ "Hand" "once" (ar 0) (ag (pC .none))) bZ) bZ) [cL (.rf 0),-(nd k),-(.int L),-(mD m),-(.str (wd m))] (dG b p.1 p.2 ps J)=.ok (.nx [cL (.rf 0),-(nd k),-(.int L),-(mD m),-(.str (wd m))]) (dG b (dI p.1 m) p.2 ps J):=by
  let t:bh (az (ay mv (aa 4) (aU {pC (.str "layer"),pC (.str "once")}))) [cL (.rf 0),-(nd k),-(.int L),-(mD m),-(.str (wd m))] (dG b p.1 p.2 ps J)=.ok (!(m.ab4||m.isO)) (dG b p.1 p.2 ps J):=aX (by ext:0);ext dI;cases q:(m.ab4||m.isO)with
  |true=>rw[q]at t;rw[ax W];show cg (c9 t dF) dF
  |false=>rw[q]at t;rw[a3 Ve];show cg (de t (zR lD W (ah aA))) dF
 let U:=yT p.1 m;let H:SA b (dI p.1 m):=yt Q;let e:ps.Perm (fJ (dI p.1 m).ac):=by simp_all
 let A:HS b (dI p.1 m,p.2) (dG b (dI p.1 m) p.2 ps J):=#[ps,J,e,W];generalize dI p.1 m=s2 at B U H e A;let N:X2 ((bV (bh (az (ay cH (aa 4) (pC (.str "tap"))))) (eJ "Hand" "waiting" (ar 0) (ag (aU {aU {aa 1},~~~0,aa 3}))) (bV (jW (bh (az (ay cH (aa 4) (pC (.str "letter"))))) (jW (bh (az (ay cH (aa 2) (~~~0)))) (a9 (kI uj (g8 bu 2 (aj (aP "Hand" "bed" (ar 0)) (aj (ag (aU {aa 1})) aK))) (ag (cU am)))))) (eJ "Hand" "waiting" (ar 0) (ag (aU {aU {aa 1},~~~0,pC (.tuple [(.str "chord")])}))) (bV (bh (az (ay cH (aa 4) (pC (.str "once"))))) (aD (br (aG "Hand" "come" aZ 3 (ar 0) (aj (ag (aa 1)) (aj (ag (pC (.tuple [(.str "none")]))) aK))))
 (eJ "Hand" "once" (ar 0) (ag (ay aR (aa 3) (~~~1))))) (br (aG "Hand" "come" aZ 3 (ar 0) (aj (ag (aa 1)) (aj (ag (aa 3)) aK))))))) [cL (.rf 0),-(nd k),-(.int L),-(mD m),-(.str (wd m))] (dG b s2 p.2 ps J)) (λ_ z=>SV.fz .none=.fz .none/\HS b (si b L (s2,p.2) k m) z) (λ_ _=>False) (λr z=>r=.fz .none/\HS b (si b L (s2,p.2) k m) z):=by
  let y:∀{ω:aH},bh (az (ay cH (aa 4) (pC (.str "tap")))) [cL (.rf 0),-(nd k),-(.int L),-(mD m),-(.str (wd m))] ω=.ok m.isT ω:=aX (by ext:0);let E:∀{ω:aH},bh (az (ay cH (aa 4) (pC (.str "letter")))) [cL (.rf 0),-(nd k),-(.int L),-(mD m),-(.str (wd m))] ω=.ok m.isL ω:=aX (by ext:0);let C:∀{ω:aH},bh (az (ay cH (aa 4) (pC (.str "once")))) [cL (.rf 0),-(nd k),-(.int L),-(mD m),-(.str (wd m))] ω=.ok m.isO ω:=aX (by ext:0);let G:∀{ω:aH},bh (az (ay cH (aa 2) (~~~0))) [cL (.rf 0),-(nd k),-(.int L),-(mD m),-(.str (wd m))] ω=.ok (decide (L=0)) ω:=aX (by ext:0);let kt:∀{ω:aH},ag (aU {aa 1}) [cL (.rf 0),-(nd k),-(.int L),-(mD m),-(.str (wd m))] ω=.ok (.fz (.tuple (aO [k]))) ω:=ah (bG (ai (af W) av) W (UN W));let cm:∀{ω:aH},HS b (s2,p.2) ω->VA b.ls.length m->∃z,br (aG "Hand" "come" aZ 3 (ar 0) (aj (ag (aa 1)) (aj (ag (aa 3)) aK))) [cL (.rf 0),-(nd k),-(.int L),-(mD m),-(.str (wd m))] ω=.ok (.nx [cL (.rf 0),-(nd k),-(.int L),-(mD m),-(.str (wd m))]) z/\HS b (eC (s2,p.2) k m) z:=λ{ω} F va=>by let(z,l,j):=nO (k:=k) F (H.ak Z) va.lb () (show p.2.length<1000 by ext);show#[z,gP (bA F (by rfl) W (aq (ah (af W)) (aq (ah (af W)) aI)) W l),j]
  cases m with
  |below=>simp_all
  |Yu c n=>show nU y (lu (jE (cL ([k],0,cL (c,n))) W (ah (ρ':=bQ [cL (.rf 0),-(nd k),-(.int L),-(mD (.Yu c n)),-(.str (wd (.Yu c n)))]) ?_)) #[W,ps,J,e,W]);rfl
  |Vk c=>
   obtain⟨d1,d2⟩:VA b.ls.length (.Vk c)/\True:=#[u,trivial];by_cases M:L=0
   .rw[a4 M]at G
    let ov:=y6 Z (ω1:=dG b s2 p.2 ps J) #[ps,J,W] W (UN W) kt;let K:HS b (s2,p.2) (dG b s2 p.2 ps J++[.lst (((dB b [k]).map Wf).map .fz)]++[.lst []]):=#[ps,_,e,W];let v:si b L (s2,p.2) k (.Vk c)=if(!(dB b [k]).isEmpty)=UJ then({s2 with wt:=cL ([k],0,lD)},p.2)else eC (s2,p.2) k (.Vk c):=by show(if(decide (L=0)&& !(dB b [k]).isEmpty)=UJ then _ else _)=_;rw[a4 M,Yo]
    rw[v];show dL y (vB (fA E (fA G (aN ov))) (λq=>?_) λq=>?_)
    .rw[ax q];show lu (jE (cL ([k],0,lD)) W (ah (ρ':=bQ [cL (.rf 0),-(nd k),-(.int L),-(mD (.Vk c)),-(.str (wd (.Vk c)))]) ?_)) #[W,ps,_,e,W];rfl
    .rw[a3 (by rw[q];simp)];let(z,l,j):=cm K u;show dL C (lu l #[W,j])
   .rw[a5 M]at G
    let v:si b L (s2,p.2) k (.Vk c)=eC (s2,p.2) k (.Vk c):=by show(if(decide (L=0)&& !(dB b [k]).isEmpty)=UJ then _ else _)=_;simp_all
    rw[v];let(z,l,j):=cm A u;show dL y (dL (fA E (fD G)) (dL C (lu l #[W,j])))
  |WN n=>let(z,l,j):=cm A u;show dL y (dL (fD E) (dL C (lu l #[W,j])))
  |none=>let(z,l,j):=cm A trivial;show dL y (dL (fD E) (dL C (lu l #[W,j])))
  |once n=>let(z,l,j):=nO (k:=k) (a:=.none) A (H.ak Z) trivial () (show p.2.length<1000 by ext);let i1:aR (mD (.once n)) (.int 1)=-(.int n):=iC;let(Y,J2,hq,rfl):=j;show dL y (dL (fD E) (nU C (yH (gP (bA A (by rfl) W (aq (ah (af W)) (aq (ah aA) aI)) W l)) (lu (zR (cL n) W (ah (ρ':=bQ [cL (.rf 0),-(nd k),-(.int L),-(mD (.once n)),-(.str (wd (.once n)))]) ?_)) #[W,Y,J2,hq,W]))));rfl
 show hJ (ρ:=[cL (.rf 0),-(nd k),lD,lD,lD]) W (iB S W (iB (yc (ds:=[bD b,.int L,nd k]) (aq (lW W) (aq (ah (af W)) (aq (ah (af W)) aI))) W I) W (iB (ah (d:=.str (wd m)) (ρ':=bQ [cL (.rf 0),-(nd k),-(.int L),-(mD m),lD]) (aB (rv:=.fz (.str (wd m))) (af W) aA W W c0)) W ?_)));show .eq ?_ N;let X:∀{f g:dU} {ρ:aQ} {ω z:aH},aD f bZ ρ ω=.ok (.nx ρ) z->aD f g ρ ω=g ρ z:=λ{f g ρ ω z} h=>by
  unfold aD at h⊢;cases q:f ρ ω with
  |bad=>rw[q]at h;ext h
  |er x o=>rw[q]at h;ext h
  |ok fl o=>
   rw[q]at h;cases fl with
   |nx r=>ext h;rfl
   |_=>ext h
 show X B
end
section
variable{b:Bd}(Z:VB b){s:WW}{sn:Sn}{ps:bb (Nat×Mn)}{J:aH}{ρ:aQ}{i:Nat}{Y:aH}{p:WW×Sn}{k:Nat}{a:Mn}{X:bb Nat}{g:Int}{w:bg (Nat×Int)}
include Z
omit Z in
theorem yO(h:SA b s)(f:s.wt=lD):SW b s:=⟨h,λ_ _ _ e=>by rw[f]at e;cases e⟩
def OH(y:SA b p.1)(M:p.1.wt=lD)(F:(k:Int)<b.n)(d:p.1.ac k=lD):SW b (zN b p k).1:=by
 let(H,G):=sY Z y;let(f,A):=sJ Z H G F;let O:zN b p k=si b (iO p.1.ac p.1.oc) (dI p.1 (look b (iO p.1.ac p.1.oc) k),p.2) k (look b (iO p.1.ac p.1.oc) k):=W;rw[O];generalize iO p.1.ac p.1.oc=L at f A H G;generalize look b L k=m at f A;let v:=yT p.1 m;let j:SA b (dI p.1 m):=yt y;let l:=v.2.trans M;let u:(dI p.1 m).ac k=lD:=by rw[v.1];show d
 generalize dI p.1 m=s2 at j l u;let S:=Z.w1;let B:[k].Nodup:=Wh.mpr #[Wa,Y1];let C:∀x∈[k],(x:Int)<b.n:=λx t=>by simp_all
 let E:∀x∈[k],s2.ac x=lD:=λx t=>by simp_all
 let cm:∀m,VA b.ls.length m->SW b (eC (s2,p.2) k m).1:=λm I=>yO (j.cm F I) l;cases m with
 |below=>simp_all
 |Yu c n=>show#[#[j.ac,j.oc],λ_ _ _ e=>?_];ext e;show#[#[by simp,B,C,E,Y7 _,λR K e=>by ext e;show#[f.1,f.2,W],λe=>by ext e],by ext]
 |Vk c=>
  show SW b (if(decide (L=0)&& !(dB b [k]).isEmpty)=UJ then({s2 with wt:=cL ([k],0,lD)},p.2)else eC (s2,p.2) k (.Vk c)).1;split
  .rename_i q
   show#[#[j.ac,j.oc],λ_ _ _ e=>?_];ext e;show#[#[by simp,B,C,E,Y7 _,λR K e=>(by ext e),λ_ x t=>?_],by ext];let T:=(UH _ _▸q:_/\_).2;cases qo:dB b [k]with
   |nil=>simp_all
   |cons c r=>
    let N:c∈dB b [k]:=by simp_all
    let(Q,P):=Wg.mp N;show(Z.vc c Q).2.2.1 x (a6 (V9.mp P x t))
  .show cm _ f
 |WN n=>show cm _ f
 |none=>show cm _ trivial
 |once n=>let h:=cm .none trivial;show#[#[h.sa.ac,λo e=>by ext e;show f],λX g w e=>by let e:s2.wt=cL (X,g,w):=e;simp_all]
theorem SW.wd(h:SW b s):WD b s:=λX g w e=>(h.wt X g w e).1
omit Z in
theorem xE(e:bb (Nat×Mn)):∀{p:WW×Sn},p.1.ac k=lD->k∉e.map (·.1)->(gG p e).1.ac k=lD:=by
 induction e with
 |nil=>exact λh _=>h
 |cons q r f=>intro p h hn;rw[U5,Vh,not_or]at hn;exact f (p:=eC p q.1 q.2) ((eF hn.1).trans h) hn.2
omit Z in
theorem xZ(ha:p.1.ac k=lD)(hn:yR p.1.wt k=UL):(bH b p).1.ac k=lD:=by
 unfold bH;split
 .exact ha
 .rename_i X g w q;refine xE _ (p:=({p.1 with wt:=lD},p.2)) ha λz=>?_;rw[q]at hn;obtain⟨x,e,rfl⟩:=Vl.mp z;exact of_decide_eq_false hn (Xo e).1
def Dy(e:SW b p.1)(f:(k:Int)<b.n):SW b (gH b p k).1:=by
 ext gH;split
 .show e
 .rename_i q
  rw[Wi,not_or]at q;let l:p.1.ac k=P:=by simp_all
  let j:yR p.1.wt k=R:=by simp_all
  split
  .rename_i h;let(X,g,e1,e2,e3,e4):=tK Z e f l j h;show HM Z e e1 e3 e4
  .let d:=dM Z e.sa (SW.wd Z e);show OH Z d.1.sa d.2.1 f (xZ l j)
def Ck(h:HS b p Y)(f:SW b p.1)(B:(k:Int)<b.n)(O:p.2.length<800):∃c,gr [.rf 0,.fz (nd k)] Y=.ok (.fz .none) c/\HS b (gH b p k) c:=by
 let P:=Z.n5;let A:k<5:=by ext
 let N:BN (a9 (qO R (ag (aa 1)) (aP "Hand" "acts" (ar 0)))) (a9 (aG "Hand" "is_waiting" bR 2 (ar 0) (aj (ag (aa 1)) aK))) [cL (.rf 0),-(nd k)] Y=.ok ((p.1.ac k).isSome||yR p.1.wt k) Y:=by
  let K:=bA (ρ:=[cL (.rf 0),-(nd k)]) (i:=0) (m:= "is_waiting") (fa:=aj (ag (aa 1)) aK) h (by rfl) W (aq (ah (af W)) aI) W (Cf h);let(ps,J,y,rfl):=h
  let t:qO R (ag (aa 1)) (aP "Hand" "acts" (ar 0)) [cL (.rf 0),-(nd k)] (dG b p.1 p.2 ps J)=.ok (.fz (.bool (p.1.ac k).isSome)) (dG b p.1 p.2 ps J):=
   (wG (ah (af W)) (gl W) W W).trans (by rw[show iJ (ps.map ja) (.inl (k:Int))=_ from kU y A];simp_all)
  cases q:(p.1.ac k).isSome with
  |true=>rw[q]at t;rw[YE];show oO (aN t)
  |false=>rw[q]at t;rw[Zj];show lC (aN t) (aN K)
 show hJ W (uB N (λq=>?_) λq=>kW ?_)
 .ext gH;rw[ax q];show sQ #[W,h]
 rw[abL]at q;let T:p.1.ac k=lD:=by simp_all
 let M:gH b p k=if Ai b p.1 k=S then oK b p k else zN b (bH b p) k:=by ext gH;simp_all
 rw[M];let(u,I,l):=Ml Z h f B q.2;show uB (aN (bA h (by rfl) W (aq (ah (af W)) aI) W I)) (λo=>?_) λo=>kW ?_
 .rw[ax o];let(X,g,e1,e2,e3,e4):=tK Z f B T q.2 o;let(e,C,j):=GN Z l f e1 e3 (f.wt _ _ _ e1).1 ();show OD (jH (bA l (by rfl) W (aq (ah (af W)) aI) W C) (sQ #[W,j]))
 .rw[a3 (by rw[o];simp)]
  let d:=dM Z f.sa (SW.wd Z f);let F:∀e,HS b (bH b p) e->X2 (br (aG "Hand" "begin" eT 2 (ar 0) (aj (ag (aa 1)) aK)) [cL (.rf 0),-(nd k)] e) (λ_ c=>SV.fz .none=.fz .none/\HS b (zN b (bH b p) k) c) (λ_ _=>False) (λr c=>r=.fz .none/\HS b (zN b (bH b p) k) c):=λe j=>by let(G,L,v):=MM Z j d.1.sa d.2.1 B ();show gQ (bA j (by rfl) W (aq (ah (af W)) aI) W L) #[W,v]
  cases n:p.1.wt with
  |none=>
   let Q:bH b p=p:=by ext bH;rw[n]
   let e1:i6 (ib p.1.wt) .none=-(.bool R):=by rw[n];rfl
   let E:=F u (by simp_all);let(ps,J,y,rfl):=l;show oS (aN (df (bj W) (ah aA) (b8 e1))) (kW E)
  |some x=>
   let(X,g,w):=x;let e1:i6 (ib p.1.wt) .none=-(.bool S):=by rw[n];rfl
   let(e,C,j):=jA Z l f.sa n (f.wt _ _ _ n).1 ();let H:=bA (ρ:=[cL (.rf 0),-(nd k)]) (i:=0) (m:= "decide") l (by rfl) W aI W C;let(ps,J,y,rfl):=l;show tO (aN (df (bj W) (ah aA) (b8 e1))) (jH H (F e j))
def jF(e:SW b p.1)(f:yR p.1.wt k=S):SW b (bp b p k).1/\(bp b p k).2.length<=p.2.length+5:=by
 ext bp;split
 .let d:=dM Z e.sa (SW.wd Z e);simp_all
 .rename_i X g c n q
  let v:=(e.wt _ _ _ q).1;rw[q]at f;let h:=v.kn k (a6 f);let j:=(v.tp c n W).1;show#[yO (SA.cm #[e.sa.ac,e.sa.oc] h j) W,?_];let:=lx (p:=({p.1 with wt:=P},p.2)) (k:=k) (a:=.Vk c)
  grind
 simp_all
def fF(j:HS b p Y)(e:SW b p.1)(f:yR p.1.wt k=S)(H:p.2.length<800):∃d,fO [.rf 0,.fz (nd k)] Y=.ok (.fz .none) d/\HS b (bp b p k) d:=by
 let K:=Z.n5;cases q:p.1.wt with
 |none=>rw[q]at f;ext f
 |some x=>
  let(X,g,w):=x;let v:=(e.wt _ _ _ q).1;let o:k∈X:=by rw[q]at f;show a6 f
  let e2:aR (ib p.1.wt) (.int 2)=-(qj w):=by rw[q];show p7
  let F:=(xI λc n h=>(v.tp c n h).1).1;let u:∀{Y:aH},bh (az (ay cH (aa 2) (pC (.tuple [.str "chord"])))) [M (.rf 0),-(nd k),-(qj w)] Y=.ok w.isNone Y:=aX (a8 (aB (af W) aA W W F) W);cases w with
  |none=>
   let es:bp b p k=bH b p:=by ext bp;rw[q]
   rw[es];let(l,r,t):=jA Z j e.sa q v ();let B:=bA (ρ:=[M (.rf 0),-(nd k),-(qj P)]) (i:=0) (m:= "decide") j (by left) W aI W r;let(ps,J,y,rfl):=j;show hJ W (iB (cN (bj W) (ah aA) e2) W (nU u (gQ B #[W,t])))
  |some G=>
   let(c,n):=G;let es:bp b p k=eC ({p.1 with wt:=P},p.2) k (.Vk c):=by ext bp;rw[q]
   rw[es];let E:=(v.tp c n W).1;let I:=v.kn k o;let(ps,J,y,rfl):=j;let A:HS b ({p.1 with wt:=P},p.2) (dG b {p.1 with wt:=P} p.2 ps J):=#[ps,J,y,W];let(l,r,t):=nO (k:=k) (a:=.Vk c) A (SA.ak Z #[e.sa.ac,e.sa.oc]) E () (show p.2.length<1000 by ext);let C:aR (qj (M (c,n))) (.int 1)=-(.str (cT c)):=iC;show hJ W (iB (cN (bj W) (ah aA) e2) W (dL u (yH (jE P W (ah aA)) (gQ (bA A (by left) W (aq (ah (af W)) (aq (ah (bG (ai aA (ai (aB (af W) aA W W C) av)) W (UN W))) aI)) W r) #[W,t]))))
omit Z in
theorem K5(f:SW b p.1):SW b (go p k).1:=by
 refine⟨f.sa.gg,?_⟩;unfold go;split
 .intro X g w e;obtain⟨v,j⟩:=f.wt X g w e;exact⟨⟨v.ne,v.nd,v.kn,λx h=>by
   by_cases z:x=k
   .rw[z];exact dc
   .exact(eF z).trans (v.kf x h),v.g0,v.tp,v.ch⟩,j⟩
 .exact f.wt
def Iw(e:SW b p.1):SW b (kN b p k).1:=by
 ext kN;split
 .rename_i q;show K5 (jF Z e q).1
 .show K5 e
def G6(e:HS b p Y)(h:SW b p.1)(F:(k:Int)<b.n)(v:p.2.length<700):∃c,gY [.rf 0,.fz (nd k)] Y=.ok (.fz .none) c/\HS b (kN b p k) c:=by
 let G:=Z.n5;let j:k<5:=by ext
 let f:∀{p:WW×Sn} {Y:aH},HS b p Y->SW b p.1->p.2.length<800->X2 (bV (a9 (qO R (ag (aa 1)) (aP "Hand" "acts" (ar 0)))) (br (aG "Hand" "go" iw 2 (ar 0) (aj (ag (aa 1)) aK))) bZ [M (.rf 0),-(nd k)] Y) (λ_ c=>SV.fz .none=.fz .none/\HS b (go p k) c) (λ_ _=>False) (λr c=>r=.fz .none/\HS b (go p k) c):=λ{p Y} e h v=>by
  cases n:p.1.ac k with
  |none=>
   let B:go p k=p:=by ext go;rw[n]
   rw[B];let(ps,J,l,rfl):=e;show dL (aN ((wG (ah (af W)) (gl W) W W).trans (by rw[show iJ (ps.map ja) (.inl (k:Int))=_ from kU l j,n];rfl))) (jM #[W,ps,J,l,W])
  |some a=>let(o,y,C):=QZ e (h.sa.ak Z) n ();let u:=bA (ρ:=[M (.rf 0),-(nd k)]) (i:=0) (m:= "go") (fa:=aj (ag (aa 1)) aK) e (by rfl) W (aq (ah (af W)) aI) W y;let(ps,J,l,rfl):=e;show nU (aN ((wG (ah (af W)) (gl W) W W).trans (by rw[show iJ (ps.map ja) (.inl (k:Int))=_ from kU l j,n];rfl))) (gQ u #[W,C])
 show hJ W (uB (aN (bA e (by rfl) W (aq (ah (af W)) aI) W (Cf e))) (λq=>?_) λq=>?_)
 .ext kN;rw[ax q];let(t,A,E):=fF Z e h q ();let z:=jF Z h q;show jH (bA e (by rfl) W (aq (ah (af W)) aI) W A) (f E z.1 ())
 .ext kN;rw[a3 (by rw[q];simp)];show kW (f e h ())
def HW(f:SW b p.1):SW b (gb b p).1:=by
 ext gb;split
 .show f
 .rename_i X g w q
  let(v,l):=f.wt X g w q;let j:WV b p.1.ac X (g+1) w:=#[v.ne,v.nd,v.kn,v.kf,by let:=v.g0;ext,v.tp,v.ch];split
  .show(dM Z (p:=({p.1 with wt:=M (X,g+1,w)},p.2)) #[f.sa.ac,f.sa.oc] λ_ _ _ e=>by simp_all).1
  .rename_i h;show#[#[f.sa.ac,f.sa.oc],λ_ _ _ e=>by ext e;show#[j,by ext]]
def Kh(n:HS b p Y)(e:SW b p.1)(t:p.2.length<800):∃c,eU [.rf 0] Y=.ok (.fz .none) c/\HS b (gb b p) c:=by
 let(ps,J,j,rfl):=n;cases q:p.1.wt with
 |none=>
  let f:gb b p=p:=by ext gb;rw[q]
  rw[f];let e1:qG (ib p.1.wt) .none=-(.bool S):=by rw[q];rfl
  show hJ W (tO (aN (df (bj W) (ah aA) (b8 e1))) (sQ #[W,ps,J,j,W]))
 |some x=>
  let(X,g,w):=x;let v:=(e.wt _ _ _ q).1;let m:WV b p.1.ac X (g+1) w:=#[v.ne,v.nd,v.kn,v.kf,by let:=v.g0;ext,v.tp,v.ch];let f:gb b p=if g+1=b.wt then bH b ({p.1 with wt:=M (X,g+1,w)},p.2)else({p.1 with wt:=M (X,g+1,w)},p.2):=by ext gb;rw[q]
  rw[f];let e1:qG (ib p.1.wt) .none=-(.bool R):=by rw[q];rfl
  let e0:aR (ib p.1.wt) (.int 0)=-(.tuple (aO X)):=by rw[q];show g7
  let e2:aR (ib p.1.wt) (.int 2)=-(qj w):=by rw[q];show p7
  let e3:aR (ib p.1.wt) (.int 1)=-(.int g):=by rw[q];show iC
  let e4:aR (bD b) (.int 3)=-(.int b.wt):=Lq W;let h:HS b ({p.1 with wt:=M (X,g+1,w)},p.2) (dG b {p.1 with wt:=M (X,g+1,w)} p.2 ps J):=#[ps,J,j,W];show hJ W (oS (aN (df (bj W) (ah aA) (b8 e1))) (kW (iB (df (cN (bj W) (ah aA) e3) (ah aA) (b8 (gC _ _))) W (yH (jE (M (X,g+1,w)) W (sf (aq (cN (bj W) (ah aA) e0) (aq (ah (af W)) (aq (cN (bj W) (ah aA) e2) aI))) (UN W))) (vB (aN (df (ah (af W)) (cN (lW W) (ah aA) e4) (b8 (lf _ _)))) (λz=>?_) λz=>?_)))))
  .rw[ax (a6 z)];let(l,o,r):=jA Z h #[e.sa.ac,e.sa.oc] W m (show p.2.length<900 by ext);show gQ (bA h (by rfl) W aI W o) #[W,r]
  .rw[a3 (of_decide_eq_false z)];show jM #[W,h]
def YB.acL:YB->Bool
 |.turn=>S
 |_=>R
def YB.isDown:YB->Bool
 |.down _=>S
 |_=>R
def EV(b:Bd):YB->Prop
 |.down k=>(k:Int)<b.n
 |.up k=>(k:Int)<b.n
 |.turn=>True
def nJ(f:SW b s)(h:EV b e):SW b (bq b s e).1:=by
 cases e with
 |down k=>show Dy Z f h
 |up k=>show Iw Z f
 |turn=>show HW Z f
omit Z in
theorem qY:∀l:bb (Nat×Mn),aF om (l.map pD)=cL (l.map ja)
 |[]=>rfl
 |q::r=>by rw[U5];unfold aF;rw[qY r];rfl
omit Z in
theorem wb:∀(l acc:bb (Nat×Mn)),((acc++l).map (·.1)).Nodup->ky (acc.map ja) (l.map ja)=(acc++l).map ja
 |[],acc,_=>by rw[VR];rfl
 |q::r,acc,h=>by
  have hn:∀x∈acc,x.1≠q.1:=λx f e=>by rw[Vm,Xy]at h;exact h.2.2 _ (Vl.mpr ⟨x,f,rfl⟩) q.1 UT e
  have e1:iW (acc.map ja) (ja q).1 (ja q).2=(acc++[q]).map ja:=by
   unfold iW;rw[a3 ?_,Vm]
   .rfl
   .intro z;obtain⟨o,n,m⟩:=ZO.mp z;obtain⟨x,j,rfl⟩:=Vl.mp n;have:=Sum.inl.inj (a6 m);exact hn x j (by ext)
  show ky (iW (acc.map ja) (ja q).1 (ja q).2) (r.map ja)=_;rw[e1,wb r (acc++[q]) (by rw[Vy];exact h),Vy];rfl
omit Z in
theorem Hq:dg [.rf 0,.fz (bD b),.fz (dX s)] [.obj "Hand" []]=.ok (.fz .none) (dG b s [] (fJ s.ac) []):=by
 have e0:aR (dX s) (.int 0)=-(.tuple ((fJ s.ac).map pD)):=g7;have e1:aR (dX s) (.int 1)=-(ib s.wt):=iC;have e2:aR (dX s) (.int 2)=-(ng s.oc):=p7;have v:gy "bed" (.fz (bD b)) []=([("bed",.fz (bD b))]:bb (Str×SV)):=rfl;have q:gy "acts" (.rf 1) ([("bed",.fz (bD b))]:bb (Str×SV))=([("bed",.fz (bD b)),("acts",.rf 1)]:bb (Str×SV)):=by unfold gy;rw[a3 (by left)];rfl
 have o:gy "waiting" (.fz (ib s.wt)) ([("bed",.fz (bD b)),("acts",.rf 1)]:bb (Str×SV))=([("bed",.fz (bD b)),("acts",.rf 1),("waiting",.fz (ib s.wt))]:bb (Str×SV)):=by unfold gy;rw[a3 (by left)];unfold gy;rw[a3 (by left)];rfl
 have n:gy "once" (.fz (ng s.oc)) ([("bed",.fz (bD b)),("acts",.rf 1),("waiting",.fz (ib s.wt))]:bb (Str×SV))=([("bed",.fz (bD b)),("acts",.rf 1),("waiting",.fz (ib s.wt)),("once",.fz (ng s.oc))]:bb (Str×SV)):=by unfold gy;rw[a3 (by left)];unfold gy;rw[a3 (by left)];unfold gy;rw[a3 (by left)];rfl
 have m:gy "sent" (.rf 2) ([("bed",.fz (bD b)),("acts",.rf 1),("waiting",.fz (ib s.wt)),("once",.fz (ng s.oc))]:bb (Str×SV))=G7 b s:=by unfold gy;rw[a3 (by left)];unfold gy;rw[a3 (by left)];unfold gy;rw[a3 (by left)];unfold gy;rw[a3 (by left)];rfl
 have r:ky [] ((fJ s.ac).map ja)=(fJ s.ac).map ja:=wb (fJ s.ac) [] (oV s.ac);have j:∀{x:SV} {ρ:aQ} {fs:bb (Str×SV)} {Y:aH} {l:dj} {f:Str} {c:Cell} {e:aH},ρ[0]?=cL (cL (.rf 0))->l ρ Y=.ok x (.obj "Hand" fs::e)->fs.length<100->eJ "Hand" f (ar 0) l ρ Y=.ok (.nx ρ) (.obj "Hand" (gy f x fs)::e):=λh u t=>(l7 u (bF h) rfl t).trans rfl
 have ha:rP (ag (ay aR (aa 2) (~~~0))) [cL (.rf 0),-(bD b),-(dX s)] [.obj "Hand" ([("bed",.fz (bD b))]:bb (Str×SV))]=.ok (.rf 1) [.obj "Hand" ([("bed",.fz (bD b))]:bb (Str×SV)),.Zo ((fJ s.ac).map ja)]:=
  (Jg (ah (d:=.tuple ((fJ s.ac).map pD)) (aB (rv:=.fz (.tuple ((fJ s.ac).map pD))) (af rfl) aA rfl rfl e0)) (qY _)).trans (by rw[r];rfl)
 refine lz (ρ:=[cL (.rf 0),-(bD b),-(dX s)]) (ρ1:=[cL (.rf 0),-(bD b),-(dX s)]) rfl (cg (j rfl (c:=.dead) (ah (d:=bD b) (af rfl)) (UN rfl)) (cg (j rfl (c:=.dead) ha (UN rfl)) (cg (j rfl (c:=.dead) (ah (d:=ib s.wt) (aB (rv:=.fz (ib s.wt)) (af rfl) aA rfl rfl e1)) (UN rfl)) (cg (j rfl (c:=.dead) (ah (d:=ng s.oc) (aB (rv:=.fz (ng s.oc)) (af rfl) aA rfl rfl e2)) (UN rfl)) ?_))));rw[q,o,n];refine(j (fs:=([("bed",.fz (bD b)),("acts",.rf 1),("waiting",.fz (ib s.wt)),("once",.fz (ng s.oc))]:bb (Str×SV))) rfl (c:=.dead) (dH (ds:=[]) (kr av rfl (Vu _))) (UN rfl)).trans ?_;show RS.ok _ (Cell.obj "Hand" (gy "sent" (.rf 2) ([("bed",.fz (bD b)),("acts",.rf 1),("waiting",.fz (ib s.wt)),("once",.fz (ng s.oc))]:bb (Str×SV)))::_)=_;rw[m];rfl
omit Z in
theorem IQ(e:YB):∃x:Str,aR (bU e) (.int 0)=-(.str x)/\cH (.str x) (.str "turn")=-(.bool (e.acL))/\cH (.str x) (.str "down")=-(.bool (e.isDown)):=by
 have h:UM.strOk "down"=UJ:=by left
 have j:UM.strOk "up"=UJ:=by left
 have f:UM.strOk "turn"=UJ:=by left
 cases e with
 |down k=>exact⟨"down",g7,zQ h f (by left),Li h⟩
 |up k=>exact⟨"up",g7,zQ j f (by left),zQ j h (by left)⟩
 |turn=>exact⟨"turn",g7,Li f,zQ f h (by left)⟩
def Jh(q:SW b s)(y:EV b e):∃c,ka [.fz (bD b),.fz (dX s),.fz (bU e)] []=.ok (.tp [.rf 2,.fz (dX (bq b s e).1)]) c/\sh c (.rf 2)=M (.list ((bq b s e).2.map jX)):=by
 let f:HS b (s,[]) (dG b s [] (fJ s.ac) []):=#[fJ s.ac,[],.refl _,W];let(x,u,B,A):=IQ e;let o:∀{Y:aH},bh (az (ay cH (ay aR (aa 2) (~~~0)) (pC (.str "turn")))) [-(bD b),-(dX s),-(bU e),M (.rf 0)] Y=.ok (e.acL) Y:=aX (a8 (aB (aB (af W) aA W W u) aA W W B) W);let v:∀{Y:aH},bh (az (ay cH (ay aR (aa 2) (~~~0)) (pC (.str "down")))) [-(bD b),-(dX s),-(bU e),M (.rf 0)] Y=.ok (e.isDown) Y:=aX (a8 (aB (aB (af W) aA W W u) aA W W A) W);let l:∀{Y:aH},HS b (bq b s e) Y->X2 (gJ (kR (aj (aP "Hand" "sent" (ar 3)) (aj (aG "Hand" "stands" bv 1 (ar 3) aK) aK))) [-(bD b),-(dX s),-(bU e),M (.rf 0)] Y) (λ_ c=>SV.fz .none=.tp [.rf 2,.fz (dX (bq b s e).1)]/\sh c (.rf 2)=M (.list ((bq b s e).2.map jX))) (λ_ _=>False) (λr c=>r=.tp [.rf 2,.fz (dX (bq b s e).1)]/\sh c (.rf 2)=M (.list ((bq b s e).2.map jX))):=λ{Y} L=>by let(h,j,n):=mi L;let m:=bA (ρ:=[-(bD b),-(dX s),-(bU e),M (.rf 0)]) (i:=3) (m:= "stands") L (by rfl) W aI W j;let(ps,J,G,rfl):=L;let(E,H,F,rfl):=n;show Po (QF (aq (sB W) (aq m aI)) (UN W) W W) #[W,hW W]
 let C:qk "Hand" dg 3 (aj (ag (aa 0)) (aj (ag (aa 1)) aK)) [-(bD b),-(dX s),-(bU e),P] []=.ok (.rf 0) (dG b s [] (fJ s.ac) []):=OM (aq (ah (af W)) (aq (ah (af W)) aI)) W Hq;show hJ W (iB C W ?_);cases e with
 |turn=>let(h,j,n):=Kh Z f q (show 0<800 by decide);show tO o (jH (bA f (by rfl) W aI W j) (l n))
 |down k=>let(h,j,n):=Ck Z f q y (show 0<800 by decide);let t:aR (bU (.down k)) (.int 1)=-(nd k):=iC;show oS o (tO v (jH (bA f (by rfl) W (aq (ah (aB (af W) aA W W t)) aI) W j) (l n)))
 |up k=>let(h,j,n):=G6 Z f q y (show 0<700 by decide);let t:aR (bU (.up k)) (.int 1)=-(nd k):=iC;show oS o (oS v (jH (bA f (by rfl) W (aq (ah (aB (af W) aA W W t)) aI) W j) (l n)))
def Q2{e:YB}(h:SW b s)(l:EV b e):rK ka 3 [.fz (bD b),.fz (dX s),.fz (bU e)] Y=.ok (.tp [.rf Y.length,.fz (dX (bq b s e).1)]) (Y++[.lst (((bq b s e).2.map jX).map .fz)]):=by
 let(f,n,m):=Jh Z h l;ext rK;rw[ax (show([.fz (bD b),.fz (dX s),.fz (bU e)]:G SV).length=3 from rfl),show aF uY [.fz (bD b),.fz (dX s),.fz (bU e)]=M [bD b,dX s,bU e]from rfl];dsimp only;rw[show[bD b,dX s,bU e].map SV.fz=[.fz (bD b),.fz (dX s),.fz (bU e)]from rfl,n];show(match BO f Y.length [.rf 2,.fz (dX (bq b s e).1)]with
  |some (o,cs,q)=>if q.Nodup then RS.ok (SV.tp o) (Y++cs.map Ss)else .bad
  |none=>.bad)=_
 let j:BO f Y.length [.rf 2,.fz (dX (bq b s e).1)]=M ([.rf Y.length,.fz (dX (bq b s e).1)],[(bq b s e).2.map jX],[2]):=by ext BO;rw[m];rfl
 rw[j];dsimp only;rw[ax ()];rfl
end
def fx:WW:=#[λ_=>P,P,P]
theorem gS(b:Bd):SW b fx:=#[#[λk a e=>(by ext e),λo e=>(by ext e)],λf g w e=>(by ext e)]
theorem yU{α:Type}{f:α->D}:∀{l:G α},(∀a∈l,UM.canLay0 (f a)=S)->UM.canLayAll0 (l.map f)=S
 |[],_=>rfl
 |a::r,h=>by show(UM.canLay0 (f a)&&UM.canLayAll0 (r.map f))=S;rw[h a UT,yU λx b=>h x (UX _ b)];rfl
theorem tI{α:Type}{f:α->D}{n:Nat}:∀{l:G α},(∀a∈l,UM.depth (f a)<=n)->UM.depthAll (l.map f)<=n
 |[],_=>Vu _
 |a::r,h=>ahJ.mpr #[h a UT,tI λx b=>h x (UX _ b)]
def KJ{d:D}(b:UM.canLay0 d=S)(a:UM.depth d<=64):j4 d=S:=by ext j4;simp_all
def Px{d:D}(h:j4 d=S):UM.canLay0 d=S:=by unfold j4 at h;simp_all
def X5(sn:Sn):Prop:=∀q∈sn,q.1<26
def FL{b:Bd}{s:WW}(h:SW b s):j4 (dX s)=S:=by
 let l:UM.canLayAll0 ((fJ s.ac).map pD)=S:=yU λq j=>by show(S&&(UM.canLay0 (mD q.2)&&S))=S;rw[sI (h.sa.ac _ _ (ez.mp j).2).2.lb];rfl
 let p:∀m:Mn,UM.depth (mD m)<=1:=λm=>by ext m<;>show UN W
 let o:UM.depthAll ((fJ s.ac).map pD)<=2:=tI λq _=>by show max 0 (max (UM.depth (mD q.2)) 0)+1<=2;simp_all
 let i:UM.canLay0 (ib s.wt)=S/\UM.depth (ib s.wt)<=2:=by
  cases q:s.wt with
  |none=>show#[W,Vu _]
  |some x=>
   let(a,g,w):=x;let v:=(h.wt a g w q).1;constructor
   .show(UM.canLayAll0 (aO a)&&(S&&(UM.canLay0 (qj w)&&S)))=S
    rw[gK];cases w with
    |none=>show UM.canLay0 (.tuple [.str "chord"])&&S=S;left
    |some e=>let(c,n):=e;let lb:LB (.Yu c n):=(v.tp c n W).1;show(UM.canLay0 (mD (.Yu c n))&&S)=S;rw[sI lb];rfl
   .show max (UM.depthAll (aO a)+1) (max 0 (max (UM.depth (qj w)) 0))+1<=2
    rw[jB];cases w with
    |none=>show UN W
    |some e=>show UN W
 let f:UM.canLay0 (ng s.oc)=S/\UM.depth (ng s.oc)=0:=by cases s.oc<;>show#[W,W]
 show KJ ?_ ?_
 .show(UM.canLayAll0 ((fJ s.ac).map pD)&&(UM.canLay0 (ib s.wt)&&(UM.canLay0 (ng s.oc)&&S)))=S;simp_all
 .show max (UM.depthAll ((fJ s.ac).map pD)+1) (max (UM.depth (ib s.wt)) (max (UM.depth (ng s.oc)) 0))+1<=64;rw[f.2];let:=i.2;ext
section
variable{b:Bd}(Z:VB b){s:WW}{p:WW×Sn}{k:Nat}{a:Mn}
theorem X5.app{x y:Sn}(f:X5 x)(e:X5 y):X5 (x++y):=λq g=>(Vo.mp g).elim (f q) (e q)
def jI(h:X5 p.2)(d:LB a):X5 (eC p k a).2:=by
 show h.app λq e=>?_;cases a with
 |Vk c=>
  let e:q∈(if kq p.1.ac (.Vk c)=S then[]else[(c,S)]:Sn):=e;split at e
  .ext e
  .rw[U8.mp e];show d
 |_=>ext e
def Ci(e:G (Nat×Mn)):∀{p:WW×Sn},X5 p.2->(∀q∈e,LB q.2)->X5 (gG p e).2:=by
 induction e with
 |nil=>show λh _=>h
 |cons q r g=>show λh f=>g (jI h (f q UT)) λx i=>f x (UX _ i)
def LA(h:X5 p.2)(d:SA b p.1):X5 (go p k).2:=by
 ext go;split
 .rename_i a q
  let lb:=(d.ac k a q).2.lb;show h.app λx e=>?_;cases a with
  |Vk c=>
   let e:x∈(if kq (jz p.1.ac k P) (.Vk c)=S then[]else[(c,R)]:Sn):=e;split at e
   .ext e
   .rw[U8.mp e];show lb
  |_=>ext e
 .show h
include Z
def kS(h:X5 p.2)(i:WD b p.1):X5 (bH b p).2:=by
 ext bH;split
 .show h
 .rename_i e g w q;show Ci _ (p:=({p.1 with wt:=P},p.2)) h λx f=>(sG Z (i e g w q) x f).2.lb
def NK(h:X5 p.2)(f:SA b p.1)(i:(k:Int)<b.n):X5 (zN b p k).2:=by
 let(o,l):=sY Z f;let(e,g):=sJ Z (k:=k) o l i;let j:zN b p k=si b (iO p.1.ac p.1.oc) (dI p.1 (look b (iO p.1.ac p.1.oc) k),p.2) k (look b (iO p.1.ac p.1.oc) k):=W;rw[j];generalize look b (iO p.1.ac p.1.oc) k=m at e g;generalize iO p.1.ac p.1.oc=L at e;let lb:=e.lb;cases m with
 |Yu c n=>show h
 |Vk c=>
  show X5 (if(decide (L=0)&& !(dB b [k]).isEmpty)=S then({dI p.1 (.Vk c)with wt:=M ([k],0,P)},p.2)else eC (dI p.1 (.Vk c),p.2) k (.Vk c)).2;split
  .show h
  .show jI (p:=(dI p.1 (.Vk c),p.2)) h lb
 |WN n=>show jI (p:=(dI p.1 (.WN n),p.2)) h lb
 |once n=>show jI (p:=(dI p.1 (.once n),p.2)) (k:=k) (a:=.none) h trivial
 |none=>show jI (p:=(dI p.1 .none,p.2)) h lb
 |below=>simp_all
def yC{e:YB}(h:SW b s)(j:EV b e):X5 (bq b s e).2:=by
 let f:X5 []:=λq m=>by ext m
 cases e with
 |turn=>
  show X5 (gb b (s,[])).2;ext gb;split
  .show f
  .rename_i i g w q
   let v:=(h.wt i g w q).1;split
   .show kS Z (p:=({s with wt:=M (i,g+1,w)},[])) f λ_ _ _ e=>by ext e;show#[v.ne,v.nd,v.kn,v.kf,by let:=v.g0;ext,v.tp,v.ch]
   .show f
 |up k=>
  show X5 (kN b (s,[]) k).2;ext kN;split
  .rename_i q
   let z:=jF Z (p:=(s,[])) h q;show LA ?_ z.1.sa;ext bp;split
   .show kS Z (p:=(s,[])) f (SW.wd Z h)
   .rename_i c n e;let o:c<26:=((h.wt _ _ _ e).1.tp c n W).1;show jI (p:=({s with wt:=P},[])) f o
   .show f
  .show LA (p:=(s,[])) f h.sa
 |down k=>
  show X5 (gH b (s,[]) k).2;ext gH;split
  .show f
  .rename_i q
   rw[Wi,not_or]at q;let t:s.ac k=P:=by simp_all
   let r:yR s.wt k=R:=by simp_all
   split
   .rename_i l
    let(i,g,e1,e2,e3,e4):=tK Z (p:=(s,[])) h j t r l;let e1:s.wt=M (i,g,P):=e1;ext oK;dsimp only;rw[e1];dsimp only;split
    .show kS Z (p:=({s with wt:=M (i++[k],g,P)},[])) f λ_ _ _ e=>by ext e;show e3
    .show f
   .let d:=dM Z (p:=(s,[])) h.sa (SW.wd Z h);show NK Z (kS Z (p:=(s,[])) f (SW.wd Z h)) d.1.sa j
end
end STP
namespace K73
open PySem L2 L3 STP
def gU:FS:=(cX (LJ (az (ay MC (aa 1) (fw fu {aa 0}))) (ay aR (aa 0) (aa 1)) (~~~0)))
def b6:FN:=fy 2 gU
def gX:FS:=(aV (cb (ay cI (ay fq (ay ce (ay cI (aa 0) (~~~1000033)) (aa 1)) (ay ce (aa 1) (~~~521))) (~~~1000033)) (gN 3))
 (aV (cb (ay cI (ay ce (ay ce (ay fq (aa 3) (aa 3)) (ay ef (aa 0) (~~~1000033))) (ay fq (~~~7) (aa 1))) (~~~999983)) (gN 3))
 (cX (ay cI (ay ef (aa 3) (~~~3)) (aa 2)))))
def bf:FN:=fy 4 gX
def cQ:FS:=(aV (cb (ay i7 (pC (.str "abc")) (d8 bf 3 {aa 0,~~~5,~~~3})) (gN 3))
 (aV (cb (ay ce (~~~1) (d8 bf 3 {aa 0,~~~7,fw rq {~~~1,ay o0 (aa 2) (~~~1)}})) (gN 4))
 (aV (cb (d8 bf 3 {aa 0,~~~3,~~~8}) (gN 5))
 (aV (kC (i9 (az (ay wc (aa 1) (~~~0))) (az (ay wc (aa 5) (~~~5)))) (cX (aU {pC (.str "below")})) dQ)
 (aV (kC (i9 (az (ay wc (aa 2) (~~~1))) (az (ay cH (aa 5) (~~~3)))) (cX (aU {pC (.str "layer"),aa 4})) dQ)
 (aV (kC (i9 (az (ay wc (aa 2) (~~~1))) (az (ay cH (aa 5) (~~~4)))) (cX (aU {pC (.str "tap"),aa 3,aa 4})) dQ)
 (aV (kC (i9 (az (ay wc (aa 2) (~~~1))) (az (ay cH (aa 5) (~~~5)))) (cX (aU {pC (.str "once"),aa 4})) dQ)
 (cX (aU {pC (.str "letter"),aa 3})))))))))
def dR:FN:=fy 6 cQ
def fE:FS:=(aV (cb (d8 b6 2 {aa 0,~~~0}) (gN 2))
 (aV (cb (ay ce (~~~1) (d8 bf 3 {aa 2,~~~1,aa 1})) (gN 3))
 (aV (cb (ay ce (~~~1) (d8 bf 3 {aa 2,~~~2,~~~2})) (gN 4))
 (aV (cb (cU am) (gN 5))
 (aV (l8 (jf fP {aa 4}) (gN 6) (aV (cb (dC 1 [0,3,6] (jf fP {aa 3}) (gN 0) dW (d8 b6 2 {aa 1,ay ce (ay ce (~~~1) (ay fq (aa 2) (aa 3))) (aa 0)})) (gN 7))
 (iV (qI 5 (fw hV {dC 1 [6,4] (iX (aa 7)) (gN 0) dW (d8 dR 3 {aa 0,aa 1,aa 2})})))))
 (aV (cb (fw hV {dC 1 [5] (jf fP {aa 3}) (gN 0) (az (ay cH (ay aR (ay aR (ay aR (aa 1) (~~~0)) (aa 0)) (~~~0)) (pC (.str "letter")))) (aa 0)}) (gN 8))
 (aV (cb (aU am) (gN 9))
 (aV (kC (i9 (az (ay wc (fw fu {aa 8}) (~~~1))) (az (ay wc (d8 bf 3 {aa 2,~~~17,~~~3}) (~~~0)))) (cb (aU {aU {KP Sk (aa 8) vx (jY (~~~2)),ay i7 (pC (.str "abd")) (d8 bf 3 {aa 2,~~~19,~~~3})}}) (gN 9)) dQ)
 (cX (aU {aa 3,fw hV {aa 5},aa 9,ay ce (~~~1) (d8 bf 3 {aa 2,~~~23,~~~2})}))))))))))
def iE:FN:=fy 10 fE
def bE:FS:=(aV (cb (ay i7 (pC (.str "abcdefghijklmnopqrstuvwxyz")) (ay cI (ay ef (aa 0) (~~~7)) (~~~26))) (gN 3))
 (aV (cb (ay ce (~~~1) (ay cI (ay ef (aa 0) (~~~182)) (fw rq {~~~1,ay o0 (aa 2) (~~~1)}))) (gN 4))
 (aV (kC (i9 (az (ay cH (ay cI (aa 0) (~~~7)) (~~~1))) (az (ay wc (aa 1) (~~~0)))) (cX (aU {pC (.str "below")})) dQ)
 (aV (kC (az (ay cH (ay cI (aa 0) (~~~7)) (~~~2))) (cX (aU {pC (.str "none")})) dQ)
 (aV (kC (i9 (az (ay cH (ay cI (aa 0) (~~~7)) (~~~3))) (az (ay wc (aa 2) (~~~1)))) (cX (aU {pC (.str "layer"),aa 4})) dQ)
 (aV (kC (i9 (az (ay cH (ay cI (aa 0) (~~~7)) (~~~4))) (az (ay wc (aa 2) (~~~1)))) (cX (aU {pC (.str "tap"),aa 3,aa 4})) dQ)
 (aV (kC (i9 (az (ay cH (ay cI (aa 0) (~~~7)) (~~~5))) (az (ay wc (aa 2) (~~~1)))) (cX (aU {pC (.str "once"),aa 4})) dQ)
 (cX (aU {pC (.str "letter"),aa 3})))))))))
def cP:FN:=fy 5 bE
def cj:FS:=(aV (cb (ay ce (~~~1) (ay cI (aa 0) (aa 1))) (gN 4))
 (aV (cb (ay ce (~~~1) (ay cI (ay ef (aa 0) (aa 1)) (aa 2))) (gN 5))
 (aV (cb (ay ef (ay ef (aa 0) (aa 1)) (aa 2)) (gN 0))
 (aV (cb (ay ce (~~~1) (ay cI (aa 0) (aa 3))) (gN 6))
 (aV (cb (ay ef (aa 0) (aa 3)) (gN 0))
 (aV (cb (cU am) (gN 7))
 (aV (l8 (jf fP {aa 5}) (gN 8) (aV (cb (cU am) (gN 9))
 (aV (l8 (jf fP {aa 4}) (gN 10) (aV (iV (qI 9 (d8 cP 3 {ay cI (aa 0) (~~~364),aa 8,aa 5})))
 (cb (ay ef (aa 0) (~~~364)) (gN 0))))
 (iV (qI 7 (fw hV {aa 9}))))))
 (aV (cb (cU am) (gN 11))
 (aV (l8 (jf fP {~~~4}) (gN 12) (aV (cb (fw hV {dC 1 [0,7] (jf fP {aa 4}) (gN 0) (i9 (az (ay cH (ay qW (ay Bq (aa 1) (aa 0)) (~~~1)) (~~~1))) (az (ay cH (ay aR (ay aR (ay aR (aa 2) (~~~0)) (aa 0)) (~~~0)) (pC (.str "letter"))))) (aa 0)}) (gN 13))
 (aV (kC (i9 (az (ay wc (fw fu {aa 13}) (~~~1))) (az (ay mv (aa 13) (dC 1 [] (vq 11) (gN 0) dW (ay aR (aa 0) (~~~0)))))) (iV (qI 11 (aU {aa 13,ay i7 (pC (.str "abcdefghijklmnopqrstuvwxyz")) (ay cI (ay ef (aa 0) (~~~32)) (~~~26))}))) dQ)
 (cb (ay ef (aa 0) (~~~832)) (gN 0)))))
 (cX (aU {aa 4,fw hV {aa 7},fw hV {aa 11},aa 6})))))))))))
def eB:FN:=fy 14 cj
def bK:FS:=(aV (cb (cU am) (gN 2))
 (aV (cb (ay cI (aa 0) (~~~41)) (gN 3))
 (aV (cb (ay ef (aa 0) (~~~41)) (gN 0))
 (aV (l8 (jf fP {aa 3}) (gN 4) (aV (cb (ay cI (aa 0) (ay ce (ay fq (~~~2) (aa 1)) (~~~1))) (gN 5))
 (aV (cb (ay ef (aa 0) (ay ce (ay fq (~~~2) (aa 1)) (~~~1))) (gN 0))
 (iV (qI 2 (ay aR (cU {aU {pC (.str "down"),ay cI (aa 5) (aa 1)},aU {pC (.str "up"),ay cI (aa 5) (aa 1)},aU {pC (.str "turn"),~~~0}}) (ay ef (aa 5) (aa 1))))))))
 (cX (aa 2))))))
def cZ:FN:=fy 6 bK
def eK:FS:=(aV (cb (d8 bf 3 {aa 1,~~~139,ay ce (ay fq (~~~2) (ay aR (aa 0) (~~~0))) (~~~1)}) (gN 2))
 (cX (ay aR (cU {aU {pC (.str "down"),ay cI (aa 2) (ay aR (aa 0) (~~~0))},aU {pC (.str "up"),ay cI (aa 2) (ay aR (aa 0) (~~~0))},aU {pC (.str "turn"),~~~0}}) (ay ef (aa 2) (ay aR (aa 0) (~~~0))))))
def eW:FN:=fy 3 eK
def fW:FS:=(aV (cb (dC 1 [] (jf fP {ay aR (aa 0) (~~~0)}) (gN 0) dW (aU {pC (.str "down"),aa 0})) (gN 1))
 (aV (cb (dC 1 [] (jf fP {ay aR (aa 0) (~~~0)}) (gN 0) dW (aU {pC (.str "up"),aa 0})) (gN 2))
 (cX (ay ce (ay ce (aa 1) (aa 2)) (cU {aU {pC (.str "turn"),~~~0}})))))
def fS:FN:=fy 3 fW
def et:FS:=(aV (cb (PP ro (pC (.str "")) {dC 2 [] (iX (aa 2)) (gT 2 (Bg (gN 0) (Bg (gN 1) K8))) (az (ay cH (aa 1) (pC (.str "down")))) (aa 0)}) (gN 3))
 (aV (cb (ay ce (aa 1) (fw uq {aa 3})) (gN 4))
 (aV (kC (az (ay uj (KP nY (aa 0) (jY (aa 1)) (jY (aa 4))) (aa 3))) (cX (pC .none)) dQ)
 (cX (aa 4)))))
def fH:FN:=fy 5 et
end K73
namespace K73
open PySem L2 L3 L10 STP
def bN:dU:=(aD (bV (a9 (pB S (ag (aa 1)) (aP "Places" "numbers" (ar 0)))) (aD (bV (a9 (kI Sg (Gp fu (aj (aP "Places" "found" (ar 0)) aK)) (aP "Places" "most" (ar 0)))) (kY "TooMany" "most" (aP "Places" "most" (ar 0))) bZ)
 (aD (ot (aP "Places" "numbers" (ar 0)) (ag (aa 1)) (Gp fu (aj (aP "Places" "found" (ar 0)) aK)))
 (br (pz (aP "Places" "found" (ar 0)) (ag (aU {aa 1,aa 2,aa 3})))))) bZ)
 (gJ (jq (aP "Places" "numbers" (ar 0)) (ag (aa 1)))))
def bO:fT:=cE 4 bN
def bz:dU:=(aD (eJ "Places" "most" (ar 0) (ag (aa 2)))
 (aD (eJ "Places" "found" (ar 0) (ag (cU am)))
 (aD (eJ "Places" "numbers" (ar 0) tL)
 (br (mF "Places" "enter" bO 4 (ar 0) (aj (ag (aa 1)) (aj (ag (pC .none)) (aj (ag (pC .none)) aK))))))))
def cA:fT:=cE 3 bz
def dh:dU:=(aD (bW (ag (cU am)) (eY 2))
 (aD (bW (i7 (aP "Places" "found" (ar 0)) (ag (aa 1))) (eY 3))
 (aD (oz (bh (az (ay i6 (ay aR (aa 3) (~~~1)) (pC .none)))) (aD (br (pz (ar 2) (ag (ay aR (aa 3) (~~~2)))))
 (bW (i7 (aP "Places" "found" (ar 0)) (ag (ay aR (aa 3) (~~~1)))) (eY 3))))
 (gJ (vX (ar 2))))))
def cw:fT:=cE 4 dh
def fU:dU:=(aD (bW (jV (ag (d8 fS 1 {aa 0}))) (eY 3))
 (aD (bW (AC "Places" cA 3 (aj (ag (aU {pC (.tuple [(.tuple []),.none,.none]),~~~0})) (aj (ag (aa 2)) aK))) (eY 4))
 (aD (bW (ag (~~~0)) (eY 5))
 (aD (oz (a9 (kI MC (ag (aa 5)) (Gp fu (aj (aP "Places" "found" (ar 4)) aK)))) (aD (bW (i7 (i7 (aP "Places" "found" (ar 4)) (ag (aa 5))) (ag (~~~0))) (eY 6))
 (aD (sW (kZ (iX (aa 3))) (eY 7) (aD (bW (jV (pp STP.ka 3 (aj (ag (aa 0)) (aj (ag (ay aR (aa 6) (~~~0))) (aj (ag (aa 7)) aK))))) (eY 8))
 (aD (bW (ag (d8 fH 3 {aa 1,ay aR (aa 6) (~~~1),ay aR (aa 8) (~~~0)})) (eY 9))
 (bV (bh (az (ay i6 (aa 9) (pC .none)))) (br (mF "Places" "enter" bO 4 (ar 4) (aj (ag (aU {ay aR (aa 8) (~~~1),aa 9})) (aj (ag (aa 5)) (aj (ag (aa 7)) aK))))) bZ))))
 (AB 5 NN (ag (~~~1))))))
 (gJ (ar 4))))))
def fV:fT:=cE 10 fU
def lm:dU:=(aD (bW (vk fV 3 [] (aj (ag (aa 0)) (aj (ag (aa 1)) (aj (ag (aa 2)) aK)))) (eY 3))
 (aD (bW (ag (aU {pC (.tuple [(.tuple []),.none,.none]),fw uq {aa 1}})) (eY 4))
 (aD (bV (a9 (pB S (ag (aa 4)) (aP "Places" "numbers" (ar 3)))) (gJ (ag (pC .none))) bZ)
 (gJ (aG "Places" "way_to" cw 2 (ar 3) (aj (jq (aP "Places" "numbers" (ar 3)) (ag (aa 4))) aK))))))
def kX:fT:=cE 5 lm
def gf:dU:=(aD (bW (jV (oa kX 3 [(.int 400)] (aj (ag (aa 0)) (aj (ag (aa 1)) aK)))) (eY 3))
 (gJ (ag (AQ (ay i6 (aa 3) (pC .none)) (ay Ky (fw fu {aa 3}) (aa 2))))))
def gj:fT:=cE 4 gf
def uE:dU:=(aD (bW (ag (d8 iE 2 {aa 0,~~~2})) (eY 1))
 (aD (bW (jV (ag (dC 1 [1] (iX (KP Q1 (aa 0) (jY (~~~9)) (jY (~~~63)))) (gN 0) dW (d8 eW 2 {aa 1,aa 0})))) (eY 2))
 (aD (bV (bh (xn (az (kF Ky MC (~~~0) (d8 b6 2 {aa 0,~~~1}) (ay AI (~~~10) (~~~18)))))) (aD (bW (ag (d8 eB 4 {fw xY {d8 b6 2 {aa 0,~~~1}},~~~2,~~~2,~~~2})) (eY 1))
 (bW (jV (ag (d8 cZ 2 {fw xY {d8 b6 2 {aa 0,~~~2}},ay aR (aa 1) (~~~0)}))) (eY 2))) bZ)
 (aD (bW (jV (ag (ay ce (ay ce (aa 2) (dC 1 [] (jf fP {ay aR (aa 1) (~~~0)}) (gN 0) dW (aU {pC (.str "up"),aa 0}))) (ay fq (cU {aU {pC (.str "turn"),~~~0}}) (ay aR (aa 1) (~~~3)))))) (eY 2))
 (aD (bW (ag (aU {aU am,pC .none,pC .none})) (eY 3))
 (aD (bW (ag (pC (.str ""))) (eY 4))
 (aD (bW (ag (~~~0)) (eY 5))
 (aD (bW (ag (cU am)) (eY 6))
 (aD (sW (kZ (iX (aa 2))) (eY 7) (aD (bW (jV (pp STP.ka 3 (aj (ag (aa 1)) (aj (ag (aa 3)) (aj (ag (aa 7)) aK))))) (KF 2 (qA (eY 8) (qA (eY 9) Ax))))
 (aD (bW (ag (PP ro (pC (.str "")) {dC 2 [] (iX (aa 8)) (gT 2 (Bg (gN 0) (Bg (gN 1) K8))) (az (ay cH (aa 1) (pC (.str "down")))) (aa 0)})) (eY 10))
 (bV (bh (az (ay Ky (fw uq {ay xL (aa 4) (aa 10)}) (~~~3)))) (aD (bW (ag (aa 9)) (eY 3))
 (aD (bW (ag (ay xL (aa 4) (aa 10))) (eY 4))
 (aD (bW (ag (ay ce (aa 5) (~~~1))) (eY 5))
 (bV (jW (bh (az (ay cH (aa 3) (aU {aU am,pC .none,pC .none})))) (a9 (kI mv (ag (aa 4)) (ar 6)))) (aD (br (pz (ar 6) (ag (aa 4))))
 (bV (qE (a9 (uQ gj 3 (aj (ag (aa 1)) (aj (ag (aa 4)) (aj (ag (aa 5)) aK)))))) (gJ (ag (pC (.bool R)))) bZ)) bZ)))) bZ))))
 (gJ (ag (pC (.bool S)))))))))))))
def F_law:fT:=cE 11 uE
section
variable{T L:aQ}{N X Z Q:aH}{x y z:SV}{i:Nat}{d:D}{Y:bb (D×D)}
def FW(h:N[i]?=M (.dd Y)):qC N (.rf i)=M (i,Y):=by ext qC;dsimp only;rw[h]
def yl(a:o T N=.ok x X)(hd:fd T X=.ok (.rf i) Z)(e:mK x=M k)(b:Z[i]?=M (.dd Y)):pB neg o fd T N=.ok (.fz (.bool ((gW Y k).isSome !=neg))) Z:=by ext pB;rw[a,d0,hd,d0,e];show((RS.VO Z (qC Z (.rf i))).bind _)=_;rw[FW b];rfl
def uC(hd:fd T N=.ok (.rf i) X)(a:o T X=.ok x Z)(f:mK x=M k)(e:Z[i]?=M (.dd Y))(b:gW Y k=M d):jq fd o T N=.ok (.fz d) Z:=by ext jq;rw[hd,d0,a,d0,f];show((RS.VO Z (qC Z (.rf i))).bind _)=_;rw[FW e];show((RS.VO Z (gW Y k)).bind _)=_;rw[b];rfl
def D9(a:o T N=.ok (.fz d) X)(hd:fd T X=.ok (.rf i) Z)(e:C T Z=.ok x Q)(g:mK x=M k)(f:Q[i]?=M (.dd Y))(b:Y.length<1000000):ot fd C o T N=.ok (.nx T) (Q.set i (.dd (pT Y k d))):=by ext ot;rw[a,d0,hd,d0,e,d0,g];show((RS.VO Q (qC Q (.rf i))).bind _)=_;rw[FW f];show(if Y.length<1000000 then _ else _)=_;rw[ax b]
def HE(c:o T N=.ok xs X)(b:xs.length=n)(a:F xs X=.ok x Z):uQ F n o T N=.ok x Z:=by ext uQ;rw[c,d0,ax b,a,vG]
end
def A7{l r:aH}:(l++r)[l.length+t]?=r[t]? :=by rw[Vn (),Xu]
def IU{l r:aH}:(l++r).set (l.length+t) c=l++r.set t c:=by rw[List.set_append_right _ _ (),Xu]
structure Pl where
 p:D
 b:D
 e:D
def vY(q:Pl):D:=.tuple [q.p,q.b,q.e]
def gx:G Pl->D->I Nat
 |[],_=>P
 |q::r,p=>if UM.eqv q.p p=S then M 0 else(gx r p).map (·+1)
def hG:Nat->G Pl->G (D×D)
 |_,[]=>[]
 |k,q::r=>(q.p,nd k)::hG (k+1) r
theorem jg:∀(k:Nat) (fs:G Pl) (p:D),gW (hG k fs) p=(gx fs p).map λi=>nd (k+i)
 |_,[],_=>rfl
 |k,q::r,p=>by
  let a:=jg (k+1) r p;unfold gW at a⊢;unfold hG gx;rw[VG];cases UM.eqv q.p p with
  |true=>rfl
  |false=>dsimp only;rw[a,a3 Ve,Option.map_map];congr 1;funext i;show nd (k+1+i)=nd (k+(i+1));rw[Zp,abd 1 i]
theorem vM:∀(k:Nat) (fs:G Pl) (q:Pl),hG k (fs++[q])=hG k fs++[(q.p,nd (k+fs.length))]
 |k,[],q=>rfl
 |k,a::r,q=>by show(a.p,nd k)::hG (k+1) (r++[q])=(a.p,nd k)::(hG (k+1) r++[(q.p,nd (k+(r.length+1)))]);rw[vM (k+1) r q,Zp,abd 1 r.length]
theorem yG:∀(k:Nat) (fs:G Pl),(hG k fs).length=fs.length
 |_,[]=>rfl
 |k,q::r=>dt (·+1) (yG (k+1) r)
def JC(h:gx fs p=P):pT (hG 0 fs) p (nd fs.length)=hG 0 (fs++[#[p,b,e]]):=by
 let g:=jg 0 fs p;rw[h]at g;unfold gW at g;let f:((hG 0 fs).find? λa=>UM.eqv a.1 p)=P:=by
  cases q:(hG 0 fs).find? λa=>UM.eqv a.1 p with
  |none=>rfl
  |some x=>rw[q]at g;ext g
 ext pT;rw[f,vM,XB];rfl
def Eb(h:gx fs q.p=P)(f:UM.eqv q.p q.p=S):gx (fs++[q]) q.p=M fs.length:=by
 induction fs with
 |nil=>show(if UM.eqv q.p q.p=S then M 0 else _)=_;rw[ax f];rfl
 |cons a r b=>
  unfold gx at h;show(if UM.eqv a.p q.p=S then M 0 else(gx (r++[q]) q.p).map (·+1))=_;by_cases e:UM.eqv a.p q.p=S
  .rw[ax e]at h;ext h
  .rw[a3 e]at h⊢;rw[b (by cases k:gx r q.p with|none=>rfl|some _=>rw[k]at h;ext h)];rfl
def ug(h:LD.keyD p=S):UM.eqv p p=S:=by
 show ahK p (LD.kd_lay p ?_);cases p with
 |tuple xs=>unfold LD.keyD at h;rw[UH]at h;ext LD.kd;show h.1
 |_=>simp[LD.keyD]at h
def pF(m:Int)(j k:Nat):G (Str×SV):=[("most",.fz (.int m)),("found",.rf j),("numbers",.rf k)]
structure PSt(i j k:Nat)(m:Int)(fs:G Pl)(ω:aH):Prop where
 o:ω[i]?=M (.obj "Places" (pF m j k))
 f:ω[j]?=M (.lst ((fs.map vY).map .fz))
 n:ω[k]?=M (.dd (hG 0 fs))
 jk:j≠k
 ij:i≠j
 ik:i≠k
 lt:fs.length<100000
def qD(j k:Nat)(fs:G Pl)(a:aH):aH:=(a.set k (.dd (hG 0 fs))).set j (.lst ((fs.map vY).map .fz))
section
variable{i j k:Nat}{m:Int}{fs:bb Pl}{Y:aH}{p b e:D}
def PSt.ent(h:PSt i j k m fs Y)(l:fs.length+1<100000):PSt i j k m (fs++[q]) (qD j k (fs++[q]) Y):=by
 let g:=(UO.mp h.f).1;let a:=(UO.mp h.n).1;show#[?_,?_,?_,h.jk,h.ij,h.ik,by rw[US];show l]
 .ext qD;rw[VV (da h.ij),VV (da h.ik)];show h.o
 .ext qD;rw[We (by rw[V5];show g)]
 .ext qD;rw[VV h.jk,We a]
def Cw:(pF m j k).lookup ("most":Str)=-(.int m):=by rfl
def lS:(pF m j k).lookup ("found":Str)=M (.rf j):=by rfl
def mM:(pF m j k).lookup ("numbers":Str)=M (.rf k):=by rfl
def ri:(pF m j k).lookup ("enter":Str)=P:=by rfl
theorem uJ(a:LD.keyD p=S):mK (.fz p)=M p:=ax a
def rb(h:PSt i j k m fs Y)(hm:L9.Q7 (.int m)=S)(M:m<=1000)(E:LD.keyD p=S):bO [.rf i,.fz p,.fz b,.fz e] Y=(match gx fs p with
  |some t=>.ok (.fz (nd t)) Y
  |none=>if m<=(fs.length:Int)then .er #["TooMany",[("most",.int m)]] Y else .ok (.fz (nd fs.length)) (qD j k (fs++[#[p,b,e]]) Y)):=by
 let w:=uJ E;let A:∀{a:aH},a[i]?=cL (.obj "Places" (pF m j k))->aP "Places" "numbers" (ar 0) [cL (.rf i),-(p),-(b),-(e)] a=.ok (.rf k) a:=λz=>gI (bF W) z mM;let F:∀{a:aH},a[i]?=cL (.obj "Places" (pF m j k))->aP "Places" "found" (ar 0) [cL (.rf i),-(p),-(b),-(e)] a=.ok (.rf j) a:=λz=>gI (bF W) z lS;let B:∀{a:aH},a[i]?=cL (.obj "Places" (pF m j k))->aP "Places" "most" (ar 0) [cL (.rf i),-(p),-(b),-(e)] a=.ok (.fz (.int m)) a:=λz=>gI (bF W) z Cw;let u:∀{a:aH},ag (aa 1) [cL (.rf i),-(p),-(b),-(e)] a=.ok (.fz p) a:=ah (af W);let g:=yl (neg:=S) u (A h.o) w h.n;rw[jg]at g;let get:∀{l:bb Pl} {a:aH} {t:Nat},a[i]?=cL (.obj "Places" (pF m j k))->a[k]?=cL (.dd (hG 0 l))->gx l p=cL t->gJ (jq (aP "Places" "numbers" (ar 0)) (ag (aa 1))) [cL (.rf i),-(p),-(b),-(e)] a=.ok (.rt (.fz (nd t))) a:=λK J I=>by show gD (uC (A K) u w J ?_);rw[jg,I];show cL (nd (0+_))=_;rw[XB]
 let v:=Dx (aq (F h.o) aI) (by ext aF;rw[hW h.f];rfl) ((iu _).trans (by rw[UK]));cases q:gx fs p with
 |some t=>rw[q]at g;show hU W ?_;show cg (c9 (aN g) dF) (get h.o h.n q)
 |none=>
  rw[q]at g;dsimp only;by_cases r:m<=(fs.length:Int)
  .rw[ax r]
   let y:=aN (df v (B h.o) (b8 ((y0 _ _).trans (by rw[a4 r]))));show cE 4 bN _ _=_;ext cE;show((bN [cL (.rf i),-(p),-(b),-(e)] Y).bind _)=_;let e1:bN [cL (.rf i),-(p),-(b),-(e)] Y=.er #["TooMany",[("most",.int m)]] Y:=by ext bN;ext aD;rw[de (aN g) W,de y W,Am (B h.o) hm];rfl
   rw[e1];rfl
  .rw[a3 r]
   let y:=aN (df v (B h.o) (b8 ((y0 _ _).trans (by rw[a5 r]))));let C:=D9 v (A h.o) u w h.n (by rw[yG];let:=h.lt;ext);rw[JC q]at C;let L:(Y.set k (.dd (hG 0 (fs++[#[p,b,e]]))))[i]?=cL (.obj "Places" (pF m j k)):=(VV (da h.ik)).trans h.o;let G:(Y.set k (.dd (hG 0 (fs++[#[p,b,e]]))))[j]?=cL (.lst ((fs.map vY).map .fz)):=(VV (da h.jk)).trans h.f;let H:=sS (fe:=ag (aU {aa 1,aa 2,aa 3})) (x:=.fz (vY #[p,b,e])) (F L) G (ah (bG (ai (af W) (ai (af W) (ai (af W) av))) W (UN W))) G (by rw[UK,UK];let:=h.lt;ext);let es:(Y.set k (.dd (hG 0 (fs++[#[p,b,e]])))).set j (.lst ((fs.map vY).map SV.fz++[.fz (vY #[p,b,e])]))=qD j k (fs++[#[p,b,e]]) Y:=by ext qD;rw[Vm,Vm];rfl
   rw[es]at H;let P:=h.ent (q:=#[p,b,e]) ();show hU W ?_;show cg (de (aN g) (cg (c9 y dF) (cg C (gP H)))) (get P.o P.n (Eb q (ug E)))
end
def i8(a:aH)(m:Int)(fs:G Pl)(J:aH):aH:=a++(Cell.obj "Places" (pF m (a.length+1) (a.length+2)):: .lst ((fs.map vY).map .fz):: .dd (hG 0 fs)::J)
theorem wA(h:fs.length<100000):PSt o.length (o.length+1) (o.length+2) m fs (i8 o m fs a):=
 #[by let:=A7 (l:=o) (r:=Cell.obj "Places" (pF m (o.length+1) (o.length+2)):: .lst ((fs.map vY).map .fz):: .dd (hG 0 fs)::a) (t:=0);show this,A7,A7,by ext,by ext,by ext,h]
def yk:qD (o.length+1) (o.length+2) C (i8 o m fs a)=i8 o m C a:=by unfold qD i8;rw[IU,IU];rfl
def TM(m:Int):Xc:=#["TooMany",[("most",.int m)]]
def vE(a:0<=m)(h:m<=1000):L9.Q7 (.int m)=S:=by show a4 (acs (Nat.log2_le_self m.natAbs) ?_);ext
def EW(l:LD.keyD p=S)(j:0<=m)(f:m<=1000):cA [.rf o.length,.fz p,.fz (.int m)] (o++[.obj "Places" []])=if m<=0 then .er (TM m) (i8 o m [] [])else .ok (.fz .none) (i8 o m [#[p,.none,.none]] []):=by
 let i:eJ "Places" "most" (ar 0) (ag (aa 2)) [M (.rf o.length),-(p),-(.int m)] (o++[.obj "Places" []])=.ok (.nx [M (.rf o.length),-(p),-(.int m)]) (o++[.obj "Places" [("most",.fz (.int m))]]):=
  (l7 (ah (af W)) (bF W) aM ()).trans (by rw[eN];rfl)
 let h:eJ "Places" "found" (ar 0) (ag (cU am)) [M (.rf o.length),-(p),-(.int m)] (o++[.obj "Places" [("most",.fz (.int m))]])=.ok (.nx [M (.rf o.length),-(p),-(.int m)]) (o++[.obj "Places" [("most",.fz (.int m)),("found",.rf (o.length+1))],.lst []]):=by show(l7 (dH (by ext:0)) (bF W) (by rw[Vy];show A7 (t:=0)) (UN W)).trans ?_;rw[Vy,show o.length=o.length+0 from rfl,IU,US];rfl
 let g:eJ "Places" "numbers" (ar 0) tL [M (.rf o.length),-(p),-(.int m)] (o++[.obj "Places" [("most",.fz (.int m)),("found",.rf (o.length+1))],.lst []])=.ok (.nx [M (.rf o.length),-(p),-(.int m)]) (i8 o m [] []):=by show(l7 W (bF W) (by rw[Vy];show A7 (t:=0)) (UN W)).trans ?_;rw[Vy,show o.length=o.length+0 from rfl,IU,US];rfl
 let P:PSt o.length (o.length+1) (o.length+2) m [] (i8 o m [] []):=wA ();let n:=rb (b:=.none) (e:=.none) P (vE j f) f l;let a:=yS (F:=bO) (fo:=ar 0) (fa:=aj (ag (aa 1)) (aj (ag (pC .none)) (aj (ag (pC .none)) aK))) (ρ:=[M (.rf o.length),-(p),-(.int m)]) (bF W) P.o ri (aq (ah (af W)) (aq (ah aA) (aq (ah aA) aI))) W;rw[n]at a;let a:mF "Places" "enter" bO 4 (ar 0) (aj (ag (aa 1)) (aj (ag (pC .none)) (aj (ag (pC .none)) aK))) [M (.rf o.length),-(p),-(.int m)] (i8 o m [] [])=if m<=0 then .er (TM m) (i8 o m [] [])else .ok (.fz (nd 0)) (qD (o.length+1) (o.length+2) [#[p,.none,.none]] (i8 o m [] [])):=a
 rw[yk]at a;show cE 3 bz _ _=_;ext cE;show((bz [M (.rf o.length),-(p),-(.int m)] (o++[.obj "Places" []])).bind _)=_;ext bz;rw[cg i W,cg h W,cg g W];ext br;rw[a];split<;>rfl
theorem tS:∀{l:G α},(∀a∈l,LD.kd (f a)=S)->LD.kds (l.map f)=S
 |[],_=>by rw[X0,LD.kds]
 |a::r,h=>by rw[U5,LD.kds,h a UT,tS λx b=>h x (UX _ b)];rfl
theorem Jr:∀b:G Nat,LD.kds (aO b)=S:=λb=>tS λa _=>by show LD.kd (.int a)=S;rw[LD.kd]
def KN(h:LB m):LD.kd (mD m)=S:=by
 cases m with
 |Vk c=>show LD.kd (.tuple [.str "letter",.str (cT c)])=S;simp only[LD.kd,LD.kds];rw[n6 h,show UM.strOk "letter"=S by left];rfl
 |WN n=>show LD.kd (.tuple [.str "layer",.int n])=S;simp only[LD.kd,LD.kds];rw[show UM.strOk "layer"=S by left];rfl
 |Yu c n=>show LD.kd (.tuple [.str "tap",.str (cT c),.int n])=S;simp only[LD.kd,LD.kds];rw[n6 h,show UM.strOk "tap"=S by left];rfl
 |once n=>show LD.kd (.tuple [.str "once",.int n])=S;simp only[LD.kd,LD.kds];rw[show UM.strOk "once"=S by left];rfl
 |none=>show LD.kd (.tuple [.str "none"])=S;simp only[LD.kd,LD.kds];rw[show UM.strOk "none"=S by left];rfl
 |below=>show LD.kd (.tuple [.str "below"])=S;simp only[LD.kd,LD.kds];rw[show UM.strOk "below"=S by left];rfl
def yh(h:SW b s):LD.kd (dX s)=S/\UM.depth (dX s)<=4:=by
 let j:LD.kds ((fJ s.ac).map pD)=S:=tS λq l=>by show LD.kd (.tuple [nd q.1,mD q.2])=S;simp only[LD.kd,LD.kds];rw[KN (h.sa.ac _ _ (ez.mp l).2).2.lb];rfl
 let o:∀m:Mn,UM.depth (mD m)<=1:=λm=>by ext m<;>show UN W
 let p:UM.depthAll ((fJ s.ac).map pD)<=2:=tI λq _=>by show max 0 (max (UM.depth (mD q.2)) 0)+1<=2;let:=o q.2;ext
 let f:LD.kd (ib s.wt)=S/\UM.depth (ib s.wt)<=2:=by
  cases q:s.wt with
  |none=>show#[by show LD.kd .none=S;rw[LD.kd],Vu _]
  |some x=>
   let(a,g,w):=x;let v:=(h.wt a g w q).1;constructor
   .show LD.kd (.tuple [.tuple (aO a),.int g,qj w])=S
    simp only[LD.kd,LD.kds];rw[Jr];cases w with
    |none=>show(S&&(S&&(LD.kd (.tuple [.str "chord"])&&S)))=S;simp only[LD.kd,LD.kds];rw[show UM.strOk "chord"=S by left];rfl
    |some i=>let(c,n):=i;let lb:LB (.Yu c n):=(v.tp c n W).1;show(S&&(S&&(LD.kd (mD (.Yu c n))&&S)))=S;rw[KN lb];rfl
   .show max (UM.depthAll (aO a)+1) (max 0 (max (UM.depth (qj w)) 0))+1<=2
    rw[jB];cases w with
    |none=>show UN W
    |some i=>show UN W
 let e:LD.kd (ng s.oc)=S/\UM.depth (ng s.oc)=0:=by cases s.oc<;>show#[by show LD.kd _=S;ext ng;simp only[LD.kd],W]
 constructor
 .show LD.kd (.tuple [.tuple ((fJ s.ac).map pD),ib s.wt,ng s.oc])=S;simp only[LD.kd,LD.kds];rw[j,f.1,e.1];rfl
 .show max (UM.depthAll ((fJ s.ac).map pD)+1) (max (UM.depth (ib s.wt)) (max (UM.depth (ng s.oc)) 0))+1<=4;rw[e.2];let:=f.2;ext
def uz(n:Nat):G YB:=(U0 n).map .down++(U0 n).map .up++[.turn]
def F5{b:Bd}{n:Nat}(c:b.n=n):∀e∈uz n,EV b e:=by
 intro e a;rcases Vo.mp a with a|a
 .rcases Vo.mp a with a|a
  .let(k,f,rfl):=Vl.mp a;let:=V3.mp f;show(k:Int)<b.n;ext
  .let(k,f,rfl):=Vl.mp a;let:=V3.mp f;show(k:Int)<b.n;ext
 .rw[U8.mp a];trivial
theorem Jn(h:xs.length+ys.length<=1000000):ce (.list xs) (.list ys)=M (.ow (xs++ys)):=ax h
theorem Nu(b:Bd):aR (bD b) (.int 0)=-(.int b.n):=g7
def OB{b:Bd}{n:Nat}(c:b.n=n)(l:n<=5):fS [bD b]=.ok (.ow ((uz n).map bU)):=by
 let i:fP [.int b.n]=M (aO (U0 n)):=by rw[c];show lF ()
 let j:=Nu b;let a:(U0 n).length<=1000:=by rw[Vs];ext
 let f:iY (cW (gN 0) dW (aU {pC (.str "down"),aa 0}) (aO (U0 n)) [P] [])=.ok ((U0 n).map λk=>bU (.down k)):=jR nd (λk=>bU (.down k)) (U0 n) a W λk _=>bG (ai aA (ai (af W) av)) W (UN W);let e:iY (cW (gN 0) dW (aU {pC (.str "up"),aa 0}) (aO (U0 n)) [P] [])=.ok ((U0 n).map λk=>bU (.up k)):=jR nd (λk=>bU (.up k)) (U0 n) a W λk _=>bG (ai aA (ai (af W) av)) W (UN W);let h:ce (.list ((U0 n).map λk=>bU (.down k))) (.list ((U0 n).map λk=>bU (.up k)))=M (.ow (((U0 n).map λk=>bU (.down k))++(U0 n).map λk=>bU (.up k))):=Jn (by rw[UK,UK];ext);let g:ce (.list (((U0 n).map λk=>bU (.down k))++(U0 n).map λk=>bU (.up k))) (.list [bU .turn])=M (.ow ((uz n).map bU)):=(Jn (by rw[US,UK,UK];show _+1<=_;ext)).trans (by ext uz;rw[Vm,Vm,VJ,VJ];rfl);show g9 W ?_;ext fW;show aY (cJ (by ext:0) W f) W W ?_;show aY (cJ (by ext:0) W e) W W ?_;show d6 (aB (aB (iQ W) (iQ W) W W h) (kr (ai (bG (ai aA (ai aA av)) W (UN W)) av) W (UN W)) W W g) W W
abbrev zf(d:D):I PV:=-(d)
abbrev zo(l:G D):I PV:=M (.ow l)
def cG(w:G Nat):Str:=#[(w.map (97+·)).toArray]
def nw(w:G Nat):(cG w).length=w.length:=by show((w.map (97+·)).toArray).size=_;rw[U3,UK]
def Ho{v w:G Nat}(h:cG v=cG w):v=w:=by let a:v.map (97+·)=w.map (97+·):=dt (λz:Str=>z.cps.toList) h;show(Zs λx y e=>by ext).mp a
def rZ{w:G Nat}(h:∀c∈w,c<26):UM.strOk (cG w)=S:=by show((w.map (97+·)).toArray.all λc=>decide (c<0x110000))=S;rw[<-acz];show V9.mpr λc b=>?_;let(d,a,rfl):=Vl.mp b;let:=h d a;show a4 ()
def y9(v w:G Nat):cG v++cG w=cG (v++w):=by show(#[(v.map (97+·)).toArray++(w.map (97+·)).toArray]:Str)=#[((v++w).map (97+·)).toArray];rw[Vm];simp
def xj{w:G Nat}(h:w.length<=1000):uq [.str (cG w)]=-(nd w.length):=by show(if(cG w).length<=1000000 then M (RV.fz (.int (cG w).length))else P)=_;rw[nw,ax ()]
def Pk{v w:G Nat}(h:v.length+w.length<=1000):xL (.str (cG v)) (.str (cG w))=-(.str (cG (v++w))):=by show(if(cG v).length+(cG w).length<=1000000 then M (RV.fz (.str (cG v++cG w)))else P)=_;rw[nw,nw,ax (),y9]
def Lg(a b n:Nat):Builtin.Str.strSliceIndices (M (a:Int)) (M (b:Int)) 1 n=Builtin.Str.strSliceIndices (M (Nat.cast (min a n):Int)) (M (Nat.cast (min b n):Int)) 1 n:=by
 ext Builtin.Str.strSliceIndices
 grind
def Hb{w:G Nat}(h:w.length<=1000){a b:Nat}(j:a<=b):nY (.str (cG w)) (M (a:Int)) (M (b:Int))=-(.str (cG ((w.drop a).take (b - a)))):=by
 let f:=nw w;let g:Txt.slice (cG w) (M (a:Int)) (M (b:Int))=cG ((w.drop a).take (b - a)):=by
  let e:=afv (cG w) (a:=min a w.length) (b:=min b w.length) () (by rw[f];ext);rw[f,<-Lg]at e;let e2:((cG w).cps.toList.drop (min a w.length)).take (min b w.length - min a w.length)=((w.drop a).take (b - a)).map (97+·):=by
   show((w.map (97+·)).drop (min a w.length)).take (min b w.length - min a w.length)=_;rw[List.map_take,List.map_drop];by_cases q:a<=w.length
   .rw[adL q,List.take_eq_take_iff,Xj,UK];ext
   .rw[Wy (by rw[UK];ext),Wy (by rw[UK];ext),aea,aea]
  rw[e2]at e;ext Txt.slice;rw[f];split
  .rename_i z
   rw[UH]at z;let z:=eq_of_beq z.2;let m:=PySem.sliceIndices_le (M (a:Int)) (M (b:Int)) w.length;let l:(adN (λi=>(cG w).cps[i]?) (Builtin.Str.strSliceIndices (M (a:Int)) (M (b:Int)) 1 w.length)).length=((w.drop a).take (b - a)).length:=by rw[e,UK]
   rw[Lg,afw () (),UK,Vs]at z;rw[YF (by rw[Xj];ext)];by_cases q:a=0
   .rw[q];rfl
   .rw[List.length_eq_zero_iff.mp (show w.length=0 by ext),List.drop_nil]
  .show(#[(adN (λi=>(cG w).cps[i]?) _).toArray]:Str)=_;rw[e];rfl
 show(if(cG w).length<=1000000 then M (RV.fz (.str (Txt.slice (cG w) (M (a:Int)) (M (b:Int)))))else P)=_;rw[f,ax (),g]
theorem F8:∀w:G Nat,ZJ (#[#v[]]:Str) (w.map cT)=cG w
 |[]=>rfl
 |[c]=>rfl
 |c::d::r=>by show cT c++(#[#v[]]:Str)++ZJ (#[#v[]]:Str) ((d::r).map cT)=_;rw[F8 (d::r),show cT c++(#[#v[]]:Str)=cT c by show(#[#v[97+c]++ #v[]]:Str)=_;simp;rfl];show y9 [c] (d::r)
def zc{w:G Nat}(h:w.length<=1000):ro "" [.list (w.map λc=>.str (cT c))]=-(.str (cG w)):=by
 let a:("":Str)=#[#v[]]:=by left
 show(match ub (w.map λc=>.str (cT c))with
   |some b=>if acu "" b=S then M (RV.fz (.str (Txt.join "" b)))else P
   |none=>P)=_
 rw[show(w.map λc=>UM.str (cT c))=(w.map cT).map .str by rw[VJ];rfl,EC];dsimp only;let ok:acu "" (w.map cT)=S:=by ext acu;let:=afx (sep:= "") (texts:=w.map cT) (B:=1) (λz e=>by let(n,_,rfl):=Vl.mp e;show UU _) (by rw[UK,a];show _+_*0<=_;ext);rw[this];rfl
 rw[ax ok,show Txt.join "" (w.map cT)=ZJ "" (w.map cT)from afy _ _,a,F8]
def zr(v w:G Nat):UM.eqv (.str (cG v)) (.str (cG w))=decide (v=w):=by
 rw[UM.eqv];by_cases h:v=w
 .rw[a4 h,h];simp
 .rw[a5 h];show beq_eq_false_iff_ne.mpr λz=>h (Ho z)
def Ot{v w:G Nat}(b:∀c∈v,c<26)(a:∀c∈w,c<26):uj (.str (cG v)) (.str (cG w))=-(.bool (!decide (v=w))):=by ext uj;rw[show j4 (.str (cG v))=S from KJ (rZ b) (by show 0<=64;decide),show UM.canLay0 (.str (cG w))=S from rZ a,WQ,ax W,zr]
def KM{f:Str->G D->I RV}{h:FE}{i:FA}{d c a:aL}{pv:PV}{z:Str}{g:G PV}{ds:G D}{rv:RV}(b:h d=.ok (pv,c))(j:zF pv=M z)(k:i c=.ok (g,a))(hd:qL a g=M ds)(e:f z ds=M rv):PP f h i d=.ok (rv.pv,a):=by ext PP;rw[b,dN];dsimp only;rw[j,aE,dN,k,dN,hd,aE,dN,e,aE,dN]
def fZ(sn:Sn):G Nat:=(sn.filter (·.2)).map (·.1)
theorem BQ{sn:Sn}(h:X5 sn):∀c∈fZ sn,c<26:=λc b=>by let(q,a,rfl):=Vl.mp b;show h q (Wg.mp a).1
def zA(sn:Sn):(fZ sn).length<=sn.length:=by ext fZ;rw[UK];show XJ _ _
def uI{sn:Sn}(g:sn.length<=1000):iY (cW (gT 2 (Bg (gN 0) (Bg (gN 1) K8))) (az (ay cH (aa 1) (pC (.str "down")))) (aa 0) (sn.map jX) [P,P] [])=.ok ((fZ sn).map λc=>.str (cT c)):=by
 let e:∀d:Bool,cH (.str (if d=S then "down" else "up")) (.str "down")=-(.bool d):=λd=>by
  ext d
  .show(Qr (by left) (by left)).trans (by rw[show((if R=S then "down" else "up":Str)== "down")=R by left])
  .show(Qr (by left) (by left)).trans (by rw[show((if S=S then "down" else "up":Str)== "down")=S by left])
 rw[tt jX (λq=>if q.2=S then M (UM.str (cT q.1))else P) (λi=>∃a d,i=[a,d]) sn #[P,P,W] g ?_]
 .congr 1
  ext fZ;rw[VJ];clear g
  induction sn with
  |nil=>rfl
  |cons x r f=>
   cases q:x.2 with
   |true=>rw[Yq (b:=UM.str (cT x.1)) (by rw[ax q]),aaP q,f];rfl
   |false=>rw[Yp (by rw[a3 (by rw[q];simp)]),aaQ (by rw[q];simp),f]
 .rintro⟨c,d⟩ h i ⟨x,y,rfl⟩
  cases d with
  |true=>show#[[zf (.str (cT c)),zf (.str (if S=S then "down" else "up"))],Br (x:=.str (cT c)) W (a8 (aB (rv:=.fz (.bool S)) (af W) aA W W (e S)) W) (af W) W W,_,_,W]
  |false=>show#[[zf (.str (cT c)),zf (.str (if R=S then "down" else "up"))],Ny W (a8 (aB (rv:=.fz (.bool R)) (af W) aA W W (e R)) W) W,_,_,W]
def w9(w:G Nat)(d:Nat)(sn:Sn):I Nat:=if(w.drop d).take (fZ sn).length=fZ sn then M (d+(fZ sn).length)else P
def Rm:I Nat->D
 |some k=>nd k
 |none=>.none
def Ki{w:G Nat}(i:∀c∈w,c<26)(m:w.length<=3){d:Nat}(hd:d<=3){sn:Sn}(j:X5 sn)(n:sn.length<=900):fH [.str (cG w),nd d,.list (sn.map jX)]=.ok (.fz (Rm (w9 w d sn))):=by
 let o:=zA sn;let cm:=uI (sn:=sn) ();let h:=zc (w:=fZ sn) ();let g:=xj (w:=fZ sn) ();let e:=BQ j;let f:=Hb (w:=w) () (a:=d) (b:=d+(fZ sn).length) ();rw[Xu]at f;let ne:=Ot (v:=(w.drop d).take (fZ sn).length) (w:=fZ sn) (λc l=>i c (List.mem_of_mem_drop (List.mem_of_mem_take l))) e;show g9 (ρ:=[zf (.str (cG w)),zf (nd d),zf (.list (sn.map jX)),P,P]) W ?_;ext et;show aY (ρ3:=[zf (.str (cG w)),zf (nd d),zf (.list (sn.map jX)),zf (.str (cG (fZ sn))),P]) (KM (rv:=.fz (.str (cG (fZ sn)))) aA W (ai (cJ (cs:=[]) (ds:=sn.map jX) (iK (d:=.list (sn.map jX)) (af W) W W) W cm) av) W h) W W ?_;show aY (ρ3:=[zf (.str (cG w)),zf (nd d),zf (.list (sn.map jX)),zf (.str (cG (fZ sn))),zf (nd (d+(fZ sn).length))]) (aB (rv:=.fz (nd (d+(fZ sn).length))) (af W) (cS (rv:=.fz (nd (fZ sn).length)) (ai (af W) av) W g) W W (gC _ _)) W W ?_;show ie (a8 (aB (yi (rv:=.fz (.str (cG ((w.drop d).take (fZ sn).length)))) (af W) (ic (af W) W) (ic (af W) W) W f) (af W) W W ne) W) (λq=>?_) (λq=>c7 ?_)
 .let q:¬(w.drop d).take (fZ sn).length=fZ sn:=by simpa using q
  show fC (rv:=.fz .none) aA W ?_;ext w9;rw[a3 q];rfl
 .let q:(w.drop d).take (fZ sn).length=fZ sn:=by simpa using q
  show d6 (rv:=.fz (nd (d+(fZ sn).length))) (af W) W ?_;ext w9;rw[ax q];rfl
def AO:Mn->Mn
 |.Yu _ n=>.WN n
 |.once _=>.none
 |m=>m
def Pm:Mn->I (Nat×Int)
 |.Yu c n=>M (c,n)
 |_=>P
def Ca(b:Bd)(x:Nat)(k:Nat)(a:Mn):Prop:=a=iU b 0 k\/a=.Vk x\/a=.none
def Na(b:Bd)(k:Nat)(a:Mn):Prop:=a=AO (iU b 0 k)\/a=AO (iU b 1 k)
structure IN(b:Bd)(s:WW):Prop where
 ac:∀k a,s.ac k=M a->Na b k a
 wt:∀ks g w,s.wt=M (ks,g,w)->∃k c n,ks=[k]/\w=M (c,n)/\(iU b 0 k=.Yu c n\/iU b 1 k=.Yu c n)
structure IC(b:Bd)(x:Nat)(s:WW):Prop where
 ac:∀k a,s.ac k=M a->Ca b x k a
 wt:∀ks g w,s.wt=M (ks,g,w)->w=P/\∃k,ks=[k]
 oc:s.oc=P
section
variable{b:Bd}{p:WW×Sn}{s:WW}{k x:Nat}
theorem yo{Q:Nat->Mn->Prop}(h:∀k a,ac k=M a->Q k a)(f:∀a,o=M a->Q k a):∀j a,jz ac k o j=M a->Q j a:=λj a e=>by
 by_cases z:j=k
 .subst z;rw[dc]at e;show f a e
 .rw[eF z]at e;show h j a e
theorem yW{Q:Nat->Mn->Prop}(h:∀j a,j≠k->p.1.ac j=M a->Q j a):∀j a,(go p k).1.ac j=M a->Q j a:=λj a e=>by
 unfold go at e;cases z:p.1.ac k with
 |none=>rw[z]at e;show h j a (λq=>by subst q;rw[z]at e;ext e) e
 |some y=>
  rw[z]at e;by_cases q:j=k
  .subst q;show a7 ((dc).symm.trans e) (by simp)
  .show h j a q ((eF q).symm.trans e)
def rR:(go p k).1.wt=p.1.wt/\(go p k).1.oc=p.1.oc:=by ext go;split<;>show#[W,W]
def FP(s:WW)(m:Mn):(dI s m).ac=s.ac/\(dI s m).wt=s.wt:=by ext dI;split<;>show#[W,W]
def Ii(a:VB b)(f:SA b s)(g:b.ls.length<=2):look b (iO s.ac s.oc) k=iU b 0 k\/look b (iO s.ac s.oc) k=iU b 1 k:=by
 let(i,h):=sY a f;let:(iO s.ac s.oc).toNat=0\/(iO s.ac s.oc).toNat=1:=by ext
 ext look;split
 .show .inl W
 .rcases this with e|e<;>rw[e]
  .show .inl W
  .show .inr W
def IN.dec(h:IN b p.1):IN b (bH b p).1/\(bH b p).1.wt=P:=by
 ext bH;split
 .rename_i q;show#[h,q]
 .rename_i f g w q
  let(k,c,n,rfl,rfl,i):=h.wt f g w q;show#[#[?_,λ_ _ _ e=>(by ext e)],W];show yo h.ac λa e=>?_;ext e;rcases i with e|e
  .show .inl (by rw[e];rfl)
  .show .inr (by rw[e];rfl)
def IN.step(l:VB b)(C:b.ls.length<=2)(i:b.cs=[])(r:SW b s)(h:IN b s)(I:EV b e):IN b (bq b s e).1:=by
 let t:∀f,dB b f=[]:=λf=>by ext dB;rw[i];rfl
 cases e with
 |turn=>
  show IN b (gb b (s,[])).1;ext gb;split
  .show h
  .rename_i f g w q
   let v:IN b {s with wt:=M (f,g+1,w)}:=#[h.ac,λ_ _ _ e=>by ext e;show h.wt f g w q];split
   .show(IN.dec v).1
   .show v
 |up k=>
  show IN b (kN b (s,[]) k).1;ext kN;split
  .rename_i q
   cases z:s.wt with
   |none=>rw[show yR s.wt k=R by rw[z];rfl]at q;ext q
   |some y=>
    let(f,g,w):=y;let(G,c,n,rfl,rfl,H):=h.wt f g w z;let e:STP.bp b (s,[]) k=eC ({s with wt:=P},[]) k (.Vk c):=by ext STP.bp;dsimp only;rw[z]
    rw[e];show#[yW λj a B o=>h.ac j a ((eF B).symm.trans o),λf g w e=>?_];rw[rR.1]at e;ext e
  .show#[yW λj a _ o=>h.ac j a o,λf g w e=>?_];rw[rR.1]at e;show h.wt f g w e
 |down k=>
  show IN b (gH b (s,[]) k).1;ext gH;split
  .show h
  .rw[a3 (by
    ext Ai;split
    .rw[t];simp
    .simp)]
   let d:=IN.dec (p:=(s,[])) h;let A:=dM l (p:=(s,[])) r.sa (SW.wd l r);generalize bH b (s,[])=p at d A;let(h,E):=d;let lo:=Ii (k:=k) l A.1.sa C;ext zN;let u:=FP p.1 (look b (iO p.1.ac p.1.oc) k);generalize dI p.1 (look b (iO p.1.ac p.1.oc) k)=N at u;generalize look b (iO p.1.ac p.1.oc) k=m at lo;generalize iO p.1.ac p.1.oc=L;let i:∀a,a=AO m->IN b (eC (N,p.2) k a).1:=λa F=>by
    show#[yo (λj y e=>h.ac j y (by rw[<-u.1];show e)) λy e=>?_,λf g w e=>?_]
    .ext e
     rw[F];rcases lo with e|e
     .show .inl (by rw[e])
     .show .inr (by rw[e])
    .let e:N.wt=_:=e;rw[u.2,E]at e;ext e
   cases m with
   |Yu c n=>show#[λj y e=>h.ac j y (by rw[<-u.1];show e),λf g w e=>?_];ext e;show#[k,c,n,W,W,by rcases lo with e|e<;>simp[<-e]]
   |Vk c=>show IN b (if(decide (L=0)&& !(dB b [k]).isEmpty)=S then _ else eC (N,p.2) k (.Vk c)).1;rw[t,a3 (by simp)];show i _ W
   |once n=>let:=i .none W;show#[this.ac,this.wt]
   |WN n=>show i _ W
   |none=>show i _ W
   |below=>show i _ W
theorem zh:∀{l:G α},q∈l.zip (l.map f)->q.2=f q.1
 |[],h=>by ext h
 |a::r,h=>by
  rcases Vh.mp h with rfl|h
  .rfl
  .show zh h
def Ps{Q:Nat->Mn->Prop}(f:G (Nat×Mn)):∀{p:WW×Sn},(∀k a,p.1.ac k=M a->Q k a)->(∀q∈f,Q q.1 q.2)->(∀k a,(gG p f).1.ac k=M a->Q k a)/\(gG p f).1.wt=p.1.wt/\(gG p f).1.oc=p.1.oc:=by
 induction f with
 |nil=>show λh _=>#[h,W,W]
 |cons q r i=>intro p h g;show i (yo h λa e=>by ext e;show g q UT) λy j=>g y (UX _ j)
def Rr(f:b.cs=[([0,1],x)])(d:G Nat):∀q∈d.zip (KH b d),Ca b x q.1 q.2:=by
 intro q a;unfold KH at a;split at a
 .rename_i c e
  let cm:=Yd e;rw[f]at cm;let cm:=U8.mp cm;rcases Vh.mp (Xo a).2 with h|h
  .show .inr (.inl (by rw[h,cm]))
  .show .inr (.inr (Zr.mp h).2)
 .show .inl (zh a)
structure IC0(b:Bd)(x:Nat)(s:WW):Prop where
 ac:∀k a,s.ac k=M a->Ca b x k a
 wt:∀ks g w,s.wt=M (ks,g,w)->w=P
 oc:s.oc=P
theorem IC.z(h:IC b x s):IC0 b x s:=#[h.ac,λa g w e=>(h.wt a g w e).1,h.oc]
def IC0.dec(j:b.cs=[([0,1],x)])(h:IC0 b x p.1):IC b x (bH b p).1/\(bH b p).1.wt=P:=by
 ext bH;split
 .rename_i q;show#[#[h.ac,λ_ _ _ e=>(by rw[q]at e;ext e),h.oc],q]
 .rename_i a g w q;let i:=h.wt a g w q;subst i;let(m,f,l):=Ps (p:=({p.1 with wt:=P},p.2)) (a.zip (KH b a)) h.ac (Rr j a);show#[#[m,λ_ _ _ e=>(by rw[show(gG ({p.1 with wt:=P},p.2) (a.zip (gF b a P))).1.wt=P from f]at e;ext e),l.trans h.oc],f]
def Q6(f:VB b)(i:SA b s)(l:b.cs=[([0,1],x)])(o:b.n<=2)(h:IC b x s):iO s.ac s.oc=0:=by
 rw[h.oc];show(((fJ s.ac).filterMap Gs).foldl jx P).getD 0=0;let:(fJ s.ac).filterMap Gs=[]:=List.filterMap_eq_nil_iff.mpr λq j=>by
  let g:=(ez.mp j).2;let r:=(i.ac q.1 q.2 g).1;let ok:=(f.vc ([0,1],x) (by rw[l];show UT)).2.2.1 q.1 (by
   let:q.1=0\/q.1=1:=by ext
   rcases this with e|e<;>simp[e])
  let(c,m):=xU f ok;let(k,a):=q;rcases h.ac k a g with rfl|rfl|rfl
  .show Gs (k,iU b 0 k)=P;rw[m];rfl
  .rfl
  .rfl
 rw[this];rfl
def IC.step(m:VB b)(H:b.n<=2)(l:b.cs=[([0,1],x)])(C:SW b s)(h:IC b x s)(J:EV b e):IC b x (bq b s e).1:=by
 cases e with
 |turn=>
  show IC b x (gb b (s,[])).1;ext gb;split
  .show h
  .rename_i i g w q
   let E:IC b x {s with wt:=M (i,g+1,w)}:=#[h.ac,λ_ _ _ e=>by ext e;show h.wt i g w q,h.oc];split
   .show(IC0.dec l E.z).1
   .show E
 |up k=>
  show IC b x (kN b (s,[]) k).1;ext kN;split
  .rename_i q
   cases z:s.wt with
   |none=>rw[show yR s.wt k=R by rw[z];rfl]at q;ext q
   |some y=>
    let(i,g,w):=y;let(rfl,A,rfl):=h.wt i g w z;let e:STP.bp b (s,[]) k=bH b (s,[]):=by ext STP.bp;dsimp only;rw[z]
    rw[e];let(d,t):=IC0.dec l (p:=(s,[])) h.z;show#[yW λj a _ B=>d.ac j a B,λi g w e=>(by rw[rR.1,t]at e;ext e),rR.2.trans d.oc]
  .show#[yW λj a _ B=>h.ac j a B,λi g w e=>(by rw[rR.1]at e;show h.wt i g w e),rR.2.trans h.oc]
 |down k=>
  show IC b x (gH b (s,[]) k).1;ext gH;split
  .show h
  .split
   .rename_i o
    unfold Ai at o;split at o
    .rename_i i g z
     rw[UH]at o;let(_,A,rfl):=h.wt i g P z;let G:dB b ([A]++[k])=[([0,1],x)]:=by
      let r:=o.2;unfold dB at r⊢;rw[l]at r⊢;rw[XN]at r⊢;split
      .rfl
      .rename_i f;rw[a3 f]at r;simp at r
     ext oK;rw[z];dsimp only;rw[G,ax (show List.map (λx=>x.1.length) [(([0,1]:bb Nat),x)]=[([A]++[k]).length]from rfl)];show(IC0.dec l #[h.ac,λ_ _ _ e=>(by ext e;rfl),h.oc]).1
    .ext o
   .let(d,t):=IC0.dec l (p:=(s,[])) h.z
    let ds:=dM m (p:=(s,[])) C.sa (SW.wd m C);generalize bH b (s,[])=p at d t ds;let K:(k:Int)<b.n:=J;let ok:=(m.vc ([0,1],x) (by rw[l];show UT)).2.2.1 k (by
     let:k=0\/k=1:=by ext
     rcases this with e|e<;>simp[e])
    let(c,F):=xU m ok;ext zN;let I:look b 0 k=.Vk c:=by ext look;rw[show(0:Int).toNat=0 from rfl,F];rfl
    rw[Q6 m ds.1.sa l H d,I];let u:=FP p.1 (.Vk c);let v:(dI p.1 (.Vk c)).oc=P:=W;generalize dI p.1 (.Vk c)=n at u v;show IC b x (if(decide ((0:Int)=0)&& !(dB b [k]).isEmpty)=S then({n with wt:=M ([k],0,P)},p.2)else eC (n,p.2) k (.Vk c)).1;split
    .show#[λj y e=>d.ac j y (by rw[<-u.1];show e),λi g w e=>(by ext e;show#[W,k,W]),v]
    .show#[yo (λj y e=>d.ac j y (by rw[<-u.1];show e)) λy e=>(by ext e;show .inl F.symm),λi g w e=>(by let e:n.wt=_:=e;rw[u.2,t]at e;ext e),v]
def QT(e a:I Mn):Ac:=λk=>if k=0 then e else if k=1 then a else P
theorem Rp(f:SA b s)(g:b.n<=2):s.ac=QT (s.ac 0) (s.ac 1):=funext λk=>by
 ext QT;split
 .rename_i e;rw[e]
 .split
  .rename_i e;rw[e]
  .cases q:s.ac k with
   |none=>rfl
   |some a=>let:=(f.ac k a q).1;ext
def A3(b:Bd)(k:Nat):G (I Mn):=[P,M (AO (iU b 0 k)),M (AO (iU b 1 k))]
def A4(b:Bd)(x k:Nat):G (I Mn):=[P,M (iU b 0 k),M (.Vk x),M .none]
def W4(b:Bd)(k:Nat):G (Int×I (Nat×Int)):=[(0,Pm (iU b 0 k)),(0,Pm (iU b 1 k)),(1,Pm (iU b 0 k)),(1,Pm (iU b 1 k))]
def S4(F:Nat->G (I Mn))(W:Nat->G (Int×I (Nat×Int)))(o:I Int):G WW:=
 ((F 0).flatMap λe=>(F 1).map λa=>#[QT e a,P,o])++((W 0).flatMap λw=>(F 1).map λa=>#[QT P a,M ([0],w.1,w.2),o])++(W 1).flatMap λw=>(F 0).map λe=>#[QT e P,M ([1],w.1,w.2),o]
def z0(f:SW b s)(i:b.n<=2)(e:∀k,s.ac k∈F k)(j:∀c g w,s.wt=M (c,g,w)->∃k,c=[k]/\(g,w)∈m k):s∈S4 F m s.oc:=by
 let a:=Rp f.sa i;cases q:s.wt with
 |none=>show VU _ (VU _ (Yx.mpr #[s.ac 0,e 0,Vl.mpr #[s.ac 1,e 1,?_]]));rw[<-a,<-q]
 |some y=>
  let(c,g,w):=y;let(k,rfl,hm):=j c g w q;let v:=(f.wt _ _ _ q).1;let l:=v.kn k UT;let h:=v.kf k UT;let:k=0\/k=1:=by ext
  rcases this with rfl|rfl
  .rw[h]at a;show VU _ (Vp _ (Yx.mpr #[(g,w),hm,Vl.mpr #[s.ac 1,e 1,?_]]));rw[<-a,<-q]
  .rw[h]at a;show Vp _ (Yx.mpr #[(g,w),hm,Vl.mpr #[s.ac 0,e 0,?_]]);rw[<-a,<-q]
def few(i:VB b)(A:b.n<=2)(J:b.ls.length<=2)(P:b.wt<=2):∃(l:bb WW) (I:WW->Prop),l.length<=66/\I fx/\(∀s,I s->SW b s/\s∈l)/\∀s e,I s->EV b e->I (bq b s e).1:=by
 by_cases F:b.cs=[]
 .show#[([lD,cL 1]:bb (bg Int)).flatMap (S4 (A3 b) (W4 b)),λs=>SW b s/\IN b s,UU 66,#[gS b,λk a e=>(by ext e),λm g w e=>(by ext e)],λs h=>#[h.1,?_],λs e h u=>#[nJ i h.1 u,h.2.step i J F h.1 u]]
  show Yx.mpr #[s.oc,?_,z0 h.1 A (λk=>?_) λm g w e=>?_]
  .cases q:s.oc with
   |none=>show UT
   |some o=>
    let:=h.1.sa.oc o q;let e:o=1:=by ext
    rw[e];show UX _ UT
  .cases q:s.ac k with
   |none=>show UT
   |some a=>
    rcases h.2.ac k a q with rfl|rfl
    .show UX _ UT
    .show UX _ (UX _ UT)
  .let(k,c,n,rfl,rfl,B):=h.2.wt m g w e
   let v:=h.1.wt _ _ _ e;let g0:=v.1.g0;let L:=v.2;let t:cL (c,n)=Pm (iU b 0 k)\/cL (c,n)=Pm (iU b 1 k):=by rcases B with e|e<;>simp[e,Pm]
   let:g=0\/g=1:=by ext
   show#[k,W,?_];ext W4;rcases this with rfl|rfl<;>rcases t with e|e<;>rw[e]<;>simp
 .obtain⟨x,K⟩:∃x,b.cs=[([0,1],x)]:=by
   let one:∀c∈b.cs,c.1=[0,1]:=λc hm=>by
    let(O,N,M,_):=i.vc c hm;let j:∀k∈c.1,k<2:=λk B=>by
     let E:=i.l1;obtain⟨l,r,H⟩:∃l r,b.ls=l::r:=by
      cases q:b.ls with
      |nil=>rw[q]at E;ext E
      |cons l r=>show#[l,r,W]
     let Q:=i.vl 0 l (by rw[H];rfl);let:=M k B;unfold mS at this;rw[H,adi]at this;cases q:l[k]? with
     |none=>rw[q]at this;ext this
     |some y=>let:=(UO.mp q).1;ext
    match hq:c.1,O,N,j with
    |[a,d],_,h,j=>
     let:=j a UT;let:=j d (UX _ UT);let h:=(V6.mp h).1 d UT;obtain rfl:a=0:=by ext
     obtain rfl:d=1:=by ext
     rfl
    |a::d::f::r,_,h,j=>let C:=(V6.mp h).1 d UT;let G:=(V6.mp (V6.mp h).2).1 f UT;let:=j f (UX _ (UX _ UT));ext
   cases e:b.cs with
   |nil=>show a7 e F
   |cons c r=>
    let C:=one c (by rw[e];show UT);cases r with
    |nil=>show#[c.2,by rw[<-C]]
    |cons d r=>let G:=one d (by rw[e];show UX _ UT);let:=i.cu;rw[e]at this;show a7 (C.trans G.symm) ((V6.mp this).1 d UT)
  show#[S4 (A4 b x) (λ_=>[(0,lD),(1,lD)]) lD,λs=>SW b s/\IC b x s,by show 32<=66;decide,#[gS b,λk a e=>(by ext e),λm g w e=>(by ext e),W],λs h=>#[h.1,?_],λs e h u=>#[nJ i h.1 u,h.2.step i A K h.1 u]];rw[<-h.2.oc];show z0 h.1 A (λk=>?_) λm g w e=>?_
  .cases q:s.ac k with
   |none=>show UT
   |some a=>rcases h.2.ac k a q with rfl|rfl|rfl<;>simp[A4]
  .let(rfl,k,rfl):=h.2.wt m g w e
   let v:=h.1.wt _ _ _ e;let g0:=v.1.g0;let L:=v.2;let:g=0\/g=1:=by ext
   show#[k,W,by rcases this with rfl|rfl<;>simp]
end
theorem Gy(h:aO o=aO C):o=C:=(Zs λx y e=>by injection e with e;show ZV e).mp h
def E1(h:mD m=mD n):m=n:=by
 let e:=(mO m).symm.trans ((dt (λz=>aR z (.int 0)) h).trans (mO n));injection e with e;injection e with e;injection e with e
 let w:=uu _ (mG m) _ (mG n);rw[show ws (wn m)=ws (wn n)from e,dw]at w;ext m<;>ext n<;>first|rfl|(exfalso;revert w;simp[wn];done)|(injection h with h;injection h with _ h;injection h with h g;injection h with h)
 .rw[tF h]
 .rw[h]
 .injection g with g;injection g with g;rw[tF h,g]
 .rw[h]
def Eo(l:VB b)(j:VB c)(C:SW b s)(B:SW c t)(h:dX s=dX t):s=t:=by
 injection h with h
 injection h with h1 h
 injection h with h2 h
 injection h with h3 _
 injection h1 with h1
 let f:=(Zs λx y e=>by
  injection e with e;injection e with e1 e;injection e with e2 _;injection e1 with e1
  show Prod.ext (ZV e1) (E1 e2)).mp h1
 let F:=funext λk=>Option.ext λa=>#[λe=>by
   let:=(ez (p:=(k,a))).mpr #[(SA.ak l C.sa k a e).1,e];rw[f]at this;show(ez.mp this).2,λe=>by
   let:=(ez (p:=(k,a))).mpr #[(SA.ak j B.sa k a e).1,e];rw[<-f]at this;show(ez.mp this).2]
 let E:s.wt=t.wt:=by
  revert h2;cases s.wt with
  |none=>cases t.wt with
   |none=>show λ_=>W
   |some y=>show λe=>by ext e
  |some x=>cases t.wt with
   |none=>show λe=>by ext e
   |some y=>
    let(G,g,w):=x;let(H,i,v):=y;intro e;injection e with e;injection e with e1 e;injection e with e2 e;injection e with e3 _;injection e1 with e1;injection e2 with e2;let e1:=Gy e1;let:w=v:=by
     revert e3;cases w with
     |none=>cases v with
      |none=>show λ_=>W
      |some q=>show λe=>by injection e with e;injection e with _ e;ext e
     |some p=>cases v with
      |none=>show λe=>by injection e with e;injection e with _ e;ext e
      |some q=>let(A,u):=p;let(r,o):=q;show λe=>by let:=E1 (m:=.Yu A u) (n:=.Yu r o) e;injection this with a b;rw[a,b]
    rw[e1,e2,this]
 let eo:s.oc=t.oc:=by
  revert h3;cases s.oc<;>cases t.oc<;>intro e
  .rfl
  .ext e
  .ext e
  .injection e with e;rw[e]
 ext s;ext t;ext F;ext E;ext eo;rfl
abbrev TP:=WW×Nat
def kT(p:TP):D:=.tuple [dX p.1,nd p.2]
def HZ(b:Bd)(w:G Nat)(p:TP)(e:YB):I TP:=(w9 w p.2 (bq b p.1 e).2).map λd=>((bq b p.1 e).1,d)
def PZ:TP:=(fx,0)
def RT(b:Bd)(w:G Nat)(es:G YB):Nat->TP->Prop
 |0,p=>p=PZ
 |k+1,p=>∃q e,RT b w es k q/\e∈es/\HZ b w q e=M p
structure TC(b:Bd)(w:G Nat)(es:G YB):Prop where
 vb:VB b
 eb:∀e∈es,EV b e
 w26:∀c∈w,c<26
 wl:w.length<=3
def TW(b:Bd)(w:G Nat)(p:TP):Prop:=SW b p.1/\p.2<=w.length
theorem wP:∀{fs:G Pl} {d:D} {t:Nat},gx fs d=M t->∃q,fs[t]?=M q/\UM.eqv q.p d=S
 |[],_,_,h=>by ext h
 |a::r,d,t,h=>by
  unfold gx at h;split at h
  .rename_i e;ext h;show#[a,W,e]
  .cases q:gx r d with
   |none=>rw[q]at h;ext h
   |some j=>rw[q]at h;ext h;let(x,f,b):=wP q;show#[x,by simpa using f,b]
theorem qp:∀{fs:G Pl} {d:D},gx fs d=P->∀q∈fs,UM.eqv q.p d=R
 |[],_,_,_,b=>by ext b
 |a::r,d,h,q,b=>by
  unfold gx at h;by_cases e:UM.eqv a.p d=S
  .rw[ax e]at h;ext h
  .rw[a3 e]at h
   rcases Vh.mp b with rfl|b
   .show Bool.eq_false_iff.mpr e
   .show qp (by cases z:gx r d with|none=>rfl|some _=>rw[z]at h;ext h) q b
def NT{w:G Nat}{d k:Nat}{sn:Sn}(hd:d<=w.length)(h:w9 w d sn=M k):k<=w.length:=by
 unfold w9 at h;split at h
 .rename_i q;ext h;let:=dt Yf q;rw[V8,Xj]at this;ext
 .ext h
section
variable{b:Bd}{w:bb Nat}{es:bb YB}
def TC.nx(h:TC b w es)(a:TW b w p)(f:e∈es)(c:HZ b w p e=M q):TW b w q:=by
 unfold HZ at c;cases z:w9 w p.2 (bq b p.1 e).2 with
 |none=>rw[z]at c;ext c
 |some d=>rw[z]at c;ext c;show#[nJ h.vb a.1 (h.eb e f),NT a.2 z]
theorem TC.rw(h:TC b w es):∀{k p},RT b w es k p->TW b w p
 |0,p,e=>by rw[show p=PZ from e];show#[gS b,Vu _]
 |k+1,p,#[q,e,a,he,f]=>h.nx (h.rw a) he f
theorem RT.inv(h:TC b w es){I:WW->Prop}(f:I fx)(a:∀s e,I s->EV b e->I (bq b s e).1):∀{k p},RT b w es k p->I p.1
 |0,p,e=>by rw[show p=PZ from e];show f
 |k+1,p,#[q,e,i,he,g]=>by
  unfold HZ at g;cases z:w9 w q.2 (bq b q.1 e).2 with
  |none=>rw[z]at g;ext g
  |some d=>rw[z]at g;ext g;show a _ _ (RT.inv h f a i) (h.eb e he)
def Fx(h:TC b w es)(f:TW b w p)(a:TW b w q)(e:kT p=kT q):p=q:=by
 injection e with e;injection e with e1 e;injection e with e2 _;injection e2 with e2
 show Prod.ext (Eo h.vb h.vb f.1 a.1 e1) (ZV e2)
def iS(a:TW b w p):LD.keyD (kT p)=S:=by let(e,f):=yh a.1;ext kT;rw[LD.keyD];simp only[LD.kds];rw[e,show LD.kd (nd p.2)=S by show LD.kd (.int _)=S;rw[LD.kd],a4 (show UM.depth (.tuple [dX p.1,nd p.2])<=8 by show max (UM.depth (dX p.1)) (max 0 0)+1<=8;ext)];rfl
end
structure Te where
 p:TP
 b:D
 e:D
 d:Nat
def gn(q:Te):Pl:=#[kT q.p,q.b,q.e]
def Sf:Te:=#[PZ,.none,.none,0]
def Dt(b:Bd)(w:G Nat)(fs:G Te)(q:Te)(e:YB):Prop:=∀p,HZ b w q.p e=M p->∃r∈fs,r.p=p/\r.d<=q.d+1
structure BT(b:Bd)(w:G Nat)(es:G YB)(fs:G Te)(n:Nat):Prop where
 z:fs[0]?=M Sf
 bk:∀i q,fs[i]?=M q->0<i->∃j r,j<i/\fs[j]?=M r/\q.b=nd j/\q.d=r.d+1
 rw:∀q∈fs,RT b w es q.d q.p
 mo:fs.Pairwise λq r=>q.d<=r.d
 up:∀q,fs[n]?=M q->∀r∈fs,r.d<=q.d+1
 un:(fs.map (·.p)).Nodup
 dn:∀j q,j<n->fs[j]?=M q->∀e∈es,Dt b w fs q e
section
variable{b:Bd}{w:bb Nat}{es:bb YB}{fs:bb Te}{n:Nat}
def Uz:BT b w es [Sf] 0:=by
 show#[W,λi q h g=>?_,λq a=>?_,WU _ _,λq a r e=>?_,WU _ _,λj q f=>a7 f (adM _)]
 .match i,g,h with
  |i+1,_,h=>ext h
 .rw[U8.mp a];rfl
 .rw[U8.mp e];show Vu _
theorem Dt.mono(h:Dt b w fs q e)(l:G Te):Dt b w (fs++l) q e:=λp f=>by let(r,a,x):=h p f;show#[r,VU _ a,x]
theorem BT.old(B:TC b w es)(h:BT b w es fs n)(l:fs[n]?=M q)(o:e∈es)(m:HZ b w q.p e=M p)(c:gx (fs.map gn) (kT p)=M t):Dt b w fs q e:=λy a=>by
 rw[m]at a;ext a;let(r,f,v):=wP c;rw[UZ]at f;cases z:fs[t]? with
 |none=>rw[z]at f;ext f
 |some u=>rw[z]at f;ext f;let g:=Vr z;let i:=B.rw (h.rw u g);let j:=B.nx (B.rw (h.rw q (Vr l))) o m;show#[u,g,Fx B i j (LD.kd_eqv _ _ (LD.keyD_kd (iS i)).1 (LD.keyD_kd (iS j)).1 v),h.up q l u g]
def BT.new(B:TC b w es)(h:BT b w es fs n)(l:fs[n]?=M q)(A:e∈es)(v:HZ b w q.p e=M p)(c:gx (fs.map gn) (kT p)=P):BT b w es (fs++[#[p,nd n,bU e,q.d+1]]) n:=by
 let C:=(UO.mp l).1;let t:=Vr l;let old:∀{i:Nat} {r:Te},fs[i]?=M r->(fs++[#[p,L3.nd n,bU e,q.d+1]])[i]?=M r:=λx=>(U1 (UO.mp x).1).trans x;show#[old h.z,λi r a o=>?_,λr a=>?_,?_,λr a u g=>?_,?_,λj r G a f H=>?_]
 .by_cases E:i<fs.length
  .rw[U1 E]at a;let(j,u,K,J,I):=h.bk i r a o;show#[j,u,K,old J,I]
  .rw[Vn ()]at a
   let z:i - fs.length=0:=by let:=(UO.mp a).1;rw[XI]at this;ext
   rw[z]at a;ext a;show#[n,q,by ext,old l,W,W]
 .rcases Vo.mp a with a|a
  .show h.rw r a
  .rw[U8.mp a];show#[q.p,e,h.rw q t,A,v]
 .rw[abM];show#[h.mo,WU _ _,λr a u g=>?_];rw[U8.mp g];show h.up q l r a
 .rw[U1 C,l]at a
  ext a;rcases Vo.mp g with g|g
  .show h.up q l u g
  .rw[U8.mp g];show UU _
 .rw[Vm,Xy];show#[h.un,WU _ _,λx F y m e1=>?_];let(r,a,rfl):=Vl.mp F;let m:y=p:=U8.mp m;let:=qp c (gn r) (Vl.mpr #[r,a,W]);rw[show(gn r).p=kT p by show kT r.p=_;rw[e1,m],ug (iS (B.nx (B.rw (h.rw q t)) A v))]at this;ext this
 .rw[U1 ()]at a;show(h.dn j r G a f H).mono _
def BT.next(h:BT b w es fs n)(f:fs[n]?=M q)(hd:∀e∈es,Dt b w fs q e):BT b w es fs (n+1):=by
 show#[h.z,h.bk,h.rw,h.mo,λr a u o=>?_,h.un,λj r p a e l=>?_]
 .let i:=(UO.mp f);let g:=(UO.mp a);let:=List.pairwise_iff_getElem.mp h.mo n (n+1) i.1 g.1 ();rw[i.2,g.2]at this;let:=h.up q f u o;ext
 .by_cases m:j<n
  .show h.dn j r m a e l
  .let:j=n:=by ext
   subst this;rw[f]at a;ext a;show hd e l
theorem BT.all(h:BT b w es fs n)(c:fs.length<=n):∀k p,RT b w es k p->∃r∈fs,r.p=p/\r.d<=k
 |0,p,q=>#[Sf,Vr h.z,(show p=PZ from q).symm,UU _]
 |k+1,p,#[u,e,t,he,q]=>by let(r,l,i,o):=h.all c k u t;let(j,a):=Wl.mp l;let(v,g,f,m):=h.dn j r (Vf (UO.mp a).1 c) a e he p (by rw[i];show q);show#[v,g,f,by ext]
end
theorem uT{α:Type}:∀{m l:G α},m.Nodup->(∀x∈m,x∈l)->m.length<=l.length
 |[],_,_,_=>Vu _
 |a::r,l,h,g=>by
  let(f,e,rfl):=List.append_of_mem (g a UT);rw[Wh]at h;let:=uT (m:=r) (l:=f++e) h.2 λx b=>by
   rcases Vo.mp (g x (UX _ b))with q|q
   .show VU _ q
   .rcases Vh.mp q with rfl|q
    .show a7 b h.1
    .show Vp _ q
  rw[US]at this⊢;rw[U4,U4];ext
def Me:G WW->G TP
 |[]=>[]
 |s::r=>(s,0)::(s,1)::(s,2)::(s,3)::Me r
theorem zL:∀l:G WW,(Me l).length=4*l.length
 |[]=>rfl
 |s::r=>by show(Me r).length+4=4*(r.length+1);rw[zL r];ext
theorem yJ{s:WW}{d:Nat}(hd:d<=3):∀{l:G WW},s∈l->(s,d)∈Me l
 |[],h=>by ext h
 |a::r,h=>by
  rcases Vh.mp h with rfl|h
  .let:d=0\/d=1\/d=2\/d=3:=by ext
   rcases this with rfl|rfl|rfl|rfl<;>simp[Me]
  .let:=yJ hd h;simp only[Me,Vh];show .inr (.inr (.inr (.inr this)))
def R8{b:Bd}{w:G Nat}{es:G YB}(B:TC b w es)(f:b.n<=2)(g:b.ls.length<=2)(e:b.wt<=2){l:G TP}(h:l.Nodup)(j:∀p∈l,∃k,RT b w es k p):l.length<=264:=by
 let(m,I,u,t,r,q):=few B.vb f g e;let:=uT (l:=Me m) h λp o=>by let(k,a):=j p o;let i:=(r _ (a.inv B t q)).2;let:=(B.rw a).2;let:=B.wl;show yJ (d:=p.2) () i
 rw[zL]at this;ext
section
variable{b:Bd}(Z:VB b){s:WW}{p:WW×Sn}{k:Nat}
def F7:(go p k).2.length<=p.2.length+1:=by
 ext go;split
 .rename_i a q
  rw[US];let:(Lz (jz p.1.ac k P) a).length<=1:=by
   cases a with
   |Vk c=>show(if kq (jz p.1.ac k P) (.Vk c)=S then[]else[(c,R)]:Sn).length<=1;split<;>show UN W
   |_=>show Vu _
  ext
 .omega
def Jk:(zN b p k).2.length<=p.2.length+1:=by
 let e:zN b p k=si b (iO p.1.ac p.1.oc) (dI p.1 (look b (iO p.1.ac p.1.oc) k),p.2) k (look b (iO p.1.ac p.1.oc) k):=W;rw[e];generalize look b (iO p.1.ac p.1.oc) k=m;generalize iO p.1.ac p.1.oc=L;let cm:∀a,(eC (dI p.1 m,p.2) k a).2.length<=p.2.length+1:=λa=>lx;cases m with
 |Yu c n=>show Yl _
 |Vk c=>
  show(if(decide (L=0)&& !(dB b [k]).isEmpty)=S then({dI p.1 (.Vk c)with wt:=M ([k],0,P)},p.2)else eC (dI p.1 (.Vk c),p.2) k (.Vk c)).2.length<=_;split
  .show Yl _
  .show cm _
 |once n=>show cm .none
 |WN n=>show cm _
 |none=>show cm _
 |below=>show cm _
include Z
def uy(a:SW b s)(i:EV b e):(bq b s e).2.length<=100:=by
 let d:=dM Z (p:=(s,[])) a.sa (SW.wd Z a);let j:(bH b (s,[])).2.length<=5:=d.2.2.1;cases e with
 |turn=>
  show(gb b (s,[])).2.length<=100;ext gb;split
  .simp_all
  .rename_i f g w q
   let v:=(a.wt f g w q).1;split
   .let:=(dM Z (p:=({s with wt:=M (f,g+1,w)},[])) #[a.sa.ac,a.sa.oc] λ_ _ _ e=>by ext e;show#[v.ne,v.nd,v.kn,v.kf,by let:=v.g0;ext,v.tp,v.ch]).2.2.1;show Vv this (show 0+5<=100 by decide)
   simp_all
 |up k=>
  show(kN b (s,[]) k).2.length<=100;ext kN;split
  .rename_i q;let z:=(jF Z a q).2;let z:(STP.bp b (s,[]) k).2.length<=5:=z;let:=F7 (p:=STP.bp b (s,[]) k) (k:=k);ext
  .show Vv F7 (show 0+1<=100 by decide)
 |down k=>
  show(gH b (s,[]) k).2.length<=100;ext gH;split
  .simp_all
  .rename_i q
   rw[Wi,not_or]at q;let m:s.ac k=P:=by simp_all
   let l:yR s.wt k=R:=by simp_all
   split
   .rename_i h
    let(f,g,e1,e2,e3,e4):=tK Z a i m l h;ext oK;rw[e1];dsimp only;split
    .let:=(dM Z (p:=({s with wt:=M (f++[k],g,P)},[])) #[a.sa.ac,a.sa.oc] λ_ _ _ e=>by ext e;show e3).2.2.1;show Vv this (show 0+5<=100 by decide)
    .show Vu _
   .let:=Jk (b:=b) (p:=bH b (s,[])) (k:=k);ext
end
section
variable{ρ:aQ}{ω Y Z:aH}{x:SV}
def Fh(b:o ρ ω=.ok xs Y)(a:rK F n xs Y=.ok x Z):pp F n o ρ ω=.ok x Z:=by ext pp;rw[b,d0,a];rfl
def B9(sn:G D)(st:D):frz 4 (ω++[.lst (sn.map .fz)]) (.tp [.rf ω.length,.fz st])=M (.tuple [.list sn,st],ω++[.dead]):=by
 let e1:frz 3 (ω++[.lst (sn.map .fz)]) (.rf ω.length)=M (.list sn,ω++[.dead]):=by ext frz;rw[aM];dsimp only;rw[tV];dsimp only;rw[eN]
 let e2:mZ (frz 3) (ω++[.lst (sn.map .fz)]) [.rf ω.length,.fz st]=M ([.list sn,st],ω++[.dead]):=by ext mZ;rw[e1];rfl
 ext frz;rw[show([AV.rf ω.length,AV.fz st].map AV.sv)=[.rf ω.length,.fz st]from rfl,e2]
theorem yF(a:VB b)(f:SW b s)(g:EV b e)(j:fa ρ ω=.ok (.fz (bD b)) ω)(i:fb ρ ω=.ok (.fz (dX s)) ω)(h:fc ρ ω=.ok (.fz (bU e)) ω):jV (pp STP.ka 3 (aj fa (aj fb (aj fc aK)))) ρ ω=.ok (.fz (.tuple [.list ((bq b s e).2.map jX),dX (bq b s e).1])) (ω++[.dead]):=
 jd (Fh (aq j (aq i (aq h aI))) (Q2 a f g)) (B9 _ _)
end
def E3(h:Out r T X)(k:∀a c,T a c->C a c)(b:∀x,X x->X' x):Out r C X':=by
 show#[?_];let h:=h.out;cases r with
 |bad=>show h
 |er x o=>show b x h
 |ok a o=>show k a o h
def G9:i8 o m fs (a++K)=i8 o m fs a++K:=by ext i8;rw[Vy];rfl
def HX:(i8 o m fs a).length=o.length+3+a.length:=by ext i8;rw[US];show o.length+(a.length+1+1+1)=_;ext
theorem TB{n:Nat}{v:SV}(h:xs[n]?=M v):ki xs (n:Int)=M v:=tf () (by rw[V2];show h)
def MQ{b:Bd}{w:bb Nat}{es:bb YB}{fs:bb Te}{n t i j k:Nat}{q:Te}{m:Int}{c:aH}(B:BT b w es fs t)(h:PSt i j k m (fs.map gn) c)(E:fs[n]?=cL q):∃(J:aH) (row:bb D),cw [.rf i,.fz (nd n)] c=.ok (.rf (c.length+1)) (c++J)/\J[1]?=cL (.lst (row.map .fz))/\row.length=q.d:=by
 let lt:=h.lt;rw[UK]at lt;let C:Out (cw [.rf i,.fz (nd n)] c) (λv g=>∃row:bb D,v=.rf (c.length+1)/\g=c++[.lst (row.reverse.map .fz),.lst (row.map .fz)]/\row.length=q.d) (λ_=>False):=by
  show sk W ?_;ext dh;show ci (ρ1:=[cL (.rf i),-(nd n),cL (.rf c.length),lD]) (dH (by ext:0)) W ?_;let H:∀{X:aH},PSt i j k m (fs.map gn) (c++X):=λ{X}=>by let N:=(UO.mp h.o).1;let M:=(UO.mp h.f).1;let L:=(UO.mp h.n).1;show#[(U1 N).trans h.o,(U1 M).trans h.f,(U1 L).trans h.n,h.jk,h.ij,h.ik,h.lt]
  let G:∀{X:aH} {e:aQ} {f:dj} {a:Nat} {r:Te},e[0]?=cL (cL (.rf i))->f e (c++X)=.ok (.fz (nd a)) (c++X)->fs[a]?=cL r->i7 (aP "Places" "found" (ar 0)) f e (c++X)=.ok (.fz (vY (gn r))) (c++X):=λ{X e f a r} h0 y u=>D1 (gI (bF h0) H.o lS) y W H.f (TB (by rw[UZ,UZ,UZ,u];rfl));show ci (x:=.fz (vY (gn q))) (ρ1:=[cL (.rf i),-(nd n),cL (.rf c.length),-(vY (gn q))]) (G W (ah (af W)) E) W ?_;show je (uH (λs e g=>∃(row:bb D) (a:Nat) (r:Te),e=[cL (.rf i),-(nd n),cL (.rf c.length),-(vY (gn r))]/\g=c++[.lst (row.map .fz)]/\fs[a]?=cL r/\row.length=s/\a+s<=n/\row.length+r.d=q.d) 100000 () #[[],n,q,W,W,E,W,UU _,XB _] ?_);rintro s e g ⟨row,a,r,rfl,rfl,o,T,Y,hd⟩;let P:=(UO.mp E).1;by_cases O:a=0
  .subst O;rw[B.z]at o;ext o;let F:bh (az (ay i6 (ay aR (aa 3) (~~~1)) (pC .none))) [cL (.rf i),-(nd n),cL (.rf c.length),-(vY (gn Sf))] (c++[.lst (row.map .fz)])=.ok R (c++[.lst (row.map .fz)]):=aX (a8 (aB (rv:=.fz (.bool R)) (aB (rv:=.fz .none) (af W) aA W W iC) aA W W W) W);show .inl #[_,F,?_];show sV ((JX (xs:=row.map .fz) (bF W) aM).trans (by rw[US,Vy,<-List.map_reverse];rfl)) #[row.reverse,W,by rw[List.reverse_reverse];rfl,by rw[Zf];show hd]
  .let(K,A,y,u,p,Q):=B.bk a r o ();let F:bh (az (ay i6 (ay aR (aa 3) (~~~1)) (pC .none))) [cL (.rf i),-(nd n),cL (.rf c.length),-(vY (gn r))] (c++[.lst (row.map .fz)])=.ok S (c++[.lst (row.map .fz)]):=aX (a8 (aB (rv:=.fz (.bool S)) (aB (rv:=.fz r.b) (af W) aA W W iC) aA W W (by rw[p];rfl)) W);show .inr #[by ext,_,F,?_];let I:=sS (ρ:=[cL (.rf i),-(nd n),cL (.rf c.length),-(vY (gn r))]) (fo:=ar 2) (fe:=ag (ay aR (aa 3) (~~~2))) (x:=.fz r.e) (bF W) (aM (l:=c) (x:=Cell.lst (row.map .fz))) (ah (aB (rv:=.fz r.e) (af W) aA W W p7)) aM (by rw[UK];ext);rw[eN,show row.map SV.fz++[.fz r.e]=(row++[r.e]).map SV.fz by rw[Vm];rfl]at I;show C8 (gP I) ?_;show wF (ρ1:=[cL (.rf i),-(nd n),cL (.rf c.length),-(vY (gn A))]) (lP (G W (ah (aB (rv:=.fz (nd K)) (af W) aA W W (by rw[<-p];show iC))) u) W) #[row++[r.e],K,A,W,W,u,by rw[US,T];rfl,by ext,by rw[US];show row.length+1+A.d=_;ext]
 let(v,g,y,row,rfl,rfl,p):=C.all;show#[_,row,y,W,p]
abbrev E0(b:Bd)(w:G Nat)(m:Int)(es:G YB)(l n:Nat)(g f e a:I SV):aQ:=[-(bD b),-(.str (cG w)),-(.int m),-(.list (es.map bU)),M (.rf l),-(nd n),g,f,e,a]
def Uj(b:Bd)(w:G Nat)(es:G YB)(m:Int)(x:Xc):Prop:=x=TM m/\∃l:G TP,l.Nodup/\(∀p∈l,∃k,RT b w es k p)/\m<(l.length:Int)
def wo{b:Bd}(S:VB b){n:Nat}(D:b.n=n)(V:n<=5){w:bb Nat}(hw:∀c∈w,c<26)(wl:w.length<=3){m:Int}(m0:0<m)(Y:m<=1000)(j:aH):Out (fV [.fz (bD b),.fz (.str (cG w)),.fz (.int m)] j) (λv s=>∃(fs:bb Te) (k:aH),v=.rf (j.length+1)/\s=i8 (j++[.dead]) m (fs.map gn) k/\BT b w (uz n) fs fs.length/\(fs.length:Int)<=m) (Uj b w (uz n) m):=by
 let Z:(uz n).length<=1000:=by ext uz;rw[US,US,UK,UK,Vs];show n+n+1<=_;ext
 let ev:=OB D V;let B:TC b w (uz n):=#[S,F5 D,hw,wl];generalize uz n=es at Z ev B;show sk W ?_;ext fU;let e1:jV (ag (d8 fS 1 {aa 0})) [-(bD b),-(.str (cG w)),-(.int m),lD,lD,lD,lD,lD,lD,lD] j=.ok (.fz (.list (es.map bU))) (j++[.dead]):=by show jd (dH (dZ (ai (af W) av) W W ev)) ?_;rw[jC aM,eN]
 show ci e1 W ?_;let O:j.length+1=(j++[Cell.dead]).length:=by rw[US];rfl
 rw[O];generalize j++[Cell.dead]=base;let mk:=Mh (C:= "Places") (F:=cA) (fa:=aj (ag (aU {pC (.tuple [(.tuple []),.none,.none]),~~~0})) (aj (ag (aa 2)) aK)) (ρ:=[-(bD b),-(.str (cG w)),-(.int m),-(.list (es.map bU)),lD,lD,lD,lD,lD,lD]) (ω:=base) (aq (ah (d:=kT PZ) (bG (ai aA (ai aA av)) W (UN W))) (aq (ah (af W)) aI)) W;rw[EW (iS (b:=b) (w:=w) #[gS b,Vu _]) () Y,a3 ()]at mk;show ci (ρ1:=[-(bD b),-(.str (cG w)),-(.int m),-(.list (es.map bU)),cL (.rf base.length),lD,lD,lD,lD,lD]) mk W ?_;show ci (ρ1:=E0 b w m es base.length 0 lD lD lD lD) (ah aA) W ?_;show je (uH (λn ρ ω=>∃(fs:bb Te) (k:aH) (L G A l:bg SV),ρ=E0 b w m es base.length n L G A l/\ω=i8 base m (fs.map gn) k/\BT b w es fs n/\n<=fs.length/\(fs.length:Int)<=m) 1000 () #[[Sf],[],lD,lD,lD,lD,W,W,Uz,Vu _,by show(1:Int)<=m;ext] ?_);rintro n ρ ω ⟨fs,k,L,G,A,l,rfl,rfl,bi,hle,hlm⟩;let P:∀{fs:bb Te} {k:aH},(fs.length:Int)<=m->PSt base.length (base.length+1) (base.length+2) m (fs.map gn) (i8 base m (fs.map gn) k):=λ{fs k} h=>wA (by rw[UK];ext);let ff:∀{fs:bb Te} {k:aH} {L G A l:bg SV},(fs.length:Int)<=m->aP "Places" "found" (ar 4) (E0 b w m es base.length n L G A l) (i8 base m (fs.map gn) k)=.ok (.rf (base.length+1)) (i8 base m (fs.map gn) k):=λh=>gI (bF W) (P h).o lS;let R:Gp fu (aj (aP "Places" "found" (ar 4)) aK) (E0 b w m es base.length n L G A l) (i8 base m (fs.map gn) k)=.ok (.fz (nd fs.length)) (i8 base m (fs.map gn) k):=Dx (aq (ff hlm) aI) (by ext aF;rw[hW (P hlm).f];rfl) ((iu _).trans (by rw[UK,UK]));let H:=aN (df (ah (f:=aa 5) (af W)) R (b8 (pH (n:Int) (fs.length:Int))));by_cases Ye:n<fs.length
 case neg=>
  rw[a5 ()]at H;let e:n=fs.length:=by ext
  subst e;show .inl #[_,H,sV (bF W) #[fs,k,W,W,bi,hlm]]
 case pos=>
  rw[a4 ()]at H;show .inr #[by ext,_,H,?_];obtain⟨q,E⟩:∃q,fs[n]?=cL q:=#[_,U6 Ye];let st:i7 (i7 (aP "Places" "found" (ar 4)) (ag (aa 5))) (ag (~~~0)) (E0 b w m es base.length n L G A l) (i8 base m (fs.map gn) k)=.ok (.fz (kT q.p)) (i8 base m (fs.map gn) k):=cN (dx:=vY (gn q)) (D1 (ff hlm) (ah (d:=nd n) (af W)) W (P hlm).f (TB (by rw[UZ,UZ,UZ,E];rfl))) (ah aA) g7;show ci (x:=.fz (kT q.p)) (ρ1:=E0 b w m es base.length n (-(kT q.p)) G A l) st W ?_;show je (CD (λi ρ ω=>∃(fs:bb Te) (k:aH) (G A l:bg SV),ρ=E0 b w m es base.length n (-(kT q.p)) G A l/\ω=i8 base m (fs.map gn) k/\BT b w es fs n/\fs[n]?=cL q/\(fs.length:Int)<=m/\∀e∈es.take i,Dt b w fs q e) (nZ (iK (d:=.list (es.map bU)) (af W) W W)) #[fs,k,G,A,l,W,W,bi,E,hlm,λe he=>by ext he] ?_ ?_)
  .clear H R st Ye E hle bi hlm
   rintro i d ρ ω Q ⟨fs,k,G,A,l,rfl,rfl,bi,E,hlm,dn⟩;rw[UZ]at Q;cases qe:es[i]? with
   |none=>rw[qe]at Q;ext Q
   |some e=>
    rw[qe]at Q;cases Vd Q;let M:=Vr qe;let N:=B.rw (bi.rw q (Vr E));show#[E0 b w m es base.length n (-(kT q.p)) (-(bU e)) A l,_,W,?_];let U:=yF (ρ:=E0 b w m es base.length n (-(kT q.p)) (-(bU e)) A l) (ω:=i8 base m (fs.map gn) k) S N.1 (B.eb e M) (fa:=ag (aa 0)) (fb:=ag (ay aR (aa 6) (~~~0))) (fc:=ag (aa 7)) (ah (af W)) (ah (aB (rv:=.fz (dX q.p.1)) (af W) aA W W g7)) (ah (af W));rw[<-G9]at U;let k1:=yC S N.1 (B.eb e M);let k2:=uy S N.1 (B.eb e M);let dk:=Ki hw wl (d:=q.p.2) (by let:=N.2;ext) k1 ();let a:HZ b w q.p e=(w9 w q.p.2 (bq b q.p.1 e).2).map λd=>((bq b q.p.1 e).1,d):=W;show ci (ρ1:=E0 b w m es base.length n (-(kT q.p)) (-(bU e)) (-(.tuple [.list ((bq b q.p.1 e).2.map jX),dX (bq b q.p.1 e).1])) l) U W ?_;clear U;generalize bq b q.p.1 e=u at k1 dk a;generalize k++[Cell.dead]=k;show ci (ρ1:=E0 b w m es base.length n (-(kT q.p)) (-(bU e)) (-(.tuple [.list (u.2.map jX),dX u.1])) (-(Rm (w9 w q.p.2 u.2)))) (ah (dZ (rv:=.fz (Rm (w9 w q.p.2 u.2))) (ds:=[.str (cG w),nd q.p.2,.list (u.2.map jX)]) (ai (af W) (ai (aB (rv:=.fz (nd q.p.2)) (af W) aA W W iC) (ai (aB (rv:=.fz (.list (u.2.map jX))) (af W) aA W W g7) av))) W W dk)) W ?_;let T:es.take (i+1)=es.take i++[e]:=by rw[acx,qe];rfl
    cases qd:w9 w q.p.2 u.2 with
    |none=>
     rw[qd]at a;show .eq (c9 (aX (a8 (aB (rv:=.fz (.bool UL)) (af W) aA W W W) W)) dF) #[fs,k,_,_,_,W,W,bi,E,hlm,λf g=>?_];rw[T]at g;rcases Vo.mp g with g|g
     .show dn f g
     .rw[U8.mp g];intro p K;rw[a]at K;ext K
    |some d=>
     rw[qd]at a;let a:HZ b w q.p e=cL (u.1,d):=a;let t2:bh (az (ay i6 (aa 9) (pC .none))) (E0 b w m es base.length n (-(kT q.p)) (-(bU e)) (-(.tuple [.list (u.2.map jX),dX u.1])) (-(Rm (cL d)))) (i8 base m (fs.map gn) k)=.ok UJ (i8 base m (fs.map gn) k):=aX (a8 (aB (rv:=.fz (.bool UJ)) (af W) aA W W W) W);let pn:=B.nx N M a;let I:=yS (F:=bO) (fo:=ar 4) (fa:=aj (ag (aU {ay aR (aa 8) (~~~1),aa 9})) (aj (ag (aa 5)) (aj (ag (aa 7)) aK))) (ρ:=E0 b w m es base.length n (-(kT q.p)) (-(bU e)) (-(.tuple [.list (u.2.map jX),dX u.1])) (-(Rm (cL d)))) (ω:=i8 base m (fs.map gn) k) (m:= "enter") (n:=4) (bF W) (P hlm).o ri (aq (ah (d:=kT (u.1,d)) (bG (ai (aB (rv:=.fz (dX u.1)) (af W) aA W W iC) (ai (af W) av)) W (UN W))) (aq (ah (af W)) (aq (ah (af W)) aI))) W;rw[rb (P hlm) (vE () Y) Y (iS pn)]at I;show .eq (de t2 W) (ES ?_);cases qi:gx (fs.map gn) (kT (u.1,d))with
     |some t=>
      rw[qi]at I;show .eq I #[fs,k,_,_,_,W,W,bi,E,hlm,λf g=>?_];rw[T]at g;rcases Vo.mp g with g|g
      .show dn f g
      .rw[U8.mp g];show bi.old B E M a qi
     |none=>
      rw[qi]at I;dsimp only at I;rw[UK]at I;let bn:=bi.new B E M a qi;by_cases hm:m<=(fs.length:Int)
      .rw[ax hm]at I
       show .eq I #[W,_,bn.un,λp K=>?_,?_]
       .let(r,hr,rfl):=Vl.mp K;show#[r.d,bn.rw r hr]
       .rw[UK,US];show m<((fs.length+1:Nat):Int);ext
      .rw[a3 hm,yk]at I
       let X:=(UO.mp E).1;show .eq I #[fs++[#[(u.1,d),nd n,bU e,q.d+1]],k,_,_,_,W,by rw[Vm];rfl,bn,(U1 X).trans E,?_,λf g=>?_]
       .rw[US];show((fs.length+1:Nat):Int)<=m;ext
       .rw[T]at g
        rcases Vo.mp g with g|g
        .show(dn f g).mono _
        .rw[U8.mp g];intro p K;rw[a]at K;ext K;show#[_,Vp _ UT,W,UU _]
  .rintro ρ ω ⟨fs,k,G,A,l,rfl,rfl,bi,E,hlm,dn⟩;rw[UK,ac0]at dn;let X:=(UO.mp E).1;show wF (Pb (ω3:=[]) (i:=5) (x:=.fz (nd n)) (y:=.fz (.int 1)) (z:=.fz (nd (n+1))) W (ah aA) (b8 W)) #[fs,k,_,_,_,_,W,W,bi.next E dn,X,hlm]
def B2{b:Bd}(M:VB b){n:Nat}(V:b.n=n)(n2:n<=2)(l2:b.ls.length<=2)(G:b.wt<=2){w:bb Nat}(S:∀c∈w,c<26)(L:w.length<=3){k:Nat}(U:RT b w (uz n) k (fx,w.length))(s:aH):∃(i:Nat) (e:aH) (row:bb D),kX [.fz (bD b),.fz (.str (cG w)),.fz (.int 400)] s=.ok (.rf i) e/\e[i]?=cL (.lst (row.map .fz))/\row.length<=k/\s.length<=i/\∃K,e=s++K:=by
 let B:TC b w (uz n):=#[M,F5 V,S,L];let H:Out (kX [.fz (bD b),.fz (.str (cG w)),.fz (.int 400)] s) (λv e=>∃(i:Nat) (row:bb D),v=.rf i/\e[i]?=cL (.lst (row.map .fz))/\row.length<=k/\s.length<=i/\∃K,e=s++K) (λ_=>False):=by
  show sk W ?_;ext lm;let po:=E3 (wo M V () S L (m:=400) () () s) (X':=λ_=>False) (λa o h=>h) (λx #[_,l,f,A,X]=>by let:=R8 B () l2 G f A;ext);let ca:=CY (F:=fV) (es:=[]) (fa:=aj (ag (aa 0)) (aj (ag (aa 1)) (aj (ag (aa 2)) aK))) (ρ:=[-(bD b),-(.str (cG w)),-(.int 400),lD,lD]) (ω:=s) (n:=3) (aq (ah (af W)) (aq (ah (af W)) (aq (ah (af W)) aI))) W;show JL (.eq ca (po.imp λv e hv=>?_));let(fs,J,rfl,rfl,E,hlm):=hv;let g:s.length+1=(s++[Cell.dead]).length:=by rw[US];rfl
  rw[g];generalize hb:s++[Cell.dead]=base;let P:PSt base.length (base.length+1) (base.length+2) 400 (fs.map gn) (i8 base 400 (fs.map gn) J):=wA (by rw[UK];ext);let ln:=xj (w:=w) ();show kH (aD _ _ [-(bD b),-(.str (cG w)),-(.int 400),cL (.rf base.length),lD] _) _ _ _;show ci (ρ1:=[-(bD b),-(.str (cG w)),-(.int 400),cL (.rf base.length),-(kT (fx,w.length))]) (ah (d:=kT (fx,w.length)) (bG (ds:=[dX fx,nd w.length]) (ai aA (ai (cS (rv:=.fz (nd w.length)) (ai (af W) av) W ln) av)) W (UN W))) W ?_;let C:=B.rw U;let y:=uJ (iS C);let(r,Q,O,rd):=E.all (UU _) k _ U;obtain⟨t,T⟩:∃t,gx (fs.map gn) (kT (fx,w.length))=cL t:=by
   cases q:gx (fs.map gn) (kT (fx,w.length))with
   |some t=>show#[t,W]
   |none=>let:=qp q (gn r) (Vl.mpr #[r,Q,W]);rw[show(gn r).p=kT (fx,w.length) by show kT r.p=_;rw[O],ug (iS C)]at this;ext this
  obtain⟨u,hu,hd⟩:∃u,fs[t]?=cL u/\u.d<=k:=by
   let(x,f,A):=wP T;rw[UZ]at f;cases z:fs[t]? with
   |none=>rw[z]at f;ext f
   |some u=>rw[z]at f;ext f;let um:=Vr z;let R:=B.rw (E.rw u um);let ue:=Fx B R C (LD.kd_eqv _ _ (LD.keyD_kd (iS R)).1 (LD.keyD_kd (iS C)).1 A);let(j,I):=Wl.mp Q;let tl:=(UO.mp z).1;let:t=j:=(acy (show t<(fs.map (·.p)).length by rw[UK];show tl) E.un).mp (by rw[UZ,UZ,z,I];show cL u.p=cL r.p;rw[ue,O]);subst this;rw[z]at I;ext I;show#[_,W,rd]
  let Z:aP "Places" "numbers" (ar 3) [-(bD b),-(.str (cG w)),-(.int 400),cL (.rf base.length),-(kT (fx,w.length))] (i8 base 400 (fs.map gn) J)=.ok (.rf (base.length+2)) (i8 base 400 (fs.map gn) J):=gI (bF W) P.o mM;let N:∀{o:aH},ag (aa 4) [-(bD b),-(.str (cG w)),-(.int 400),cL (.rf base.length),-(kT (fx,w.length))] o=.ok (.fz (kT (fx,w.length))) o:=ah (af W);let Y:=aN (yl (neg:=UJ) N Z y P.n);let gg:gW (hG 0 (fs.map gn)) (kT (fx,w.length))=cL (nd t):=by rw[jg,T];show cL (nd (0+t))=_;rw[XB]
  rw[gg]at Y;show LW Y (Jl ?_);let(K,row,w1,G,w3):=MQ E P hu;let me:aG "Places" "way_to" cw 2 (ar 3) (aj (jq (aP "Places" "numbers" (ar 3)) (ag (aa 4))) aK) [-(bD b),-(.str (cG w)),-(.int 400),cL (.rf base.length),-(kT (fx,w.length))] (i8 base 400 (fs.map gn) J)=.ok (.rf ((i8 base 400 (fs.map gn) J).length+1)) (i8 base 400 (fs.map gn) J++K):=Af (bF W) P.o (by rfl) (aq (uC Z N y P.n gg) aI) W w1;show sV me #[_,row,W,A7.trans G,by ext,by rw[HX,<-hb,US];ext,by ext i8;rw[<-hb,Vy,Vy];show#[_,W]]
 let(v,e,f,i,row,rfl,A,X):=H.all;show#[i,e,row,f,A,X]
def Az{b:Bd}(l:VB b){n:Nat}(x:b.n=n)(m:n<=2)(o:b.ls.length<=2)(h:b.wt<=2){w:G Nat}(q:∀c∈w,c<26)(g:w.length<=3){k:Nat}(r:RT b w (uz n) k (fx,w.length))(s:aH):∃d,gj [.fz (bD b),.fz (.str (cG w)),.fz (nd k)] s=.ok (.fz (.bool S)) d/\∀(j:Nat) (c:Cell),s[j]?=M c->d[j]?=M c:=by let(i,d,row,v,u,B,A,K,t):=B2 l x m o h q g r s;let y:frz 4 d (.rf i)=M (.list row,d.set i .dead):=jC u;let e:=ym (row.length:Int) (k:Int);rw[a4 ()]at e;show#[_,hU (ρ:=[-(bD b),-(.str (cG w)),-(nd k),P]) W (cg (lP (i:=3) (jd (Bu (xs:=[.fz (bD b),.fz (.str (cG w))]) (aq (ah (af W)) (aq (ah (af W)) aI)) W v) y) W) (gD (ah (sU (a:=S) (b:=S) (a8 (aB (rv:=.fz (.bool S)) (af W) aA W W W) W) λ_=>aB (rv:=.fz (.bool S)) (cS (rv:=.fz (nd row.length)) (ds:=[.list row]) (ai (af W) av) W (iu _)) (af W) W W e)))),λj c f=>?_];let p:=(UO.mp f).1;rw[VV (),t,U1 p];show f
def nt(a:G Int)(k:Int)(e:0<=k):∃c:Int,b6 [.list (a.map .int),.int k]=.ok (.fz (.int c)):=by
 obtain⟨n,rfl⟩:∃n:Nat,k=(n:Int):=#[k.toNat,by ext];let b:fu [.list (a.map .int)]=-(nd a.length):=(iu _).trans (by simp_all);by_cases h:n<a.length
 .show#[a[n],g9 (ρ:=[-(.list (a.map .int)),-(nd n)]) W (d6 (pv:=.fz (.int a[n])) (rv:=.fz (.int a[n])) (NV (a8 (aB (rv:=.fz (.bool S)) (af W) (cS (rv:=.fz (nd a.length)) (ai (af W) av) W b) W W ?_) W) (aB (rv:=.fz (.int a[n])) (af W) (af W) W W (T9 ?_))) W W)]
  .rw[pH,a4 ()]
  simp_all
 .show#[0,g9 (ρ:=[-(.list (a.map .int)),-(nd n)]) W (d6 (pv:=.fz (.int 0)) (rv:=.fz (.int 0)) (Mg (a8 (aB (rv:=.fz (.bool R)) (af W) (cS (rv:=.fz (nd a.length)) (ai (af W) av) W b) W W ?_) W) aA) W W)];rw[pH,a5 ()]
theorem Sl{i j:Int}(h: -2^64<i/\i<2^64):fq (.int i) (.int j)=-(.int (i*j)):=Hm h
theorem TD{i j:Int}(h: -2^64<j/\j<2^64):fq (.int i) (.int j)=-(.int (i*j)):=Jx h
def An(x s m:Int):Int:=((x % 1000033+s)*(s+521) % 1000033*((x % 1000033+s)*(s+521) % 1000033)+x/1000033+7*s) % 999983/3 % m
theorem ke{x s m:Int}(hm:0<m):0<=An x s m/\An x s m<m:=#[Xq _ (),W0 _ hm]
def gq(x:Int){s m:Int}(p:0<=s)(o:s<1000)(hm:0<m):bf [.int x,.int s,.int m]=.ok (.fz (.int (An x s m))):=by ext An;let n:cI (.int x) (.int 1000033)=-(.int (x % 1000033)):=d4 ();let f:fq (.int (x % 1000033+s)) (.int (s+521))=-(.int ((x % 1000033+s)*(s+521))):=TD #[by ext,by ext];generalize (x % 1000033+s)*(s+521)=y at f;let e:cI (.int y) (.int 1000033)=-(.int (y % 1000033)):=d4 ();let g:0<=y % 1000033/\y % 1000033<1000033:=#[Xq _ (),W0 _ ()];generalize y % 1000033=z at e g;let b:fq (.int z) (.int z)=-(.int (z*z)):=TD #[by ext,by ext];let l:ef (.int x) (.int 1000033)=-(.int (x/1000033)):=eX #[by decide,by decide];let j:fq (.int 7) (.int s)=-(.int (7*s)):=Sl #[by decide,by decide];generalize z*z=u at b;let a:cI (.int (u+x/1000033+7*s)) (.int 999983)=-(.int ((u+x/1000033+7*s) % 999983)):=d4 ();generalize (u+x/1000033+7*s) % 999983=v at a;let i:ef (.int v) (.int 3)=-(.int (v/3)):=eX #[by decide,by decide];let h:cI (.int (v/3)) (.int m)=-(.int (v/3 % m)):=d4 hm;show g9 (ρ:=[-(.int x),-(.int s),-(.int m),P]) W (xu (DN (by ext:0) W (xu (DN (by ext:0) W (d6 (by ext:0) W W)))))
def NL{z:Str}{cs:G Nat}(d:z.cps.toList=cs.map (97+·))(a:z.length<=1000000){r:Int}{c:Nat}(b:0<=r)(h:cs[r.toNat]?=M c):L3.i7 (.str z) (.int r)=-(.str (cT c)):=by show(if z.length<=1000000 then(ki z.cps.toList r).map (λc=>RV.fz (.str #[#v[c]]))else P)=_;rw[ax a,d,tf (v:=97+c) b (by simp_all)];rfl
def w6{z:Str}(cs:G Nat)(d:z.cps.toList=cs.map (97+·))(b:z.length<=1000000)(e:∀c∈cs,c<26){r:Int}(f:0<=r)(g:r<cs.length):∃c,c<26/\L3.i7 (.str z) (.int r)=-(.str (cT c)):=by
 let a:r.toNat<cs.length:=by ext
 show#[cs[r.toNat],e _ (acY a),NL d b f (U6 a)]
def Fj(a:G Int)(lo b:I Int):∃ms:G Int,ms.length<=a.length/\Q1 (.list (a.map .int)) lo b=M (.ow (ms.map .int)):=by
 show#[(a.drop (HT.sIx a.length 0 lo)).take (HT.sIx a.length a.length b - HT.sIx a.length 0 lo),?_,?_]
 .rw[V8,Xj];ext
 .show M (RV.ow (mq (a.map .int) lo b))=_;ext mq;simp_all
def LM(a:G (G Nat)):G D:=a.map λK=>.tuple (aO K)
theorem yq:∀a:G (G Nat),UM.canLayAll0 (LM a)=S
 |[]=>rfl
 |K::r=>by show(UM.canLayAll0 (aO K)&&UM.canLayAll0 (LM r))=S;rw[gK,yq r];rfl
theorem yn(s:G Nat):∀a:G (G Nat),((LM a).any λe=>UM.eqv e (.tuple (aO s)))=decide (s∈a)
 |[]=>rfl
 |K::r=>by
  show(UM.eqvAll (aO K) (aO s)||(LM r).any λe=>UM.eqv e (.tuple (aO s)))=_;rw[yn s r,tW]
  grind
def Jo(s:G Nat)(a:G (G Nat)):mv (.tuple (aO s)) (.list (LM a))=-(.bool (!decide (s∈a))):=by show(if(j4 (.tuple (aO s))&&UM.canLayAll0 (LM a))=S then _ else _)=_;rw[MP,yq,WQ,ax W,yn]
def AG(cs:G (G Nat×Nat))(b:cs.length<=1000)(a:aL)(e:cC a=a):iY (cW (gN 0) dW (ay aR (aa 0) (~~~0)) (cs.map Wf) (P::a) [])=.ok (LM (cs.map (·.1))):=by ext LM;rw[VJ];show jR Wf (λc=>.tuple (aO c.1)) cs b e λc _=>aB (rv:=.fz (.tuple (aO c.1))) (af W) aA W W g7
def jv{n i k:Nat}(h:(U0 n)[i]?=M k):k=i/\i<n:=by let(b,a):=UO.mp h;rw[List.getElem_range]at a;rw[Vs]at b;show#[a.symm,b]
def y4{n a:Int}{e:G (G Mn)}{b:G Mn}(h:VL n a e)(g:(b.length:Int)=n)(f:∀m∈b,VM e.length a m):VL n a (e++[b]):=by
 intro i l j;rcases L10.bM j with o|⟨rfl,rfl⟩
 .show h i l o
 .show#[g,f]
def CF{a:Int}(b:1<=a):∃M:Int,rq [.int 1,.int (a - 1)]=-(.int M)/\1<=M/\(1<a->M=a - 1):=by show#[_,W,?_];split<;>ext
def HH(c:Int)(L:Nat)(a:Int)(n:1<=a):∃m:Mn,VM L a m/\dR [.int c,nd L,.int a]=.ok (.fz (mD m)):=by
 let r:=gq c (s:=5) (m:=3) () () ();let g:=ke (x:=c) (s:=5) (m:=3) ();generalize An c 5 3=C at r g;let(l,i,w):=w6 (z:= "abc") [0,1,2] (by left) (by left) () g.1 (show C<3 from g.2);let(M,v,M1,M2):=CF n;let p:=gq c (s:=7) (m:=M) () () ();let u:=ke (x:=c) (s:=7) (m:=M) ();generalize An c 7 M=y at p u;let t:=gq c (s:=3) (m:=8) () () ();generalize An c 3 8=A at t;let o:wc (nd L) (.int 0)=-(.bool (decide ((0:Int)<L))):=W;let f:∃B,fy 6 cQ [.int c,nd L,.int a]=.ok B/\∃m:Mn,VM L a m/\B=.fz (mD m):=by
  show lX (T:=λB=>∃m:Mn,VM L a m/\B=.fz (mD m)) (ρ:=[zf (.int c),zf (nd L),zf (.int a),P,P,P]) W ?_;ext cQ;show aY (ρ3:=[zf (.int c),zf (nd L),zf (.int a),zf (.str (cT l)),P,P]) (by ext:0) W W ?_;show aY (ρ3:=[zf (.int c),zf (nd L),zf (.int a),zf (.str (cT l)),zf (.int (1+y)),P]) (by ext:0) W W ?_;show aY (ρ3:=[zf (.int c),zf (nd L),zf (.int a),zf (.str (cT l)),zf (.int (1+y)),zf (.int A)]) (by ext:0) W W ?_;show ie (b:=(decide ((0:Int)<L)&&decide (5<A))) (ρ1:=[zf (.int c),zf (nd L),zf (.int a),zf (.str (cT l)),zf (.int (1+y)),zf (.int A)]) (by ext:0) (λq=>?_) (λ_=>c7 ?_)
  .rw[UH]at q;let e:=a6 q.1;show fC (pv:=.fz (mD .below)) (ρ1:=[zf (.int c),zf (nd L),zf (.int a),zf (.str (cT l)),zf (.int (1+y)),zf (.int A)]) (show _=Res.ok (PV.fz (.tuple [.str "below"]),_) by ext:0) W #[.below,by show(L:Int)≠0;ext,W]
  show ie (b:=(decide (1<a)&&decide (A=3))) (ρ1:=[zf (.int c),zf (nd L),zf (.int a),zf (.str (cT l)),zf (.int (1+y)),zf (.int A)]) (by ext:0) (λq=>?_) (λ_=>c7 ?_)
  .rw[UH]at q;let e:=M2 (a6 q.1);show fC (pv:=.fz (mD (.WN (1+y)))) (ρ1:=[zf (.int c),zf (nd L),zf (.int a),zf (.str (cT l)),zf (.int (1+y)),zf (.int A)]) (show _=Res.ok (PV.fz (.tuple [.str "layer",.int (1+y)]),_) by ext:0) W #[.WN (1+y),#[by ext,by ext],W]
  show ie (b:=(decide (1<a)&&decide (A=4))) (ρ1:=[zf (.int c),zf (nd L),zf (.int a),zf (.str (cT l)),zf (.int (1+y)),zf (.int A)]) (by ext:0) (λq=>?_) (λ_=>c7 ?_)
  .rw[UH]at q;let e:=M2 (a6 q.1);show fC (pv:=.fz (mD (.Yu l (1+y)))) (ρ1:=[zf (.int c),zf (nd L),zf (.int a),zf (.str (cT l)),zf (.int (1+y)),zf (.int A)]) (show _=Res.ok (PV.fz (.tuple [.str "tap",.str (cT l),.int (1+y)]),_) by ext:0) W #[.Yu l (1+y),#[i,by ext,by ext],W]
  show ie (b:=(decide (1<a)&&decide (A=5))) (ρ1:=[zf (.int c),zf (nd L),zf (.int a),zf (.str (cT l)),zf (.int (1+y)),zf (.int A)]) (by ext:0) (λq=>?_) (λ_=>c7 ?_)
  .rw[UH]at q;let e:=M2 (a6 q.1);show fC (pv:=.fz (mD (.once (1+y)))) (ρ1:=[zf (.int c),zf (nd L),zf (.int a),zf (.str (cT l)),zf (.int (1+y)),zf (.int A)]) (show _=Res.ok (PV.fz (.tuple [.str "once",.int (1+y)]),_) by ext:0) W #[.once (1+y),#[by ext,by ext],W]
  show d6 (pv:=.fz (mD (.Vk l))) (ρ1:=[zf (.int c),zf (nd L),zf (.int a),zf (.str (cT l)),zf (.int (1+y)),zf (.int A)]) (show _=Res.ok (PV.fz (.tuple [.str "letter",.str (cT l)]),_) by ext:0) W #[.Vk l,i,W]
 let(B,h,m,j,rfl):=f;show#[m,j,h]
theorem FU{r:Int}(b:0<=r)(a:r<26):∃c,c<26/\L3.i7 (.str "abcdefghijklmnopqrstuvwxyz") (.int r)=-(.str (cT c)):=
 w6 (z:= "abcdefghijklmnopqrstuvwxyz") (U0 26) (by left) (by left) () b (by rw[Vs];show a)
def B5(x:Int)(L:Nat)(a:Int)(j:1<=a)(p:a<=3):∃m:Mn,VM L a m/\cP [.int x,nd L,.int a]=.ok (.fz (mD m)):=by
 let e1:ef (.int x) (.int 7)=-(.int (x/7)):=eX #[by decide,by decide];let e2:cI (.int (x/7)) (.int 26)=-(.int (x/7 % 26)):=d4 ();let(l,g,u):=FU (r:=x/7 % 26) () ();let(M,t,M1,M2):=CF j;let e3:ef (.int x) (.int 182)=-(.int (x/182)):=eX #[by decide,by decide];let e4:cI (.int (x/182)) (.int M)=-(.int (x/182 % M)):=d4 ();let o:0<=x/182 % M/\x/182 % M<M:=#[Xq _ (),W0 _ ()];generalize x/182 % M=v at e4 o;let e5:cI (.int x) (.int 7)=-(.int (x % 7)):=d4 ();generalize x % 7=A at e5;let n:wc (nd L) (.int 0)=-(.bool (decide ((0:Int)<L))):=W;let f:∃y,fy 5 bE [.int x,nd L,.int a]=.ok y/\∃m:Mn,VM L a m/\y=.fz (mD m):=by
  show lX (T:=λy=>∃m:Mn,VM L a m/\y=.fz (mD m)) (ρ:=[zf (.int x),zf (nd L),zf (.int a),P,P]) W ?_;ext bE;show aY (ρ3:=[zf (.int x),zf (nd L),zf (.int a),zf (.str (cT l)),P]) (by ext:0) W W ?_;show aY (ρ3:=[zf (.int x),zf (nd L),zf (.int a),zf (.str (cT l)),zf (.int (1+v))]) (by ext:0) W W ?_;show ie (b:=(decide (A=1)&&decide ((0:Int)<L))) (ρ1:=[zf (.int x),zf (nd L),zf (.int a),zf (.str (cT l)),zf (.int (1+v))]) (by ext:0) (λq=>?_) (λ_=>c7 ?_)
  .rw[UH]at q;let e:=a6 q.2;show fC (pv:=.fz (mD .below)) (ρ1:=[zf (.int x),zf (nd L),zf (.int a),zf (.str (cT l)),zf (.int (1+v))]) (show _=Res.ok (PV.fz (.tuple [.str "below"]),_) by ext:0) W #[.below,by show(L:Int)≠0;ext,W]
  show ie (b:=decide (A=2)) (ρ1:=[zf (.int x),zf (nd L),zf (.int a),zf (.str (cT l)),zf (.int (1+v))]) (by ext:0) (λq=>?_) (λ_=>c7 ?_)
  .show fC (pv:=.fz (mD .none)) (ρ1:=[zf (.int x),zf (nd L),zf (.int a),zf (.str (cT l)),zf (.int (1+v))]) (show _=Res.ok (PV.fz (.tuple [.str "none"]),_) by ext:0) W #[.none,trivial,W]
  show ie (b:=(decide (A=3)&&decide (1<a))) (ρ1:=[zf (.int x),zf (nd L),zf (.int a),zf (.str (cT l)),zf (.int (1+v))]) (by ext:0) (λq=>?_) (λ_=>c7 ?_)
  .rw[UH]at q;let e:=M2 (a6 q.2);show fC (pv:=.fz (mD (.WN (1+v)))) (ρ1:=[zf (.int x),zf (nd L),zf (.int a),zf (.str (cT l)),zf (.int (1+v))]) (show _=Res.ok (PV.fz (.tuple [.str "layer",.int (1+v)]),_) by ext:0) W #[.WN (1+v),#[by ext,by ext],W]
  show ie (b:=(decide (A=4)&&decide (1<a))) (ρ1:=[zf (.int x),zf (nd L),zf (.int a),zf (.str (cT l)),zf (.int (1+v))]) (by ext:0) (λq=>?_) (λ_=>c7 ?_)
  .rw[UH]at q;let e:=M2 (a6 q.2);show fC (pv:=.fz (mD (.Yu l (1+v)))) (ρ1:=[zf (.int x),zf (nd L),zf (.int a),zf (.str (cT l)),zf (.int (1+v))]) (show _=Res.ok (PV.fz (.tuple [.str "tap",.str (cT l),.int (1+v)]),_) by ext:0) W #[.Yu l (1+v),#[g,by ext,by ext],W]
  show ie (b:=(decide (A=5)&&decide (1<a))) (ρ1:=[zf (.int x),zf (nd L),zf (.int a),zf (.str (cT l)),zf (.int (1+v))]) (by ext:0) (λq=>?_) (λ_=>c7 ?_)
  .rw[UH]at q;let e:=M2 (a6 q.2);show fC (pv:=.fz (mD (.once (1+v)))) (ρ1:=[zf (.int x),zf (nd L),zf (.int a),zf (.str (cT l)),zf (.int (1+v))]) (show _=Res.ok (PV.fz (.tuple [.str "once",.int (1+v)]),_) by ext:0) W #[.once (1+v),#[by ext,by ext],W]
  show d6 (pv:=.fz (mD (.Vk l))) (ρ1:=[zf (.int x),zf (nd L),zf (.int a),zf (.str (cT l)),zf (.int (1+v))]) (show _=Res.ok (PV.fz (.tuple [.str "letter",.str (cT l)]),_) by ext:0) W #[.Vk l,g,W]
 let(y,h,m,i,rfl):=f;show#[m,i,h]
structure CsV(l0:G Mn)(cs:G (G Nat×Nat)):Prop where
 vc:∀c∈cs,VC l0 c
 un:cs.Pairwise λa c=>a.1≠c.1
theorem CsV.nil(l0:G Mn):CsV l0 []:=#[λc a=>(by ext a),YK]
def CsV.add(h:CsV l0 cs)(j:2<=s.length)(f:s.Pairwise (·<·))(i:∀k∈s,mS l0 k=S)(g:l<26)(e:s∉cs.map (·.1)):CsV l0 (cs++[(s,l)]):=by
 show#[λc b=>(Vo.mp b).elim (h.vc c) λz=>?_,abM.mpr #[h.un,WU _ _,λa m c b=>?_]]
 .rw[U8.mp z];show#[j,f,i,g]
 .rw[U8.mp b];show λz=>e (Vl.mpr #[a,m,z])
def CP(a:k<l0.length):∃d,aR (dA l0) (nd k)=-(d)/\∃w,aR d (.int 0)=-(.str w)/\cH (.str w) (.str "letter")=-(.bool (mS l0 k)):=by
 let e5:mS l0 k=l0[k].isL:=by ext mS;rw[U6 a];rfl
 rw[e5];show#[mD l0[k],Lq (by rw[UZ,U6 a];rfl),_,mO _,jQ _]
def Kt(h:1<=n)(g:n<=5)(j:rs.length<=3)(b:rs[0]?=M l0)(i:VL n rs.length rs)(a:CsV l0 cs)(l:cs.length<=4)(f:1<=w)(e:w<=4):VB #[n,rs,cs,w]:=by
 cases rs with
 |nil=>ext b
 |cons x r=>cases Vd b;show#[h,g,by simp_all,j,i,l,a.vc,a.un,f,e]
def N6(p:bb Int):∃b:Bd,(VB b/\b.n<=2/\b.ls.length<=2/\b.wt<=2)/\iE [.list (p.map .int),.int 2]=.ok (.fz (bD b)):=by
 let(g,e0):=nt p 0 ();let d1:=gq g (s:=1) (m:=2) () () ();let b1:=ke (x:=g) (s:=1) (m:=2) ();generalize An g 1 2=r1 at d1 b1;let d2:=gq g (s:=2) (m:=2) () () ();let b2:=ke (x:=g) (s:=2) (m:=2) ();generalize An g 2 2=r2 at d2 b2;let G:=gq g (s:=23) (m:=2) () () ();let b23:=ke (x:=g) (s:=23) (m:=2) ();generalize An g 23 2=r23 at G b23;let I:=gq g (s:=17) (m:=3) () () ();generalize An g 17 3=r17 at I;let H:=gq g (s:=19) (m:=3) () () ();let C:=ke (x:=g) (s:=19) (m:=3) ();generalize An g 19 3=r19 at H C;let(E,Y,elc):=w6 (z:= "abd") [0,1,3] (by left) (by left) () C.1 (show r19<3 from C.2);obtain⟨n,hn⟩:∃n:Nat,1+r1=(n:Int):=#[(1+r1).toNat,by ext];obtain⟨nl,S⟩:∃n:Nat,1+r2=(n:Int):=#[(1+r2).toNat,by ext];let rgn:fP [.int (1+r1)]=cL (aO (U0 n)):=by rw[hn];show lF ()
 let rgl:fP [.int (1+r2)]=cL (aO (U0 nl)):=by rw[S];show lF ()
 let R:∃rv,fy 10 fE [.list (p.map .int),.int 2]=.ok rv/\∃b:Bd,(VB b/\b.n<=2/\b.ls.length<=2/\b.wt<=2)/\rv=.fz (bD b):=by
  show lX (T:=λrv=>∃b:Bd,(VB b/\b.n<=2/\b.ls.length<=2/\b.wt<=2)/\rv=.fz (bD b)) (ρ:=[zf (.list (p.map .int)),zf (.int 2),lD,lD,lD,lD,lD,lD,lD,lD]) W ?_;ext fE;show aY (ρ3:=[zf (.list (p.map .int)),zf (.int 2),zf (.int g),lD,lD,lD,lD,lD,lD,lD]) (by ext:0) W W ?_;show aY (ρ3:=[zf (.list (p.map .int)),zf (.int 2),zf (.int g),zf (.int (1+r1)),lD,lD,lD,lD,lD,lD]) (by ext:0) W W ?_;show aY (ρ3:=[zf (.list (p.map .int)),zf (.int 2),zf (.int g),zf (.int (1+r1)),zf (.int (1+r2)),lD,lD,lD,lD,lD]) (by ext:0) W W ?_;show aY (ρ3:=[zf (.list (p.map .int)),zf (.int 2),zf (.int g),zf (.int (1+r1)),zf (.int (1+r2)),zo [],lD,lD,lD,lD]) (by ext:0) W W ?_;show oM (λi ρ=>∃(e:bb (bb Mn)) (A v:bg PV),e.length=i/\VL (1+r1) (1+r2) e/\ρ=[zf (.list (p.map .int)),zf (.int 2),zf (.int g),zf (.int (1+r1)),zf (.int (1+r2)),zo (e.map dA),A,v,lD,lD]) (ds:=aO (U0 nl)) (ρ1:=[zf (.list (p.map .int)),zf (.int 2),zf (.int g),zf (.int (1+r1)),zf (.int (1+r2)),zo [],lD,lD,lD,lD]) (by ext:0) #[[],lD,lD,W,(λj r h=>by ext h),W] ?_ ?_
  .rintro i d ρ hi ⟨e,A,v,M,K,rfl⟩
   let(L,hL,rfl):=jG hi;let(rfl,hin):=jv hL;show#[[zf (.list (p.map .int)),zf (.int 2),zf (.int g),zf (.int (1+r1)),zf (.int (1+r2)),zo (e.map dA),zf (nd L),v,lD,lD],W,?_];let mu:fq (.int (1+r1)) (nd L)=-(.int ((1+r1)*L)):=Sl #[by ext,by ext];let(xs,c1,c2,c3):=nX (gt:=gN 0) (ft:=dW) (fe:=d8 b6 2 {aa 1,ay ce (ay ce (~~~1) (ay fq (aa 2) (aa 3))) (aa 0)}) (ds:=aO (U0 n)) (ρ:=[lD,-(.list (p.map .int)),-(.int (1+r1)),-(nd L)]) (λρ=>∃o,ρ=[o,-(.list (p.map .int)),-(.int (1+r1)),-(nd L)]) (λ_ x=>∃a:Int,x=.int a/\True) #[lD,W] (by rw[cM,Vs];ext) (by rintro j d u ρ ⟨o,rfl⟩;let(k,hk,rfl):=jG u;let(c,ec):=nt p (1+(1+r1)*L+k) (by let:=Int.mul_nonneg (show 0<=1+r1 by ext) (show(0:Int)<=L by ext);ext);show#[.int c,_,Br (ρ1:=[-(nd k),-(.list (p.map .int)),-(.int (1+r1)),-(nd L)]) W W (dZ (rv:=.fz (.int c)) (ds:=[.list (p.map .int),.int (1+(1+r1)*L+k)]) (ai (af W) (ai (aB (rv:=.fz (.int (1+(1+r1)*L+k))) (aB (rv:=.fz (.int (1+(1+r1)*L))) aA (aB (rv:=.fz (.int ((1+r1)*L))) (af W) (af W) W W mu) W W (gC _ _)) (af W) W W (gC _ _)) av)) W W ec) W W,#[_,W],c,W,trivial]);let(cs,rfl,_):=nR (f:=UM.int) (Q:=λ_ (_:Int)=>True) xs 0 c3;rw[cM,Vs,UK]at c2;show aY (pv:=.ow (cs.map .int)) (ρ3:=[zf (.list (p.map .int)),zf (.int 2),zf (.int g),zf (.int (1+r1)),zf (.int (1+r2)),zo (e.map dA),zf (nd L),zo (cs.map .int),lD,lD]) (cJ (cs:=[.list (p.map .int),.int (1+r1),nd L]) (ds:=aO (U0 n)) (by ext:0) W c1) W W ?_;let(ys,c4,c5,c6):=nX (gt:=gN 0) (ft:=dW) (fe:=d8 dR 3 {aa 0,aa 1,aa 2}) (ds:=cs.map .int) (ρ:=[lD,-(nd L),-(.int (1+r2))]) (λρ=>∃o,ρ=[o,-(nd L),-(.int (1+r2))]) (λ_ x=>∃a:Mn,x=mD a/\VM L (1+r2) a) #[lD,W] (by rw[UK];ext) (by
    rintro j d u ρ ⟨o,rfl⟩;obtain⟨c,rfl⟩:∃c:Int,d=.int c:=by
     rw[UZ]at u;cases q:cs[j]? with
     |none=>rw[q]at u;ext u
     |some x=>rw[q]at u;show#[x,(Vd u).symm]
    let(m,N,em):=HH c L (1+r2) ();show#[mD m,_,Br (ρ1:=[-(.int c),-(nd L),-(.int (1+r2))]) W W (dZ (rv:=.fz (mD m)) (ds:=[.int c,nd L,.int (1+r2)]) (ai (af W) (ai (af W) (ai (af W) av))) W W em) W W,#[_,W],m,W,N])
   let(y,rfl,q6):=nR (f:=mD) (Q:=λ_ a=>VM L (1+r2) a) ys 0 c6;rw[UK,UK]at c5;let P:hV [.list (y.map mD)]=-(dA y):=W;let X:(e.map dA).length<1000000:=by rw[UK];ext
   show nH (pv:=.fz .none) (ρ1:=[zf (.list (p.map .int)),zf (.int 2),zf (.int g),zf (.int (1+r1)),zf (.int (1+r2)),zo (e.map dA++[dA y]),zf (nd L),zf (.list (cs.map .int)),lD,lD]) (mn (pa:=.fz (dA y)) (d:=dA y) W (cS (rv:=.fz (dA y)) (ds:=[.list (y.map mD)]) (ai (cJ (cs:=[nd L,.int (1+r2)]) (ds:=cs.map .int) (iK (iQ W) W W) W c4) av) W P) W W X W) #[e++[y],_,_,by rw[US,M];rfl,y4 K () (λm hm=>?_),by rw[Vm];rfl];let(t,ht):=Wl.mp hm;rw[M];show q6 t m ht
  .rintro ρ ⟨e,A,v,M,K,rfl⟩
   rw[cM,Vs]at M;obtain⟨l0,Z⟩:∃l0,e[0]?=cL l0:=#[_,U6 (show 0<e.length by ext)];let hl0:=(K 0 l0 Z).1;let i0:aR (.list (e.map dA)) (.int 0)=-(dA l0):=Rc () (by show(e.map dA)[0]?=_;rw[UZ,Z];rfl);let J:iY (cW (gN 0) (az (ay cH (ay aR (ay aR (ay aR (aa 1) (~~~0)) (aa 0)) (~~~0)) (pC (.str "letter")))) (aa 0) (aO (U0 n)) [lD,-(.list (e.map dA))] [])=.ok (((U0 n).filter (mS l0)).map nd):=ny nd nd (mS l0) (U0 n) (by rw[Vs];ext) W (λj u=>by let(d,e1,w,e2,e3):=CP (l0:=l0) (k:=j) (by let:=V3.mp u;ext);show a8 (aB (aB (aB (aB (rv:=.fz (dA l0)) (af W) aA W W i0) (af W) W W e1) aA W W e2) aA W W e3) W) λj _ _=>af W;let sp:((U0 n).filter (mS l0)).Pairwise (·<·):=ZW _ YG;let sm:∀j∈(U0 n).filter (mS l0),mS l0 j=UJ:=λj u=>(Wg.mp u).2;let sl:((U0 n).filter (mS l0)).length<=2:=by let:=XJ (mS l0) (U0 n);rw[Vs]at this;ext
   generalize (U0 n).filter (mS l0)=s at J sp sm sl;let O:hV [.list (s.map nd)]=-(.tuple (aO s)):=W;show aY (ρ3:=[zf (.list (p.map .int)),zf (.int 2),zf (.int g),zf (.int (1+r1)),zf (.int (1+r2)),zf (.list (e.map dA)),A,v,zf (.tuple (aO s)),lD]) (cS (rv:=.fz (.tuple (aO s))) (ds:=[.list (s.map nd)]) (ai (cJ (cs:=[.list (e.map dA)]) (ds:=aO (U0 n)) (by ext:0) W J) av) W O) W W ?_;show aY (ρ3:=[zf (.list (p.map .int)),zf (.int 2),zf (.int g),zf (.int (1+r1)),zf (.int (1+r2)),zf (.list (e.map dA)),A,v,zf (.tuple (aO s)),zf (.tuple [])]) (bG (ds:=[]) av W (UN W)) W W ?_;let F:∀cs:bb (bb Nat×Nat),CsV l0 cs->cs.length<=4->Go (cX (aU {aa 3,fw hV {aa 5},aa 9,ay ce (~~~1) (d8 bf 3 {aa 2,~~~23,~~~2})}) [zf (.list (p.map .int)),zf (.int 2),zf (.int g),zf (.int (1+r1)),zf (.int (1+r2)),zf (.list (e.map dA)),A,v,zf (.tuple (aO s)),zf (.tuple (cs.map Wf))]) (λ_=>∃b:Bd,(VB b/\b.n<=2/\b.ls.length<=2/\b.wt<=2)/\RV.fz .none=.fz (bD b)) (λ_=>False) (λrv=>∃b:Bd,(VB b/\b.n<=2/\b.ls.length<=2/\b.wt<=2)/\rv=.fz (bD b)):=λcs N v2=>by let P:hV [.list (e.map dA)]=-(.tuple (e.map dA)):=W;show d6 (pv:=.fz (bD #[1+r1,e,cs,1+r23])) (rv:=.fz (bD #[1+r1,e,cs,1+r23])) (bG (ds:=[.int (1+r1),.tuple (e.map dA),.tuple (cs.map Wf),.int (1+r23)]) (ai (af W) (ai (cS (rv:=.fz (.tuple (e.map dA))) (ds:=[.list (e.map dA)]) (ai (af W) av) W P) (ai (af W) (ai (aB (rv:=.fz (.int (1+r23))) aA (dZ (rv:=.fz (.int r23)) (ds:=[.int g,.int 23,.int 2]) (ai (af W) (ai aA (ai aA av))) W W G) W W (gC _ _)) av)))) W (UN W)) W #[#[1+r1,e,cs,1+r23],#[Kt () () () Z (by rw[show((e.length:Nat):Int)=1+r2 by ext];show K) N v2 () (),by show 1+r1<=2;ext,by show e.length<=2;ext,by show 1+r23<=2;ext],W]
   let U:fu [.tuple (aO s)]=-(nd s.length):=(ir _).trans (by rw[cM]);show ie (b:=decide ((1:Int)<s.length)&&decide (0<r17)) (nA (a8 (aB (rv:=.fz (.bool (decide ((1:Int)<s.length)))) (cS (rv:=.fz (nd s.length)) (ai (af W) av) W U) aA W W (v9 _ _)) W) λ_=>a8 (aB (rv:=.fz (.bool (decide (0<r17)))) (dZ (rv:=.fz (.int r17)) (ds:=[.int g,.int 17,.int 3]) (ai (af W) (ai aA (ai aA av))) W W I) aA W W (v9 _ _)) W) (λq=>?_) (λ_=>c7 (F [] (CsV.nil _) (Vu _)));rw[UH]at q;let q1:=a6 q.1;let s2:s.length=2:=by ext
   let cut:Sk (.tuple (aO s)) lD (cL 2)=-(.tuple (aO s)):=by show cL (RV.fz (.tuple (mq (aO s) lD (cL ((2:Nat):Int)))))=_;ext mq;rw[HT.sIx_nat,HT.sIx_none,cM,s2,Nat.min_self,adH,afr,YF (by rw[cM,s2];show UU _)]
   show aY (ρ3:=[zf (.list (p.map .int)),zf (.int 2),zf (.int g),zf (.int (1+r1)),zf (.int (1+r2)),zf (.list (e.map dA)),A,v,zf (.tuple (aO s)),zf (.tuple ([(s,E)].map Wf))]) (bG (ds:=[Wf (s,E)]) (ai (bG (ds:=[.tuple (aO s),.str (cT E)]) (ai (yi (rv:=.fz (.tuple (aO s))) (af W) u9 (ic aA W) W cut) (ai (aB (rv:=.fz (.str (cT E))) aA (dZ (rv:=.fz (.int r19)) (ds:=[.int g,.int 19,.int 3]) (ai (af W) (ai aA (ai aA av))) W W H) W W elc) av)) W (UN W)) av) W (UN W)) W W ?_;show F [(s,E)] (by let:=(CsV.nil l0).add (s:=s) (l:=E) () sp sm Y (λz=>by ext z);show this) (by show 1<=4;decide)
 let(rv,h,b,B,rfl):=R;show#[b,B,h]
def Qu(i:Int)(k:Nat):Bq (.int i) (nd k)=-(.int (i/2^k)):=by show(if S0 i (k:Int)=S then M (RV.fz (.int (i/2^((k:Nat):Int).toNat)))else P)=_;rw[ax (by ext S0;show a4 ()),V2]
def BI(x:Int)(k:Nat):Bool:=decide (Builtin.bitAnd (x/2^k) 1=1)
abbrev RE(x n i w:Int)(f h g j a e b:I PV):aL:=[zf (.int x),zf (.int 2),zf (.int 2),zf (.int 2),zf (.int n),zf (.int i),zf (.int w),f,h,g,j,a,e,b]
def J1(x:Int):∃b:Bd,(VB b/\b.n<=2/\b.ls.length<=2/\b.wt<=2)/\eB [.int x,.int 2,.int 2,.int 2]=.ok (.fz (bD b)):=by
 let m1:cI (.int x) (.int 2)=-(.int (x % 2)):=d4 ();let m2:ef (.int x) (.int 2)=-(.int (x/2)):=eX #[by decide,by decide];let m3:cI (.int (x/2)) (.int 2)=-(.int (x/2 % 2)):=d4 ();let m4:ef (.int (x/2)) (.int 2)=-(.int (x/2/2)):=eX #[by decide,by decide];let bn:1<=1+x % 2/\1+x % 2<=2:=by ext
 let bl:1<=1+x/2 % 2/\1+x/2 % 2<=2:=by ext
 let R:∃rv,fy 14 cj [.int x,.int 2,.int 2,.int 2]=.ok rv/\∃b:Bd,(VB b/\b.n<=2/\b.ls.length<=2/\b.wt<=2)/\rv=.fz (bD b):=by
  show lX (T:=λrv=>∃b:Bd,(VB b/\b.n<=2/\b.ls.length<=2/\b.wt<=2)/\rv=.fz (bD b)) (ρ:=[zf (.int x),zf (.int 2),zf (.int 2),zf (.int 2),lD,lD,lD,lD,lD,lD,lD,lD,lD,lD]) W ?_;ext cj;show aY (ρ3:=[zf (.int x),zf (.int 2),zf (.int 2),zf (.int 2),zf (.int (1+x % 2)),lD,lD,lD,lD,lD,lD,lD,lD,lD]) (by ext:0) W W ?_;show aY (ρ3:=[zf (.int x),zf (.int 2),zf (.int 2),zf (.int 2),zf (.int (1+x % 2)),zf (.int (1+x/2 % 2)),lD,lD,lD,lD,lD,lD,lD,lD]) (by ext:0) W W ?_;generalize 1+x % 2=n at bn;generalize 1+x/2 % 2=nl at bl;show aY (ρ3:=[zf (.int (x/2/2)),zf (.int 2),zf (.int 2),zf (.int 2),zf (.int n),zf (.int nl),lD,lD,lD,lD,lD,lD,lD,lD]) (by ext:0) W W ?_;generalize x/2/2=y;let m5:cI (.int y) (.int 2)=-(.int (y % 2)):=d4 ();let m6:ef (.int y) (.int 2)=-(.int (y/2)):=eX #[by decide,by decide];let bw:1<=1+y % 2/\1+y % 2<=2:=by ext
  show aY (ρ3:=RE y n nl (1+y % 2) lD lD lD lD lD lD lD) (by ext:0) W W ?_;generalize 1+y % 2=w at bw;show aY (ρ3:=RE (y/2) n nl w lD lD lD lD lD lD lD) (by ext:0) W W ?_;generalize y/2=z;show aY (ρ3:=RE z n nl w (zo []) lD lD lD lD lD lD) (by ext:0) W W ?_;let G:fP [.int n]=cL (aO (U0 n.toNat)):=xx () ();let rgl:fP [.int nl]=cL (aO (U0 nl.toNat)):=xx () ();let rg4:fP [.int 4]=cL (aO (U0 4)):=lF (n:=4) ();show oM (λi ρ=>∃(z:Int) (a:bb (bb Mn)) (t p e:bg PV),a.length=i/\VL n nl a/\ρ=RE z n nl w (zo (a.map dA)) t p e lD lD lD) (ds:=aO (U0 nl.toNat)) (ρ1:=RE z n nl w (zo []) lD lD lD lD lD lD) (by ext:0) #[z,[],lD,lD,lD,W,(λj r h=>by ext h),W] ?_ ?_
  .rintro i d ρ hi ⟨z,a,t,p,e,M,K,rfl⟩
   let(L,hL,rfl):=jG hi;let(rfl,hin):=jv hL;show#[RE z n nl w (zo (a.map dA)) (zf (nd L)) p e lD lD lD,W,?_];show aY (ρ3:=RE z n nl w (zo (a.map dA)) (zf (nd L)) (zo []) e lD lD lD) (by ext:0) W W ?_;show oM (λi ρ=>∃(z:Int) (u:bb Mn) (e:bg PV),u.length=i/\(∀m∈u,VM L nl m)/\ρ=RE z n nl w (zo (a.map dA)) (zf (nd L)) (zo (u.map mD)) e lD lD lD) (ds:=aO (U0 n.toNat)) (ρ1:=RE z n nl w (zo (a.map dA)) (zf (nd L)) (zo []) e lD lD lD) (by ext:0) #[z,[],e,W,(λm h=>by ext h),W] ?_ ?_
   .rintro j d ρ X ⟨z,u,e,hm,S,rfl⟩
    let(k,H,rfl):=jG X;let(rfl,hjn):=jv H;show#[RE z n nl w (zo (a.map dA)) (zf (nd L)) (zo (u.map mD)) (zf (nd k)) lD lD lD,W,?_];let e1:cI (.int z) (.int 364)=-(.int (z % 364)):=d4 ();let e2:ef (.int z) (.int 364)=-(.int (z/364)):=eX #[by decide,by decide];let(m,vm,em):=B5 (z % 364) L nl bl.1 ();let A:(u.map mD).length<1000000:=by rw[UK];ext
    show sA (pv:=.fz .none) (ρ1:=RE z n nl w (zo (a.map dA)) (zf (nd L)) (zo (u.map mD++[mD m])) (zf (nd k)) lD lD lD) (mn (pa:=.fz (mD m)) (d:=mD m) W (dZ (rv:=.fz (mD m)) (ds:=[.int (z % 364),nd L,.int nl]) (ai (aB (rv:=.fz (.int (z % 364))) (af W) aA W W e1) (ai (af W) (ai (af W) av))) W W em) W W A W) ?_;show .eq (pJ (ρ3:=RE (z/364) n nl w (zo (a.map dA)) (zf (nd L)) (zo (u.map mD++[mD m])) (zf (nd k)) lD lD lD) (by ext:0) W W) #[#[z/364,u++[m],_,by rw[US,hm];rfl,λx hx=>(Vo.mp hx).elim (S x) λq=>by rw[U8.mp q];show vm,by rw[Vm];rfl]]
   .rintro ρ ⟨z,u,e,hm,S,rfl⟩
    rw[cM,Vs]at hm;let A:(a.map dA).length<1000000:=by rw[UK];ext
    let tu:hV [.list (u.map mD)]=-(dA u):=W;show nH (pv:=.fz .none) (ρ1:=RE z n nl w (zo (a.map dA++[dA u])) (zf (nd L)) (zo (u.map mD)) e lD lD lD) (mn (pa:=.fz (dA u)) (d:=dA u) W (cS (rv:=.fz (dA u)) (ds:=[.list (u.map mD)]) (ai (iQ W) av) W tu) W W A W) #[z,a++[u],_,_,_,by rw[US,M];rfl,y4 K () (by rw[M];show S),by rw[Vm];rfl]
  .rintro ρ ⟨z,a,t,p,e,M,K,rfl⟩
   rw[cM,Vs]at M;obtain⟨l0,Y⟩:∃l0,a[0]?=cL l0:=#[_,U6 (show 0<a.length by ext)];let hl0:=(K 0 l0 Y).1;let i0:aR (.list (a.map dA)) (.int 0)=-(dA l0):=Rc () (by show(a.map dA)[0]?=_;rw[UZ,Y];rfl);show aY (ρ3:=RE z n nl w (zo (a.map dA)) t p e (zo []) lD lD) (by ext:0) W W ?_;show oM (λi ρ=>∃(z:Int) (cs:bb (bb Nat×Nat)) (g o f:bg PV),CsV l0 cs/\cs.length<=i/\(g=zo (a.map dA)\/g=zf (.list (a.map dA)))/\ρ=RE z n nl w g t p e (zo (cs.map Wf)) o f) (ds:=aO (U0 4)) (ρ1:=RE z n nl w (zo (a.map dA)) t p e (zo []) lD lD) (by ext:0) #[z,[],_,lD,lD,CsV.nil _,UU _,.inl W,W] ?_ ?_
   .rintro i d ρ hi ⟨z,cs,g,o,f,J,O,N,rfl⟩
    let(j,X,rfl):=jG hi;let(rfl,hil):=jv X;show#[RE z n nl w g t p e (zo (cs.map Wf)) (zf (nd j)) f,W,?_];let C:iY (cW (gN 0) (i9 (az (ay cH (ay qW (ay Bq (aa 1) (aa 0)) (~~~1)) (~~~1))) (az (ay cH (ay aR (ay aR (ay aR (aa 2) (~~~0)) (aa 0)) (~~~0)) (pC (.str "letter"))))) (aa 0) (aO (U0 n.toNat)) [lD,-(.int z),-(.list (a.map dA))] [])=.ok (((U0 n.toNat).filter λk=>BI z k&&mS l0 k).map nd):=ny nd nd (λk=>BI z k&&mS l0 k) (U0 n.toNat) (by rw[Vs];ext) W (λk H=>by let hk':=V3.mp H;let(d,e1,wd,e2,e3):=CP (l0:=l0) (k:=k) ();let s1:=Qu z k;let s2:qW (.int (z/2^k)) (.int 1)=-(.int (Builtin.bitAnd (z/2^k) 1)):=W;show nA (a8 (aB (rv:=.fz (.bool (BI z k))) (aB (rv:=.fz (.int (Builtin.bitAnd (z/2^k) 1))) (aB (rv:=.fz (.int (z/2^k))) (af W) (af W) W W s1) aA W W s2) aA W W (lf _ _)) W) λ_=>a8 (aB (rv:=.fz (.bool (mS l0 k))) (aB (rv:=.fz (.str wd)) (aB (rv:=.fz d) (aB (rv:=.fz (dA l0)) (af W) aA W W i0) (af W) W W e1) aA W W e2) aA W W e3) W) λk _ _=>af W;let E:((U0 n.toNat).filter λk=>BI z k&&mS l0 k).Pairwise (·<·):=ZW _ YG;let F:∀k∈(U0 n.toNat).filter (λk=>BI z k&&mS l0 k),mS l0 k=UJ:=λk H=>(UH _ _▸(Wg.mp H).2:_/\_).2;generalize (U0 n.toNat).filter (λk=>BI z k&&mS l0 k)=s at C E F;let a2:fw hV {dC 1 [0,7] (jf fP {aa 4}) (gN 0) (i9 (az (ay cH (ay qW (ay Bq (aa 1) (aa 0)) (~~~1)) (~~~1))) (az (ay cH (ay aR (ay aR (ay aR (aa 2) (~~~0)) (aa 0)) (~~~0)) (pC (.str "letter"))))) (aa 0)} (RE z n nl w g t p e (zo (cs.map Wf)) (zf (nd j)) f)=.ok (.fz (.tuple (aO s)),RE z n nl w (zf (.list (a.map dA))) t p e (zo (cs.map Wf)) (zf (nd j)) f):=by
     rcases N with rfl|rfl
     .show cS (rv:=.fz (.tuple (aO s))) (ds:=[.list (aO s)]) (ai (cJ (cs:=[.int z,.list (a.map dA)]) (ds:=aO (U0 n.toNat)) (nM (ds:=[.int n]) (ai (af W) av) W G) W C) av) W W
     .show cS (rv:=.fz (.tuple (aO s))) (ds:=[.list (aO s)]) (ai (cJ (cs:=[.int z,.list (a.map dA)]) (ds:=aO (U0 n.toNat)) (nM (ds:=[.int n]) (ai (af W) av) W G) W C) av) W W
    show aY (ρ3:=RE z n nl w (zf (.list (a.map dA))) t p e (zo (cs.map Wf)) (zf (nd j)) (zf (.tuple (aO s)))) a2 W W ?_;let U:fu [.tuple (aO s)]=-(nd s.length):=(ir _).trans (by rw[cM]);let Q:=Jo s (cs.map (·.1));let f1:ef (.int z) (.int 32)=-(.int (z/32)):=eX #[by decide,by decide];let f2:cI (.int (z/32)) (.int 26)=-(.int (z/32 % 26)):=d4 ();let f3:ef (.int z) (.int 832)=-(.int (z/832)):=eX #[by decide,by decide];let(l,Z,el):=FU (r:=z/32 % 26) () ();let I:∀(v:bb (bb Nat×Nat)),CsV l0 v->v.length<=j+1->Go (cb (ay ef (aa 0) (~~~832)) (gN 0) (RE z n nl w (zf (.list (a.map dA))) t p e (zo (v.map Wf)) (zf (nd j)) (zf (.tuple (aO s))))) (λρ=>∃(z:Int) (cs:bb (bb Nat×Nat)) (g o f:bg PV),CsV l0 cs/\cs.length<=j+1/\(g=zo (a.map dA)\/g=zf (.list (a.map dA)))/\ρ=RE z n nl w g t p e (zo (cs.map Wf)) o f) (λρ=>∃(z:Int) (cs:bb (bb Nat×Nat)) (g o f:bg PV),CsV l0 cs/\cs.length<=j+1/\(g=zo (a.map dA)\/g=zf (.list (a.map dA)))/\ρ=RE z n nl w g t p e (zo (cs.map Wf)) o f) (λrv=>∃b:Bd,(VB b/\b.n<=2/\b.ls.length<=2/\b.wt<=2)/\rv=.fz (bD b)):=λv h1 h2=>
     .eq (pJ (ρ3:=RE (z/832) n nl w (zf (.list (a.map dA))) t p e (zo (v.map Wf)) (zf (nd j)) (zf (.tuple (aO s)))) (by ext:0) W W) #[#[z/832,v,_,_,_,h1,h2,.inr W,W]]
    show ie (b:=decide ((1:Int)<(s.length:Int))&& !decide (s∈cs.map (·.1))) (ρ1:=RE z n nl w (zf (.list (a.map dA))) t p e (zo (cs.map Wf)) (zf (nd j)) (zf (.tuple (aO s))))
     (nA (a8 (aB (rv:=.fz (.bool (decide ((1:Int)<(s.length:Int))))) (cS (rv:=.fz (nd s.length)) (ai (af W) av) W U) aA W W (v9 _ _)) W) λ_=>a8 (aB (rv:=.fz (.bool (!decide (s∈cs.map (·.1))))) (af W) (cJ (cs:=[]) (ds:=cs.map Wf) (by ext vq;rfl) W (AG cs () [] W)) W W Q) W) (λq=>?_) λ_=>c7 (I cs J ())
    let P:=(UH _ _▸q:_/\_);let g1:=a6 P.1;let g2:s∉cs.map (·.1):=λz=>by rw[a4 z]at P;cases P.2
    show sA (pv:=.fz .none) (ρ1:=RE z n nl w (zf (.list (a.map dA))) t p e (zo ((cs++[(s,l)]).map Wf)) (zf (nd j)) (zf (.tuple (aO s)))) (mn (ds:=cs.map Wf) (d:=Wf (s,l)) W (bG (ds:=[.tuple (aO s),.str (cT l)]) (ai (af W) (ai (aB (rv:=.fz (.str (cT l))) aA (aB (rv:=.fz (.int (z/32 % 26))) (aB (rv:=.fz (.int (z/32))) (af W) aA W W f1) aA W W f2) W W el) av)) W (UN W)) W W (by rw[UK];ext) (by rw[Vm];rfl)) (I _ (J.add () E F Z g2) (by rw[US];show cs.length+1<=_;ext))
   .rintro ρ ⟨z,cs,g,o,f,J,O,N,rfl⟩
    rw[cM,Vs]at O;let vb:VB #[n,a,cs,w]:=Kt () () () Y (by rw[show((a.length:Nat):Int)=nl by ext];show K) J O () ();let tr:∀g,(g=zo (a.map dA)\/g=zf (.list (a.map dA)))->aU {aa 4,fw hV {aa 7},fw hV {aa 11},aa 6} (RE z n nl w g t p e (zo (cs.map Wf)) o f)=.ok (.fz (.tuple [.int n,.tuple (a.map dA),.tuple (cs.map Wf),.int w]),RE z n nl w g t p e (zo (cs.map Wf)) o f):=by
     rintro g (rfl|rfl)
     .show bG (ai (af W) (ai (cS (rv:=.fz (.tuple (a.map dA))) (ds:=[.list (a.map dA)]) (ai (iQ W) av) W W) (ai (cS (rv:=.fz (.tuple (cs.map Wf))) (ds:=[.list (cs.map Wf)]) (ai (iQ W) av) W W) (ai (af W) av)))) W (UN W)
     .show bG (ai (af W) (ai (cS (rv:=.fz (.tuple (a.map dA))) (ds:=[.list (a.map dA)]) (ai (af W) av) W W) (ai (cS (rv:=.fz (.tuple (cs.map Wf))) (ds:=[.list (cs.map Wf)]) (ai (iQ W) av) W W) (ai (af W) av)))) W (UN W)
    show d6 (pv:=.fz (bD #[n,a,cs,w])) (ρ1:=RE z n nl w g t p e (zo (cs.map Wf)) o f) (tr g N) W #[#[n,a,cs,w],#[vb,bn.2,by show a.length<=2;ext,bw.2],W]
 let(rv,h,b,B,rfl):=R;show#[b,B,h]
def LN{n r:Int}(b:1<=n/\n<=5)(a:0<=r/\r<2*n+1):r/n=0\/r/n=1\/r/n=2:=by
 let:n=1\/n=2\/n=3\/n=4\/n=5:=by ext
 rcases this with rfl|rfl|rfl|rfl|rfl<;>ext
abbrev WE(y n:Int)(es:G YB)(m:Int)(b a:I PV):aL:=[zf (.int y),zf (.int n),zo (es.map bU),zf (.int m),b,a]
def wZ{b:Bd}(B:VB b)(x:Int):∃es:bb YB,es.length<=63/\(∀e∈es,EV b e)/\cZ [.int x,.int b.n]=.ok (.ow (es.map bU)):=by
 let E:=B.n1;let C:=B.n5;let g:cI (.int x) (.int 41)=-(.int (x % 41)):=d4 ();let P:ef (.int x) (.int 41)=-(.int (x/41)):=eX #[by decide,by decide];let N:0<=x % 41/\x % 41<41:=by ext
 let l:∃X,fy 6 bK [.int x,.int b.n]=.ok X/\∃es:bb YB,es.length<=63/\(∀e∈es,EV b e)/\X=.ow (es.map bU):=by
  show lX (T:=λX=>∃es:bb YB,es.length<=63/\(∀e∈es,EV b e)/\X=.ow (es.map bU)) (ρ:=[zf (.int x),zf (.int b.n),lD,lD,lD,lD]) W ?_;ext bK;show aY (ρ3:=[zf (.int x),zf (.int b.n),zo [],lD,lD,lD]) (by ext:0) W W ?_;show aY (ρ3:=WE x b.n [] (x % 41) lD lD) (by ext:0) W W ?_;generalize x % 41=m at N;show aY (ρ3:=WE (x/41) b.n [] m lD lD) (by ext:0) W W ?_;generalize x/41=y;let O:fP [.int m]=cL (aO (U0 m.toNat)):=xx () ();show oM (λi ρ=>∃(y:Int) (es:bb YB) (f a:bg PV),es.length=i/\(∀e∈es,EV b e)/\ρ=WE y b.n es m f a) (ds:=aO (U0 m.toNat)) (ρ1:=WE y b.n [] m lD lD) (by ext:0) #[y,[],lD,lD,W,(λe h=>by ext h),W] ?_ ?_
  .rintro i d ρ hi ⟨y,es,f,a,p,u,rfl⟩
   let(j,I,rfl):=jG hi;let(rfl,J):=jv I;show#[WE y b.n es m (zf (nd j)) a,W,?_];let v:fq (.int 2) (.int b.n)=-(.int (2*b.n)):=Sl #[by decide,by decide];let e1:cI (.int y) (.int (2*b.n+1))=-(.int (y % (2*b.n+1))):=d4 ();let e2:ef (.int y) (.int (2*b.n+1))=-(.int (y/(2*b.n+1))):=eX #[by ext,by ext];let w:0<=y % (2*b.n+1)/\y % (2*b.n+1)<2*b.n+1:=#[Xq _ (),W0 _ ()];generalize y % (2*b.n+1)=r at e1 w;generalize y/(2*b.n+1)=Y at e2;let o:(es.map bU).length<1000000:=by rw[UK];ext
   show aY (ρ3:=WE y b.n es m (zf (nd j)) (zf (.int r))) (aB (rv:=.fz (.int r)) (af W) (aB (rv:=.fz (.int (2*b.n+1))) (aB (rv:=.fz (.int (2*b.n))) aA (af W) W W v) aA W W (gC _ _)) W W e1) W W ?_;show aY (ρ3:=WE Y b.n es m (zf (nd j)) (zf (.int r))) (aB (rv:=.fz (.int Y)) (af W) (aB (rv:=.fz (.int (2*b.n+1))) (aB (rv:=.fz (.int (2*b.n))) aA (af W) W W v) aA W W (gC _ _)) W W e2) W W ?_;let F:cI (.int r) (.int b.n)=-(.int (r % b.n)):=d4 ();let Q:ef (.int r) (.int b.n)=-(.int (r/b.n)):=eX #[by ext,by ext];let G:=Xq r (show b.n≠0 by ext);let g:=W0 r (show 0<b.n by ext);generalize r % b.n=k at F G g;obtain⟨k,rfl⟩:∃j:Nat,k=(j:Int):=#[k.toNat,by ext];let A:=LN (n:=b.n) (r:=r) #[E,C] w;obtain⟨e,t,M⟩:∃e:YB,EV b e/\aR (.list [.tuple [.str "down",.int (k:Int)],.tuple [.str "up",.int (k:Int)],.tuple [.str "turn",.int 0]]) (.int (r/b.n))=-(bU e):=by
    rcases A with q|q|q
    .show#[.down k,g,by rw[q];rfl]
    .show#[.up k,g,by rw[q];rfl]
    .show#[.turn,trivial,by rw[q];rfl]
   show nH (pv:=.fz .none) (ρ1:=[zf (.int Y),zf (.int b.n),zo (es.map bU++[bU e]),zf (.int m),zf (nd j),zf (.int r)]) (mn (pa:=.fz (bU e)) (d:=bU e) W (aB (rv:=.fz (bU e)) (show _=Res.ok (PV.ow [.tuple [.str "down",.int (k:Int)],.tuple [.str "up",.int (k:Int)],.tuple [.str "turn",.int 0]],_) by ext:0) (by ext:0) W W M) W W o W) #[Y,es++[e],_,_,by rw[US,p];rfl,λx H=>(Vo.mp H).elim (u x) λz=>by rw[U8.mp z];show t,by ext WE;rw[Vm];rfl]
  .rintro ρ ⟨y,es,f,a,p,u,rfl⟩;rw[cM,Vs]at p;show d6 (pv:=.pl 2) (ρ1:=WE y b.n es m f a) (iQ W) W #[es,by ext,u,W]
 let(X,h,es,L,K,rfl):=l;show#[es,L,K,h]
def EH{b:Bd}(B:VB b)(c:Int):∃e:YB,EV b e/\eW [bD b,.int c]=.ok (.fz (bU e)):=by
 let u:=B.n1;let t:=B.n5;let f:aR (bD b) (.int 0)=-(.int b.n):=g7;let v:fq (.int 2) (.int b.n)=-(.int (2*b.n)):=Sl #[by decide,by decide];let l:=gq c (s:=139) (m:=2*b.n+1) () () ();let o:=ke (x:=c) (s:=139) (m:=2*b.n+1) ();generalize An c 139 (2*b.n+1)=r at l o;let h:cI (.int r) (.int b.n)=-(.int (r % b.n)):=d4 ();let A:ef (.int r) (.int b.n)=-(.int (r/b.n)):=eX #[by ext,by ext];let w:=Xq r (show b.n≠0 by ext);let a:=W0 r (show 0<b.n by ext);generalize r % b.n=k at h w a;obtain⟨k,rfl⟩:∃j:Nat,k=(j:Int):=#[k.toNat,by ext];let p:=LN (n:=b.n) (r:=r) #[u,t] o;obtain⟨e,g,y⟩:∃e:YB,EV b e/\aR (.list [.tuple [.str "down",.int (k:Int)],.tuple [.str "up",.int (k:Int)],.tuple [.str "turn",.int 0]]) (.int (r/b.n))=-(bU e):=by
  rcases p with q|q|q
  .show#[.down k,a,by rw[q];rfl]
  .show#[.up k,a,by rw[q];rfl]
  .show#[.turn,trivial,by rw[q];rfl]
 show#[e,g,g9 (ρ:=[zf (bD b),zf (.int c),P]) W ?_];ext eK;show aY (ρ3:=[zf (bD b),zf (.int c),zf (.int r)]) (dZ (rv:=.fz (.int r)) (ds:=[.int c,.int 139,.int (2*b.n+1)]) (ai (af W) (ai aA (ai (aB (rv:=.fz (.int (2*b.n+1))) (aB (rv:=.fz (.int (2*b.n))) aA (aB (rv:=.fz (.int b.n)) (af W) aA W W f) W W v) aA W W (gC _ _)) av))) W W l) W W ?_;let i:ay cI (aa 2) (ay aR (aa 0) (~~~0)) [zf (bD b),zf (.int c),zf (.int r)]=.ok (.fz (.int (k:Int)),[zf (bD b),zf (.int c),zf (.int r)]):=aB (rv:=.fz (.int (k:Int))) (af W) (aB (rv:=.fz (.int b.n)) (af W) aA W W f) W W h;show d6 (rv:=.fz (bU e)) (aB (rv:=.fz (bU e)) (kr (ds:=[.tuple [.str "down",.int (k:Int)],.tuple [.str "up",.int (k:Int)],.tuple [.str "turn",.int 0]]) (ai (bG (ai aA (ai i av)) W (UN W)) (ai (bG (ai aA (ai i av)) W (UN W)) (ai (bG (ai aA (ai aA av)) W (UN W)) av))) W (UN W)) (aB (rv:=.fz (.int (r/b.n))) (af W) (aB (rv:=.fz (.int b.n)) (af W) aA W W f) W W A) W W y) W W
def LR(b:Bd)(es:G YB):Nat->WW->G Nat->Prop
 |0,s,t=>s=fx/\t=[]
 |k+1,s,t=>∃a f e,LR b es k a f/\e∈es/\s=(bq b a e).1/\t=f++fZ (bq b a e).2
theorem KW{b:Bd}{es:G YB}:∀{k s t},LR b es k s t->∀T,t<+:T->RT b T es k (s,t.length)
 |0,s,t,#[h1,g],T,_=>by rw[h1,g];rfl
 |k+1,s,t,#[f,i,e,h,he,h1,g],T,j=>by
  let(r,a):=j;rw[g]at a;show#[(f,i.length),e,KW h T #[fZ (bq b f e).2++r,by rw[<-Vy];show a],he,?_];show(w9 T i.length (bq b f e).2).map (λd=>((bq b f e).1,d))=M (s,t.length);let:w9 T i.length (bq b f e).2=M t.length:=by ext w9;rw[<-a,Vy,List.drop_left,List.take_left,ax W,g,US]
  rw[this,h1];rfl
def G2{b:Bd}{n:Nat}(a:b.n=n){e:YB}(h:EV b e):e∈uz n:=by
 ext uz;cases e with
 |down k=>show VU _ (VU _ (Vl.mpr #[k,V3.mpr (by let h:(k:Int)<b.n:=h;ext),W]))
 |up k=>show VU _ (Vp _ (Vl.mpr #[k,V3.mpr (by let h:(k:Int)<b.n:=h;ext),W]))
 |turn=>show Vp _ UT
def wD(l:G Nat):D:=.str (cG l)
theorem EG:∀{L:G (G Nat)},(∀l∈L,∀c∈l,c<26)->UM.canLayAll0 (L.map wD)=S
 |[],_=>rfl
 |l::r,h=>by show(UM.strOk (cG l)&&UM.canLayAll0 (r.map wD))=S;rw[rZ (h l UT),EG λm hm=>h m (UX _ hm)];rfl
theorem DZ(w:G Nat):∀L:G (G Nat),((L.map wD).any λe=>UM.eqv e (.str (cG w)))=decide (w∈L)
 |[]=>rfl
 |l::r=>by
  rw[U5,Xm,DZ w r,wD,zr];by_cases h:l=w
  .subst h;simp
  .let:¬w=l:=λz=>h z.symm;simp[h,this]
def Om{w:G Nat}{L:G (G Nat)}(a:∀c∈w,c<26)(b:∀l∈L,∀c∈l,c<26):mv (.str (cG w)) (.list (L.map wD))=-(.bool (!decide (w∈L))):=by show(if((UM.strOk (cG w)&&decide (0<=64))&&UM.canLayAll0 (L.map wD))=S then M (RV.fz (.bool (!(L.map wD).any λe=>UM.eqv e (.str (cG w)))))else P)=_;rw[rZ a,EG b,DZ];rfl
def Hz{b:Bd}(e:VB b){s:WW}(a:SW b s):∃r:Bool,cH (dX s) (.tuple [.tuple [],.none,.none])=-(.bool r)/\(r=S->s=fx):=by show#[UM.eqv (dX s) (dX fx),?_,λh=>Eo e e a (gS b) (LD.kd_eqv _ _ (yh a).1 (yh (gS b)).1 h)];show cH (dX s) (dX fx)=_;ext cH;rw[FL a,Px (FL (gS b)),WQ,ax W]
def MB{c:qK}{e g:dU}{i:aQ}{d:aH}{r:Bool}{N:aQ->aH->Prop}{T:SV->aH->Prop}{X:Xc->Prop}(b:c i d=.ok r d)(J:aQ->aH->Prop)(f:r=S->∀j:aQ->aH->Prop,(∀i d,J i d->j i d)->kH (e i d) j T X)(h:r=R->J i d)(a:∀i d,J i d->kH (g i d) N T X):kH (aD (bV c e bZ) g i d) N T X:=by
 show je ?_;cases r with
 |true=>show .eq (de b W) (f W _ a)
 |false=>show .eq (c9 b dF) #[a _ _ (h W)]
abbrev EB(h:G Int)(b:Bd)(es:G YB)(s:WW)(t:G Nat)(k a:Nat)(g f e i:I SV):aQ:=[-(.list (h.map .int)),-(bD b),-(.list (es.map bU)),-(dX s),-(.str (cG t)),-(nd k),M (.rf a),g,f,e,i]
def main(a:bb Int)(V:a.length<=63):L10.Re F_law [.list (a.map .int)]=.ok (.fz (.bool UJ)):=by
 let(F,B0,e0):=N6 a;let(p,e1):=nt a 1 ();let(B,e2):=nt a 2 ();let(L,B1,eb):=J1 (if p<0 then -p else p);let a1:xY [.int p]=-(.int (if p<0 then -p else p)):=W;let a2:xY [.int B]=-(.int (if B<0 then -B else B)):=W;let key:Out (F_law [.fz (.list (a.map .int))] []) (λx _=>x=.fz (.bool UJ)) (λ_=>False):=by
  show sk W ?_;ext uE;show ci (ρ1:=[-(.list (a.map .int)),-(bD F),lD,lD,lD,lD,lD,lD,lD,lD,lD]) (ah (dZ (ai (af W) (ai aA av)) W W e0)) W ?_;let(R,ml,cut):=Fj a (cL 9) (cL 63);let(xs,x1,x2,x3):=nX (gt:=gN 0) (ft:=dW) (fe:=d8 eW 2 {aa 1,aa 0}) (ds:=R.map .int) (ρ:=[lD,zf (bD F)]) (λρ=>∃o,ρ=[o,zf (bD F)]) (λ_ x=>∃e:YB,x=bU e/\EV F e) #[lD,W] (by rw[UK];ext) (by
   rintro j d J ρ ⟨o,rfl⟩;obtain⟨c,rfl⟩:∃c:Int,d=.int c:=by
    rw[UZ]at J;cases q:R[j]? with
    |none=>rw[q]at J;ext J
    |some x=>rw[q]at J;show#[x,(Vd J).symm]
   let(e,T,ee):=EH B0.1 c;show#[bU e,_,Br (ρ1:=[zf (.int c),zf (bD F)]) W W (dZ (rv:=.fz (bU e)) (ds:=[bD F,.int c]) (ai (af W) (ai (af W) av)) W W ee) W W,#[_,W],e,W,T])
  let(E,rfl,q6):=nR (f:=bU) (Q:=λ_ e=>EV F e) xs 0 x3;rw[UK,UK]at x2;let fz:∀{ω:aH} {ds:bb D},frz 4 (ω++[.lst (ds.map .fz)]) (.rf ω.length)=cL (.list ds,ω++[.dead]):=λ{ω ds}=>by rw[jC aM,eN]
  show ci (ρ1:=[-(.list (a.map .int)),-(bD F),-(.list (E.map bU)),lD,lD,lD,lD,lD,lD,lD,lD]) (jd (dH (cJ (cs:=[bD F]) (ds:=R.map .int) (iK (d:=.list (R.map .int)) (yi (rv:=.ow (R.map .int)) (af W) (ic aA W) (ic aA W) W cut) W W) W x1)) fz) W ?_;generalize ([]++[Cell.dead]:aH)=I;let p18:=Kz;let N:xn (az (kF Ky MC (~~~0) (d8 b6 2 {aa 0,~~~1}) (ay AI (~~~10) (~~~18)))) [zf (.list (a.map .int)),zf (bD F),zf (.list (E.map bU)),lD,lD,lD,lD,lD,lD,lD,lD]=.ok (!(decide (0<=p)&&decide (p<10^18)),[zf (.list (a.map .int)),zf (bD F),zf (.list (E.map bU)),lD,lD,lD,lD,lD,lD,lD,lD]):=by ext:0
  let Z:=aX (ρ:=[-(.list (a.map .int)),-(bD F),-(.list (E.map bU)),lD,lD,lD,lD,lD,lD,lD,lD]) (ω:=I) N;show MB Z (λρ _=>∃(b:Bd) (es:bb YB),(VB b/\b.n<=2/\b.ls.length<=2/\b.wt<=2)/\es.length<=63/\(∀e∈es,EV b e)/\ρ=[-(.list (a.map .int)),-(bD b),-(.list (es.map bU)),lD,lD,lD,lD,lD,lD,lD,lD]) (λ_ N' hN=>?_) (λ_=>#[F,E,B0,by ext,λe T=>by let(j,J):=Wl.mp T;show q6 j e J,W]) ?_
  .let(K,y1,y2,y3):=wZ B1.1 (if B<0 then -B else B);show ci (ρ1:=[-(.list (a.map .int)),-(bD L),-(.list (E.map bU)),lD,lD,lD,lD,lD,lD,lD,lD]) (ah (dZ (rv:=.fz (bD L)) (ds:=[.int (if p<0 then -p else p),.int 2,.int 2,.int 2]) (ai (cS (rv:=.fz (.int (if p<0 then -p else p))) (ai (dZ (rv:=.fz (.int p)) (ai (af W) (ai aA av)) W W e1) av) W a1) (ai aA (ai aA (ai aA av)))) W W eb)) W ?_;show wF (ρ1:=[-(.list (a.map .int)),-(bD L),-(.list (K.map bU)),lD,lD,lD,lD,lD,lD,lD,lD]) (lP (jd (dH (dZ (rv:=.ow (K.map bU)) (ds:=[.int (if B<0 then -B else B),.int L.n]) (ai (cS (rv:=.fz (.int (if B<0 then -B else B))) (ai (dZ (rv:=.fz (.int B)) (ai (af W) (ai aA av)) W W e2) av) W a2) (ai (aB (rv:=.fz (.int L.n)) (af W) aA W W (Nu L)) av)) W W y3)) fz) W) (hN _ _ #[L,K,B1,y1,y2,W])
  .clear N Z q6 x1 x2 x3 B0 B1 e0 eb
   rintro ρ I ⟨b,es,⟨H,n2,l2,w2⟩,el,T,rfl⟩;obtain⟨n,hn⟩:∃n:Nat,b.n=n:=#[b.n.toNat,by let:=H.n1;ext];let rg:fP [.int b.n]=cL (aO (U0 n)):=by rw[hn];show lF ()
   let cu:iY (cW (gN 0) dW (aU {pC (.str "up"),aa 0}) (aO (U0 n)) [lD] [])=.ok ((U0 n).map λk=>bU (.up k)):=jR nd (λk=>bU (.up k)) (U0 n) (by rw[Vs];ext) W λk _=>bG (ai aA (ai (af W) av)) W (UN W);let i3:aR (bD b) (.int 3)=-(.int b.wt):=Lq W;let w1:=H.w1;let mu:fq (.list [bU .turn]) (.int b.wt)=cL (.ow (UW b.wt.toNat [bU .turn]).flatten):=by show(if[bU .turn].length*b.wt.toNat<=1000000/\ -2^63<=b.wt/\b.wt<2^63 then cL (RV.ow (UW b.wt.toNat [bU .turn]).flatten)else lD)=_;rw[ax #[by show 1*_<=_;ext,by ext,by ext]]
   obtain⟨fs,fl,fe,f1,f2⟩:∃fs:bb YB,fs.length<=70/\(∀e∈fs,EV b e)/\(∃us,ce (.list (es.map bU)) (.list ((U0 n).map λk=>bU (.up k)))=cL (.ow us)/\ce (.list us) (.list (UW b.wt.toNat [bU .turn]).flatten)=cL (.ow (fs.map bU)))/\True:=by
    show#[es++(U0 n).map .up++UW b.wt.toNat .turn,?_,λe h=>?_,#[_,Jn (by rw[UK,UK,Vs];ext),(Jn ?_).trans ?_],trivial]
    .rw[US,US,UK,Vs,VY];ext
    .rcases Vo.mp h with h|h
     .rcases Vo.mp h with h|h
      .show T e h
      .let(k,hk,rfl):=Vl.mp h;let:=V3.mp hk;show(k:Int)<b.n;ext
     .rw[(Zr.mp h).2];trivial
    .rw[US,UK,UK,Vs,List.length_flatten,Zq,List.sum_replicate_nat];show _+_*1<=_;ext
    .rw[Vm,Vm,VJ,Zq]
     congr 2;generalize b.wt.toNat=m;let:(UW m [bU .turn]).flatten=UW m (bU .turn):=by
      induction m with
      |zero=>rfl
      |succ m ih=>rw[VQ,Ws,ih];rfl
     rw[this];rfl
   let(us,u1,u2):=f1;show ci (ρ1:=[-(.list (a.map .int)),-(bD b),-(.list (fs.map bU)),lD,lD,lD,lD,lD,lD,lD,lD]) (jd (dH (aB (rv:=.ow (fs.map bU)) (aB (rv:=.ow us) (af W) (cJ (cs:=[]) (ds:=aO (U0 n)) (nM (ds:=[.int b.n]) (ai (aB (rv:=.fz (.int b.n)) (af W) aA W W (Nu b)) av) W rg) W cu) W W u1) (aB (rv:=.ow (UW b.wt.toNat [bU .turn]).flatten) (kr (ds:=[bU .turn]) (ai (bG (ai aA (ai aA av)) W (UN W)) av) W (UN W)) (aB (rv:=.fz (.int b.wt)) (af W) aA W W i3) W W mu) W W u2)) fz) W ?_;generalize I++[Cell.dead]=ω1;show ci (ρ1:=[-(.list (a.map .int)),-(bD b),-(.list (fs.map bU)),-(dX fx),lD,lD,lD,lD,lD,lD,lD]) (ah (d:=dX fx) (bG (ds:=[.tuple [],.none,.none]) (ai (bG av W (UN W)) (ai aA (ai aA av))) W (UN W))) W ?_;let em:("":Str)=cG []:=by left
   show ci (ρ1:=[-(.list (a.map .int)),-(bD b),-(.list (fs.map bU)),-(dX fx),-(.str (cG [])),lD,lD,lD,lD,lD,lD]) (ah (d:=.str (cG [])) (by rw[<-em];show aA)) W ?_;show ci (ρ1:=[-(.list (a.map .int)),-(bD b),-(.list (fs.map bU)),-(dX fx),-(.str (cG [])),-(nd 0),lD,lD,lD,lD,lD]) (ah aA) W ?_;show ci (ρ1:=EB a b fs fx [] 0 ω1.length lD lD lD lD) (dH (by ext:0)) W ?_;show je (CD (λi ρ ω=>∃(s:WW) (t:bb Nat) (k:Nat) (A:bb (bb Nat)) (o7 P O M:bg SV),ρ=EB a b fs s t k ω1.length o7 P O M/\ω[ω1.length]?=cL (.lst ((A.map wD).map .fz))/\A.length<=i/\(∀l∈A,∀c∈l,c<26)/\SW b s/\t.length<=3/\(∀c∈t,c<26)/\LR b (uz n) k s t) (nZ (iK (d:=.list (fs.map bU)) (af W) W W)) #[fx,[],0,[],lD,lD,lD,lD,W,aM,Vu _,(λl h=>by ext h),gS b,Vu _,(λc h=>by ext h),W,W] ?_ ?_)
   .rintro i d ρ ω U ⟨s,t,k,A,o7,P,O,M,rfl,hA,lA,A26,sw,t3,t26,lr⟩
    rw[UZ]at U;cases qe:fs[i]? with
    |none=>rw[qe]at U;ext U
    |some e=>
     rw[qe]at U;cases Vd U;let il:=(UO.mp qe).1;let ev:=fe e (Vr qe);show#[EB a b fs s t k ω1.length (-(bU e)) P O M,_,W,?_];let s1:=yF (ρ:=EB a b fs s t k ω1.length (-(bU e)) P O M) (ω:=ω) H sw ev (fa:=ag (aa 1)) (fb:=ag (aa 3)) (fc:=ag (aa 7)) (ah (af W)) (ah (af W)) (ah (af W));let k1:=yC H sw ev;let k2:=uy H sw ev;let G:=nJ H sw ev;let C:LR b (uz n) (k+1) (bq b s e).1 (t++fZ (bq b s e).2):=#[s,t,e,lr,G2 hn ev,W,W];generalize bq b s e=u at s1 k1 k2 G C;let g:(ω++[Cell.dead])[ω1.length]?=cL (.lst ((A.map wD).map .fz)):=(U1 (UO.mp hA).1).trans hA;show ci (ρ1:=EB a b fs s t k ω1.length (-(bU e)) (-(.list (u.2.map jX))) (-(dX u.1)) M) s1 W ?_;generalize ω++[Cell.dead]=ω2 at g;let dl:=zA u.2;let d26:=BQ k1;let cm:=uI (sn:=u.2) ();let jn:=zc (w:=fZ u.2) ();show ci (ρ1:=EB a b fs s t k ω1.length (-(bU e)) (-(.list (u.2.map jX))) (-(dX u.1)) (-(.str (cG (fZ u.2))))) (ah (KM (rv:=.fz (.str (cG (fZ u.2)))) aA W (ai (cJ (cs:=[]) (ds:=u.2.map jX) (iK (d:=.list (u.2.map jX)) (af W) W W) W cm) av) W jn)) W ?_;let ad:=Pk (v:=t) (w:=fZ u.2) ();let ln:=xj (w:=t++fZ u.2) (by rw[US];ext);let le:=ym ((t++fZ u.2).length:Int) 3;let t2:=aX (f:=az (ay Ky (fw uq {ay xL (aa 4) (aa 10)}) (~~~3))) (ω:=ω2) (ρ:=EB a b fs s t k ω1.length (-(bU e)) (-(.list (u.2.map jX))) (-(dX u.1)) (-(.str (cG (fZ u.2))))) (a8 (aB (rv:=.fz (.bool (decide (((t++fZ u.2).length:Int)<=3)))) (cS (rv:=.fz (nd (t++fZ u.2).length)) (ds:=[.str (cG (t++fZ u.2))]) (ai (aB (rv:=.fz (.str (cG (t++fZ u.2)))) (af W) (af W) W W ad) av) W ln) aA W W le) W);by_cases Y:(t++fZ u.2).length<=3
     case neg=>
      rw[a5 ()]at t2;show .eq (c9 t2 dF) #[s,t,k,A,_,_,_,_,W,g,by ext,A26,sw,t3,t26,lr]
     rw[a4 ()]at t2;let y:∀c∈t++fZ u.2,c<26:=λc hc=>(Vo.mp hc).elim (t26 c) (d26 c);show .eq (de t2 W) ?_;show ci (ρ1:=EB a b fs u.1 t k ω1.length (-(bU e)) (-(.list (u.2.map jX))) (-(dX u.1)) (-(.str (cG (fZ u.2))))) (ah (af W)) W ?_;show ci (ρ1:=EB a b fs u.1 (t++fZ u.2) k ω1.length (-(bU e)) (-(.list (u.2.map jX))) (-(dX u.1)) (-(.str (cG (fZ u.2))))) (ah (aB (rv:=.fz (.str (cG (t++fZ u.2)))) (af W) (af W) W W ad)) W ?_;show ci (ρ1:=EB a b fs u.1 (t++fZ u.2) (k+1) ω1.length (-(bU e)) (-(.list (u.2.map jX))) (-(dX u.1)) (-(.str (cG (fZ u.2))))) (ah (d:=nd (k+1)) (aB (rv:=.fz (nd (k+1))) (af W) aA W W (gC (k:Int) 1))) W ?_;generalize t++fZ u.2=t' at Y y C;let(r,er,hr):=Hz H G;let t4:=aX (f:=az (ay cH (aa 3) (aU {aU am,pC .none,pC .none}))) (ω:=ω2) (ρ:=EB a b fs u.1 t' (k+1) ω1.length (-(bU e)) (-(.list (u.2.map jX))) (-(dX u.1)) (-(.str (cG (fZ u.2))))) (a8 (aB (rv:=.fz (.bool r)) (af W) (bG (ds:=[.tuple [],.none,.none]) (ai (bG av W (UN W)) (ai aA (ai aA av))) W (UN W)) W W er) W);cases r with
     |false=>show .eq (c9 (fD t4) dF) #[u.1,t',k+1,A,_,_,_,_,W,g,by ext,A26,G,Y,y,C]
     |true=>
      let t5:=aN (df (f:=mv) (ah (f:=aa 4) (ρ:=EB a b fs u.1 t' (k+1) ω1.length (-(bU e)) (-(.list (u.2.map jX))) (-(dX u.1)) (-(.str (cG (fZ u.2))))) (ω:=ω2) (af W)) (bF (i:=6) W) (sP W (hW g) (Om y A26)));by_cases S:t'∈A
      .rw[a4 S]at t5;show .eq (c9 (fA t4 t5) dF) #[u.1,t',k+1,A,_,_,_,_,W,g,by ext,A26,G,Y,y,C]
      .rw[a5 S]at t5
       show .eq (de (fA t4 t5) W) ?_;let ap:=sS (fo:=ar 6) (fe:=ag (aa 4)) (ρ:=EB a b fs u.1 t' (k+1) ω1.length (-(bU e)) (-(.list (u.2.map jX))) (-(dX u.1)) (-(.str (cG (fZ u.2))))) (x:=.fz (.str (cG t'))) (bF W) g (ah (af W)) g (by rw[UK,UK];ext);show C8 (gP ap) ?_;let X:(ω2.set ω1.length (.lst ((A.map wD).map SV.fz++[.fz (.str (cG t'))])))[ω1.length]?=cL (.lst (((A++[t']).map wD).map .fz)):=by rw[We (UO.mp g).1,Vm,Vm];rfl
       generalize ω2.set ω1.length (.lst ((A.map wD).map SV.fz++[.fz (.str (cG t'))]))=ω3 at X;let rt:=KW C t' (List.prefix_refl _);rw[hr W]at rt;let(ω4,hs,hk):=Az H hn () l2 w2 y Y rt ω3;show .eq (c9 (nu (aN (HE (aq (ah (af W)) (aq (ah (af W)) (aq (ah (af W)) aI))) W hs))) dF) #[u.1,t',k+1,A++[t'],_,_,_,_,W,hk _ _ X,by rw[US];show A.length+1<=_;ext,λl hl=>(Vo.mp hl).elim (A26 l) λz=>by rw[U8.mp z];show y,G,Y,y,C]
   .rintro ρ ω ⟨s,t,k,A,o7,P,O,M,rfl,_⟩;show sV (ah aA) W
 let(x,ω',h1,rfl):=key.all;ext L10.Re;rw[show[UM.list (a.map .int)].map SV.fz=[.fz (.list (a.map .int))]from rfl,h1]
end K73
namespace K73
open PySem L2 L3 L10 STP CC
set_option synthInstance.maxHeartbeats 400000
set_option synthInstance.maxSize 4000
def top(i:Nat):Wz:=PySem.Challenge.pw_chordbed_k73_whole_no_row_is_shorter.main.body.getD i (.Pass ⟨0,0,0,0⟩)
def bL:G Fd:=[Tj 1 "TooMany" "most",
 j5 1 "layer_of" ["standing"] 1 dP,
 j5 1 "looked_up" ["bed","layer","key"] 3 gO,
 j5 1 "chords_over" ["bed","keys"] 2 bu,
 j5 1 "chord_acts" ["bed","keys"] 2 eV,
 j5 1 "_law_cell" ["_law_script","_law_k"] 2 b6,
 j5 1 "_law_draw" ["_law_cell_here","_law_salt","_law_many"] 3 bf,
 j5 2 "_law_meaning" ["_law_cell_here","_law_layer","_law_layers"] 3 dR,
 j5 3 "_law_bed" ["_law_script","_law_most"] 2 iE,
 j5 1 "_law_read_meaning" ["_law_number","_law_layer","_law_layers"] 3 cP,
 j5 2 "_law_read_bed" ["_law_number","_law_most_keys","_law_most_layers","_law_most_wait"] 4 eB,
 j5 1 "_law_read_events" ["_law_number","_law_keys"] 2 cZ,
 j5 2 "_law_event" ["_law_bed_here","_law_cell_here"] 2 eW,
 j5 1 "events_of" ["bed"] 1 fS,
 j5 1 "done_behind" ["text","done","sent"] 3 fH,
 Tu 3 "Hand" ["self","bed","standing"] 3 dg,
 wk R 3 "Hand" "stands" ["self"] 1 bv,
 wk R 3 "Hand" "is_waiting" ["self","key"] 2 bR,
 wk R 3 "Hand" "has_act" ["self","act"] 2 bx,
 wk R 4 "Hand" "come" ["self","key","act"] 3 aZ,
 wk R 4 "Hand" "go" ["self","key"] 2 iw,
 wk R 5 "Hand" "decide" ["self"] 1 cF,
 wk R 4 "Hand" "makes_chord" ["self","key"] 2 cY,
 wk R 6 "Hand" "put_to_chord" ["self","key"] 2 cK,
 wk R 5 "Hand" "begin" ["self","key"] 2 eT,
 wk R 7 "Hand" "press" ["self","key"] 2 gr,
 wk R 6 "Hand" "settle" ["self","key"] 2 fO,
 wk R 7 "Hand" "lift" ["self","key"] 2 gY,
 wk R 6 "Hand" "wait_on" ["self"] 1 eU,
 Kp 8 "step" ["bed","standing","event"] 3 STP.ka,
 wk S 3 "Places" "enter" ["self","place","back","event"] 4 bO,
 RP 4 "Places" ["self","first","most"] 3 cA,
 wk R 3 "Places" "way_to" ["self","number"] 2 cw,
 K2 [] 9 "places_on" ["bed","text","most"] 3 fV,
 K2 [(.int 400)] 10 "typed" ["bed","text","most"] 3 kX,
 Kp 11 "_law_short" ["_law_bed_here","_law_text","_law_many"] 3 gj]
def iT:Md:=⟨["max","all","list","sorted","len","range","tuple","dict","zip","reversed","abs"],[],[("NONE",(.tuple [(.str "none")])),("CHORD",(.tuple [(.str "chord")])),("AT_REST",(.tuple [(.tuple []),.none,.none]))],[("Hand",["bed","acts","waiting","once","sent"]),("Places",["most","found","numbers"])]⟩
noncomputable instance:FX bL "TooMany" "most":=⟨0,1,W⟩
noncomputable instance:Fn bL j5 dP 1:=⟨1,1,"layer_of",["standing"],W⟩
noncomputable instance:Fn bL j5 gO 3:=⟨2,1,"looked_up",["bed","layer","key"],W⟩
noncomputable instance:Fn bL j5 bu 2:=⟨3,1,"chords_over",["bed","keys"],W⟩
noncomputable instance:Fn bL j5 eV 2:=⟨4,1,"chord_acts",["bed","keys"],W⟩
noncomputable instance:Fn bL j5 b6 2:=⟨5,1,"_law_cell",["_law_script","_law_k"],W⟩
noncomputable instance:Fn bL j5 bf 3:=⟨6,1,"_law_draw",["_law_cell_here","_law_salt","_law_many"],W⟩
noncomputable instance:Fn bL j5 dR 3:=⟨7,2,"_law_meaning",["_law_cell_here","_law_layer","_law_layers"],W⟩
noncomputable instance:Fn bL j5 iE 2:=⟨8,3,"_law_bed",["_law_script","_law_most"],W⟩
noncomputable instance:Fn bL j5 cP 3:=⟨9,1,"_law_read_meaning",["_law_number","_law_layer","_law_layers"],W⟩
noncomputable instance:Fn bL j5 eB 4:=⟨10,2,"_law_read_bed",["_law_number","_law_most_keys","_law_most_layers","_law_most_wait"],W⟩
noncomputable instance:Fn bL j5 cZ 2:=⟨11,1,"_law_read_events",["_law_number","_law_keys"],W⟩
noncomputable instance:Fn bL j5 eW 2:=⟨12,2,"_law_event",["_law_bed_here","_law_cell_here"],W⟩
noncomputable instance:Fn bL j5 fS 1:=⟨13,1,"events_of",["bed"],W⟩
noncomputable instance:Fn bL j5 fH 3:=⟨14,1,"done_behind",["text","done","sent"],W⟩
noncomputable instance:FK bL "Hand" dg 3:=⟨15,3,["self","bed","standing"],W⟩
noncomputable instance:FM bL R "Hand" "stands" bv 1:=⟨16,3,["self"],W⟩
noncomputable instance:FM bL R "Hand" "is_waiting" bR 2:=⟨17,3,["self","key"],W⟩
noncomputable instance:FM bL R "Hand" "has_act" bx 2:=⟨18,3,["self","act"],W⟩
noncomputable instance:FM bL R "Hand" "come" aZ 3:=⟨19,4,["self","key","act"],W⟩
noncomputable instance:FM bL R "Hand" "go" iw 2:=⟨20,4,["self","key"],W⟩
noncomputable instance:FM bL R "Hand" "decide" cF 1:=⟨21,5,["self"],W⟩
noncomputable instance:FM bL R "Hand" "makes_chord" cY 2:=⟨22,4,["self","key"],W⟩
noncomputable instance:FM bL R "Hand" "put_to_chord" cK 2:=⟨23,6,["self","key"],W⟩
noncomputable instance:FM bL R "Hand" "begin" eT 2:=⟨24,5,["self","key"],W⟩
noncomputable instance:FM bL R "Hand" "press" gr 2:=⟨25,7,["self","key"],W⟩
noncomputable instance:FM bL R "Hand" "settle" fO 2:=⟨26,6,["self","key"],W⟩
noncomputable instance:FM bL R "Hand" "lift" gY 2:=⟨27,7,["self","key"],W⟩
noncomputable instance:FM bL R "Hand" "wait_on" eU 1:=⟨28,6,["self"],W⟩
noncomputable instance:Fn bL Kp STP.ka 3:=⟨29,8,"step",["bed","standing","event"],W⟩
noncomputable instance:FM bL S "Places" "enter" bO 4:=⟨30,3,["self","place","back","event"],W⟩
noncomputable instance:FKE bL "Places" cA 3:=⟨31,4,["self","first","most"],W⟩
noncomputable instance:FM bL R "Places" "way_to" cw 2:=⟨32,3,["self","number"],W⟩
noncomputable instance:Fn bL (K2 []) fV 3:=⟨33,9,"places_on",["bed","text","most"],W⟩
noncomputable instance:Fn bL (K2 [(.int 400)]) kX 3:=⟨34,10,"typed",["bed","text","most"],W⟩
noncomputable instance:Fn bL Kp gj 3:=⟨35,11,"_law_short",["_law_bed_here","_law_text","_law_many"],W⟩
noncomputable instance k1:CS bL (so gw):=by delta gw;infer_instance
def e1:CC.Wf bL (so gw) iT ["standing"] ["standing"] (top 4) 0 1 R=S:=by left
noncomputable instance k2:CS bL (so fQ):=by delta fQ;infer_instance
def e2:CC.Wf bL (so fQ) iT ["bed","layer","key","meaning"] ["bed","layer","key"] (top 7) 0 2 R=S:=by left
noncomputable instance k3:CS bL (so ei):=by delta ei;infer_instance
def e3:CC.Wf bL (so ei) iT ["bed","keys"] ["bed","keys"] (top 8) 0 3 R=S:=by left
noncomputable instance k4:CS bL (so eO):=by delta eO;infer_instance
def e4:CC.Wf bL (so eO) iT ["bed","keys","chord"] ["bed","keys"] (top 9) 0 4 R=S:=by left
noncomputable instance k5:CS bL (so gU):=by delta gU;infer_instance
def e5:CC.Wf bL (so gU) iT ["_law_script","_law_k"] ["_law_script","_law_k"] (top 21) 0 5 R=S:=by left
noncomputable instance k6:CS bL (so gX):=by delta gX;infer_instance
def e6:CC.Wf bL (so gX) iT ["_law_cell_here","_law_salt","_law_many","_law_number"] ["_law_cell_here","_law_salt","_law_many"] (top 22) 0 6 R=S:=by left
noncomputable instance k7:CS bL (so cQ):=by delta cQ;infer_instance
def e7:CC.Wf bL (so cQ) iT ["_law_cell_here","_law_layer","_law_layers","_law_letter","_law_other","_law_kind"] ["_law_cell_here","_law_layer","_law_layers"] (top 23) 1 7 R=S:=by left
noncomputable instance k8:CS bL (so fE):=by delta fE;infer_instance
def e8:CC.Wf bL (so fE) iT ["_law_script","_law_most","_law_cell_here","_law_keys","_law_layers","_law_rows","_law_layer","_law_cells","_law_some","_law_chords"] ["_law_script","_law_most"] (top 24) 2 8 R=S:=by left
noncomputable instance k9:CS bL (so bE):=by delta bE;infer_instance
def e9:CC.Wf bL (so bE) iT ["_law_number","_law_layer","_law_layers","_law_letter","_law_other"] ["_law_number","_law_layer","_law_layers"] (top 25) 0 9 R=S:=by left
noncomputable instance k10:CS bL (so cj):=by delta cj;infer_instance
def Ul:CC.Wf bL (so cj) iT ["_law_number","_law_most_keys","_law_most_layers","_law_most_wait","_law_keys","_law_layers","_law_wait","_law_rows","_law_layer","_law_row","_law_key","_law_chords","_law_k","_law_some"] ["_law_number","_law_most_keys","_law_most_layers","_law_most_wait"] (top 26) 1 10 R=S:=by left
noncomputable instance k11:CS bL (so bK):=by delta bK;infer_instance
def TZ:CC.Wf bL (so bK) iT ["_law_number","_law_keys","_law_found","_law_many","_law_k","_law_pick"] ["_law_number","_law_keys"] (top 27) 0 11 R=S:=by left
noncomputable instance k12:CS bL (so eK):=by delta eK;infer_instance
def Uk:CC.Wf bL (so eK) iT ["_law_bed_here","_law_cell_here","_law_pick"] ["_law_bed_here","_law_cell_here"] (top 28) 1 12 R=S:=by left
noncomputable instance k13:CS bL (so fW):=by delta fW;infer_instance
def Uv:CC.Wf bL (so fW) iT ["bed","downs","ups"] ["bed"] (top 14) 0 13 R=S:=by left
noncomputable instance k14:CS bL (so et):=by delta et;infer_instance
def T6:CC.Wf bL (so et) iT ["text","done","sent","downs","behind"] ["text","done","sent"] (top 19) 0 14 R=S:=by left
noncomputable instance k15:CS bL (cV eA):=by delta eA;infer_instance
def T2:CC.Wf bL (cV eA) iT ["self","bed","standing"] ["self","bed","standing"] (aJ (top 6) 0) 2 15 R=S:=by left
noncomputable instance k16:CS bL (cV fG):=by delta fG;infer_instance
def UA:CC.Wf bL (cV fG) iT ["self"] ["self"] (aJ (top 6) 1) 2 16 R=S:=by left
noncomputable instance k17:CS bL (cV dD):=by delta dD;infer_instance
def Up:CC.Wf bL (cV dD) iT ["self","key"] ["self","key"] (aJ (top 6) 2) 2 17 R=S:=by left
noncomputable instance k18:CS bL (cV eR):=by delta eR;infer_instance
def UE:CC.Wf bL (cV eR) iT ["self","act"] ["self","act"] (aJ (top 6) 13) 2 18 R=S:=by left
noncomputable instance k19:CS bL (cV gL):=by delta gL;infer_instance
def Ut:CC.Wf bL (cV gL) iT ["self","key","act"] ["self","key","act"] (aJ (top 6) 11) 3 19 R=S:=by left
noncomputable instance k20:CS bL (cV jJ):=by delta jJ;infer_instance
def T8:CC.Wf bL (cV jJ) iT ["self","key","act"] ["self","key"] (aJ (top 6) 12) 3 20 R=S:=by left
noncomputable instance k21:CS bL (cV fM):=by delta fM;infer_instance
def Ux:CC.Wf bL (cV fM) iT ["self","keys","what","acts","key","act"] ["self"] (aJ (top 6) 10) 4 21 R=S:=by left
noncomputable instance k22:CS bL (cV c8):=by delta c8;infer_instance
def Um:CC.Wf bL (cV c8) iT ["self","key"] ["self","key"] (aJ (top 6) 4) 3 22 R=S:=by left
noncomputable instance k23:CS bL (cV cO):=by delta cO;infer_instance
def Ug:CC.Wf bL (cV cO) iT ["self","key","keys"] ["self","key"] (aJ (top 6) 5) 5 23 R=S:=by left
noncomputable instance k24:CS bL (cV gv):=by delta gv;infer_instance
def UC:CC.Wf bL (cV gv) iT ["self","key","layer","meaning","word"] ["self","key"] (aJ (top 6) 6) 4 24 R=S:=by left
noncomputable instance k25:CS bL (cV gc):=by delta gc;infer_instance
def T3:CC.Wf bL (cV gc) iT ["self","key"] ["self","key"] (aJ (top 6) 3) 6 25 R=S:=by left
noncomputable instance k26:CS bL (cV fL):=by delta fL;infer_instance
def T5:CC.Wf bL (cV fL) iT ["self","key","what"] ["self","key"] (aJ (top 6) 8) 5 26 R=S:=by left
noncomputable instance k27:CS bL (cV gM):=by delta gM;infer_instance
def UB:CC.Wf bL (cV gM) iT ["self","key"] ["self","key"] (aJ (top 6) 7) 6 27 R=S:=by left
noncomputable instance k28:CS bL (cV eS):=by delta eS;infer_instance
def Uc:CC.Wf bL (cV eS) iT ["self","age"] ["self"] (aJ (top 6) 9) 5 28 R=S:=by left
noncomputable instance k29:CS bL (cV STP.tU):=by delta STP.tU;infer_instance
def Uu:CC.Wf bL (cV STP.tU) iT ["bed","standing","event","hand"] ["bed","standing","event"] (top 5) 7 29 R=S:=by left
noncomputable instance k30:CS bL (cV bN):=by delta bN;infer_instance
def Uh:CC.Wf bL (cV bN) iT ["self","place","back","event"] ["self","place","back","event"] (aJ (top 15) 1) 2 30 S=S:=by left
noncomputable instance k31:CS bL (cV bz):=by delta bz;infer_instance
def Uq:CC.Wf bL (cV bz) iT ["self","first","most"] ["self","first","most"] (aJ (top 15) 0) 3 31 S=S:=by left
noncomputable instance k32:CS bL (cV dh):=by delta dh;infer_instance
def Ui:CC.Wf bL (cV dh) iT ["self","number","row","place"] ["self","number"] (aJ (top 15) 2) 2 32 R=S:=by left
noncomputable instance k33:CS bL (cV fU):=by delta fU;infer_instance
def TY:CC.Wf bL (cV fU) iT ["bed","text","most","events","places","number","place","event","answer","done"] ["bed","text","most"] (top 18) 8 33 S=S:=by left
noncomputable instance k34:CS bL (cV lm):=by delta lm;infer_instance
def Uo:CC.Wf bL (cV lm) iT ["bed","text","most","places","end"] ["bed","text","most"] (top 17) 9 34 S=S:=by left
noncomputable instance k35:CS bL (cV gf):=by delta gf;infer_instance
def N8:CC.Wf bL (cV gf) iT ["_law_bed_here","_law_text","_law_many","_law_found"] ["_law_bed_here","_law_text","_law_many"] (top 29) 10 35 R=S:=by left
noncomputable instance k36:CS bL (cV uE):=by delta uE;infer_instance
def QA:CC.Wf bL (cV uE) iT ["_law_script","_law_bed_here","_law_events","_law_standing","_law_text","_law_many","_law_asked","_law_event_here","_law_sent","_law_there","_law_more"] ["_law_script"] (top 30) 11 36 R=S:=by left
end K73
namespace L2
open PySem PySem.Spec PyProof.Rows
section
variable{Z:St}{H:Hp}{Q:VK}{D:Ends}
theorem Hg{K:CL}{c b:TE}{f:Str}(h:b Z H λy H1=>c Z H1 λx e=>∃a C d fs,x=.ref a/\e a=M (.ins C d fs)/\Cls K C/\Ya K C f/\fs.length<1000/\D.nx Z (aW e a (.ins C d (g6 f y fs)))):Od K c b f D Z H:=h
theorem Mm{c:TT}{t u:TE}(h:c Z H λb H1=>if b=S then t Z H1 Q else u Z H1 Q):P6 c t u Z H Q:=h
theorem Pa{K:CL}{b:TE}{f:Str}(h:b Z H λx H1=>∃a C c fs v,x=.ref a/\H1 a=M (.ins C c fs)/\Cls K C/\Ya K C f/\fs.lookup f=M v/\Q v H1):OC K b f Z H Q:=h
theorem IE{C:J}{m:Str}{sp:Sp}{E:XK}{b:TE}{t:TA}(h:b Z H λx H1=>∃a d fs,x=.ref a/\H1 a=M (.ins C d fs)/\fs.lookup m=P/\t Z H1 λc e=>sp (x::(c++[])) e Q E):rE C m sp [] E b t Z H Q:=h
theorem Kb{C:J}{sp:Sp}{E:XK}{t:TA}(h:t Z H λb H1=>∀x a,H1 x=P->H1 a=P->a≠x->sp (.ref x::(b++[])) (aW (aW H1 a (.own x)) x (.ins C a [])) (λv c=>v=.W9/\Q (.ref x) c) E):uX C sp [] E t Z H Q:=h
end
end L2
local macro_rules| `(tactic|ext:8)=> `(tactic|repeat (first
 |specialize L2.Oj ?_
 |specialize L2.aih ?_
 |specialize L2.Hg ?_
 |specialize L2.Mm ?_
 |specialize L2.Pa ?_
 |specialize L2.IE ?_
 |specialize L2.Kb ?_
 |specialize L2.ag9 ?_
 |((with_reducible show L2.qB _ _ _ _);refine⟨_,rfl,?_⟩)
 |specialize L2.alS ?_
 |specialize L2.ak5 ?_
 |specialize L2.ak2 ?_
 |specialize L2.akZ ?_
 |specialize L2.als ?_
 |((specialize L2.alO ?_ ?_);first|exact⟨by decide,by decide⟩|exact⟨by decide,by decide,by decide⟩|exact(show(0:Int)<_ by decide)|exact⟨by decide,by left⟩)
 |((specialize L2.ak8 ?_ ?_);exact rfl)
 |((specialize L2.akq ?_ ?_);exact rfl)
 |specialize L2.aju ?_
 |specialize L2.Jf ?_
 |specialize L2.ah1 ?_
 |specialize L2.agC ?_
 |specialize L2.agm ?_
 |specialize L2.agz ?_
 |specialize L2.aht ?_
 |specialize L2.amh ?_
 |specialize L2.aky ?_
 |specialize L2.aiX ?_
 |specialize L2.akY ?_
 |specialize L2.ah8 ?_
 |specialize L2.ag8 ?_
 |specialize L2.aie ?_
 |specialize L2.ahb ?_
 |specialize L2.aiq ?_
 |specialize L2.agP ?_
 |specialize L2.akG ?_
 |specialize L2.agQ ?_
 |specialize L2.air ?_
 |specialize L2.ajg ?_
 |specialize L2.akE ?_
 |specialize L2.ala ?_
 |specialize L2.aeZ ?_
 |specialize L2.agD ?_
 |specialize L2.aiN ?_
 |specialize L2.aga ?_
 |specialize L2.ago ?_
 |specialize L2.ahq ?_
 |specialize L2.agZ ?_
 |specialize L2.aiI ?_
 |specialize L2.agu ?_
 |specialize L2.ahm ?_
 |specialize L2.afz ?_
 |specialize L2.ag2 ?_
 |specialize L2.afW ?_
 |specialize L2.agK ?_
 |specialize L2.agO ?_))
namespace K73
open PySem L2
section
open L3 L4
variable{P:Vc}{w:Vw}{K:CL}{mg:Str->bg UI}{base:Heap}{f:UP}{Y:VT}
theorem jS:W3 ["self","most"] ["self","most"] (aw (aJ (top 12) 0)):=⟨W,W,W,by left,W,by left,by left⟩
def Bp{C B fI:J}(F:ZD K "__init__" "TooMany.__init__" (aJ (top 12) 0) f Y)(o:L9.XC K C B fI)(l:mg "BedError"=M (.ref B))(g:ZH K B (.type "type")=S)(m:ZI K (.ref B) (.type "type") "__init__"=M (.val (.builtin "ValueError.__init__")))
  (b:Xr K (.ref B) "__getattribute__"=M (M (.builtin "type.__getattribute__"))) (j:VH K (.ref C) "most"=M lD):FnOk P w K mg base j0 1 f Y ["self","most"] (L9.sX C "most"):=by
 show F.ok jS (λL H Q E h=>?_) (λu A a s H L Q E t h=>?_)
 .let(_,_,rfl,_):=h;rfl
 let(e,v,rfl,r,n,q):=h;show⟨_,(vP (zi (L9.F0 W l g m b o (iG (pv 0) (iG (L9.JS (L9.Ol () (L9.Oa (pv 1) L9.MW)) ()) lM)))) (zk (L9.Gx o j (pv 0) (pv 1) W))),?_⟩;ext:8;show⟨V.ref e,W,v,W,r,λy=>⟨e,y,W,n,?_⟩⟩;show⟨v,W,V.ref e,W,e,W,n,λp j i=>q p j i⟩
end
end K73
theorem SU{α:Type}:∀{l:G α},l.length=1->∃a,l=[a]
 |[a],_=>⟨a,W⟩
theorem SM{α:Type}:∀{l:G α},l.length=2->∃a b,l=[a,b]
 |[a,b],_=>⟨a,b,W⟩
theorem To{α:Type}:∀{l:G α},l.length=3->∃a b c,l=[a,b,c]
 |[a,b,c],_=>⟨a,b,c,W⟩
theorem TX{α:Type}:∀{l:G α},l.length=4->∃a b c d,l=[a,b,c,d]
 |[a,b,c,d],_=>⟨a,b,c,d,W⟩
local macro_rules| `(tactic|ext:2)=> `(tactic|(intro _ _ _ _ _ _ us hl;first|(obtain⟨_,h⟩:=SU hl;subst h;kernel_rfl)|(obtain⟨_,_,h⟩:=SM hl;subst h;kernel_rfl)|(obtain⟨_,_,_,h⟩:=To hl;subst h;kernel_rfl)|(obtain⟨_,_,_,_,h⟩:=TX hl;subst h;kernel_rfl)|(match us,hl with|[_,_,_,_,_],_=>rfl)|(match us,hl with|[_,_,_,_,_,_],_=>rfl)|(match us,hl with|[],_=>rfl)))| `(tactic|ext:7)=> `(tactic|(intro _ _ _ _ _ _ us hl;first|((have h1:us.length=1:=by simpa using hl);obtain⟨_,h⟩:=SU h1;subst h;exact⟨_,rfl,rfl⟩)|((have h1:us.length=2:=by simpa using hl);obtain⟨_,_,h⟩:=SM h1;subst h;exact⟨_,rfl,rfl⟩)|((have h1:us.length=3:=by simpa using hl);obtain⟨_,_,_,h⟩:=To h1;subst h;exact⟨_,rfl,rfl⟩)|((have h1:us.length=4:=by simpa using hl);(match us,h1 with|[_,_,_,_],_=>exact⟨_,rfl,rfl⟩))))| `(tactic|ext:5)=> `(tactic|first|exact List.forall_mem_nil _|(refine List.forall_mem_cons.mpr ⟨?_,?_⟩;(·first|(show VH _ _ _=_;k_is)|(show Vj _ _ _=_;k_is));ext:5))| `(tactic|ext:9)=> `(tactic|first|(refine' L3.NI.mk ?a' ⟨_,L2.B7 ?b' ?c' ?d'⟩;(case a'=>k_is);(case b'=>k_is);(case c'=>k_is);(case d'=>k_is))|(refine' L3.MI.mk ?a' ?e' ⟨_,L2.B7 ?b' ?c' ?d'⟩;(case a'=>k_is);(case e'=>k_is);(case b'=>k_is);(case c'=>k_is);(case d'=>k_is))|(refine' L3.CI.mk ?a' ?b' ?c' ?d' ?e' ?f' ?g' ?i';(case a'=>k_is);(case b'=>k_is);(case c'=>k_is);(case d'=>k_is);(case e'=>k_is);(case f'=>k_is);(case g'=>k_is);(case i'=>ext:5))|(refine' L3.DI.mk ?a' ⟨_,L3.Jb ?b' ?c' ?d' ?e'⟩;(case a'=>k_is);(case b'=>k_is);(case c'=>k_is);(case d'=>k_is);(case e'=>k_is))|k_is|k_exc|rfl|ext:5|left|(rw[<-acz];rfl))
namespace K73
open PySem L2 L3 CC
def F_lawH:FN:=L10.Re F_law
def all_mk{l:acg}{w:Vw}{K:CL}{h:Heap}{c:Str->bg UI}{fa:UP}
  {acN:Tok}
  {D:UP} {adA:Nat} {adw:Array (bg UI)}
  {ab1:Tok}
  {F:UP} {acS:Nat} {acO:Array (bg UI)}
  {YN:UP} {aaB:Nat} {aay:Array (bg UI)}
  {V:UP} {abr:Nat} {abH:Array (bg UI)}
  {adB:UP} {Z1:Tok}
  {f0 f1 f2 f3 f4 f5 f6 f7 f8 f9 f10 f11 f12 f13 f14 f15 f16 f17 f18 f f20 f21 f22 f23 f24 f25 f26 f27 f28 f29 f30 f31 f32 f33 j f35 f36 f37 o:UP}
  {m n:UP}
  {nmR qR:Str} {NR:UP} {bsR:bb UI} {snR:bb Str} {ajv:bb UI} {abR:Bool} {ajo:bg Bool} {ddR:bg UP} {k0R k1R k2R k3R k5R:bg UI}
  {ocN:UI} {odN:bg UP} {k:Array XD} {nN:Nat} {slN:Array (bg UI)} (X:K.In h) (G:h.Ns U9 c) (hfa:c "law"=cL (.ref fa))
  (h0:NI K f0 "layer_of" (top 4))
  (h1:NI K f1 "looked_up" (top 7))
  (h2:NI K f2 "chords_over" (top 8))
  (h3:NI K f3 "chord_acts" (top 9))
  (h4:NI K f4 "_law_cell" (top 21))
  (h5:NI K f5 "_law_draw" (top 22))
  (h6:NI K f6 "_law_meaning" (top 23))
  (h7:NI K f7 "_law_bed" (top 24))
  (h8:NI K f8 "_law_read_meaning" (top 25))
  (h9:NI K f9 "_law_read_bed" (top 26))
  (h10:NI K f10 "_law_read_events" (top 27))
  (h11:NI K f11 "_law_event" (top 28))
  (h12:NI K f12 "events_of" (top 14))
  (h13:NI K f13 "done_behind" (top 19))
  (h14:NI K f14 "step" (top 5))
  (h15:NI K f15 "places_on" (top 18))
  (h16:DI K f16 adB "typed" (top 17) #v[.int 400 Z1])
  (h17:NI K f17 "_law_short" (top 29))
  (h18:NI K f18 "law" (top 30))
  (b:CI K f "Hand" ["bed","acts","waiting","once","sent"])
  (h20:MI K f f20 "__init__" "Hand.__init__" (aJ (top 6) 0))
  (h21:MI K f f21 "stands" "Hand.stands" (aJ (top 6) 1))
  (h22:MI K f f22 "is_waiting" "Hand.is_waiting" (aJ (top 6) 2))
  (h23:MI K f f23 "has_act" "Hand.has_act" (aJ (top 6) 13))
  (h24:MI K f f24 "come" "Hand.come" (aJ (top 6) 11))
  (h25:MI K f f25 "go" "Hand.go" (aJ (top 6) 12))
  (h26:MI K f f26 "decide" "Hand.decide" (aJ (top 6) 10))
  (h27:MI K f f27 "makes_chord" "Hand.makes_chord" (aJ (top 6) 4))
  (h28:MI K f f28 "put_to_chord" "Hand.put_to_chord" (aJ (top 6) 5))
  (h29:MI K f f29 "begin" "Hand.begin" (aJ (top 6) 6))
  (h30:MI K f f30 "press" "Hand.press" (aJ (top 6) 3))
  (h31:MI K f f31 "settle" "Hand.settle" (aJ (top 6) 8))
  (h32:MI K f f32 "lift" "Hand.lift" (aJ (top 6) 7))
  (h33:MI K f f33 "wait_on" "Hand.wait_on" (aJ (top 6) 9))
  (g:CI K j "Places" ["most","found","numbers"])
  (h35:MI K j f35 "enter" "Places.enter" (aJ (top 15) 1))
  (h36:MI K j f36 "__init__" "Places.__init__" (aJ (top 15) 0))
  (h37:MI K j f37 "way_to" "Places.way_to" (aJ (top 15) 2))
  (ZZ:Vj K U9 "TooMany"=cL (cL (.ref m)))
  (aaV:Vj K U9 "BedError"=cL (cL (.ref n)))
  (xR:K.lookup m=cL (excClassObj nmR qR m NR bsR (.ref n::[.type "ValueError",.type "Exception",.type "BaseException",.type "object"]) UJ snR ajv abR ajo ddR k0R k1R k2R k3R k5R "ValueError.__new__"))
  (eI:XG K n [.type "ValueError",.type "Exception",.type "BaseException",.type "object"] "ValueError.__new__"=UJ)
  (lN:K.lookup NR=cL ⟨ocN,odN,.dict k nN,slN⟩)
  (Kv:(k.all λe=>match e.key with|.str _ _=>UJ|_=>UL)=UJ)
  (inN:Vj K NR "__init__"=cL (cL (.ref o)))
  (saR:VH K (.ref m) "__setattr__"=cL (cL (.builtin "object.__setattr__")))
  (plR:VH K (.ref m) "most"=cL lD)
  (rdB:ZH K n (.type "type")=UJ)
  (fcB:ZI K (.ref n) (.type "type") "__init__"=cL (.val (.builtin "ValueError.__init__")))
  (Et:Xr K (.ref n) "__getattribute__"=cL (cL (.builtin "type.__getattribute__")))
  (d:MI K m o "__init__" "TooMany.__init__" (aJ (top 12) 0))
  (adj:Vj K U9 "NONE"=cL (cL (.ref D)))
  (acG:Vj K U9 "CHORD"=cL (cL (.ref F)))
  (abE:Vj K U9 "AT_REST"=cL (cL (.ref V)))
  (abD:K.lookup V=cL ⟨.type "tuple",lD,.seq #v[.ref YN,.none,.none] abr,abH⟩)
  (aaC:K.lookup YN=cL ⟨.type "tuple",lD,.seq #v[] aaB,aay⟩)
  (acC:K.lookup F=cL ⟨.type "tuple",lD,.seq #v[.str "chord" ab1] acS,acO⟩)
  (ads:K.lookup D=cL ⟨.type "tuple",lD,.seq #v[.str "none" acN] adA,adw⟩)
  (yb:∀x∈iT.bl,Vj K U9 x=cL lD):
  ∃fd:VT,(∀(s:UQ) (v:UI),Y2 s fd ⟨[v],[]⟩ [("_law_script",v)])/\∀base:Heap,K.In base->base.Ns U9 c->FnOk l.prog w K c base j0 12 fa fd ["_law_script"] (L3.AL K 1 F_lawH):=by
 let aez:=Hs (xs:=[.str "none"]) (ds:=[(.str "none")]) ads (by show 1<=UY;decide) (.cons ⟨_,rfl⟩ .nil) λO H=>(.cons (.str _) .nil);let adn:=Hs (xs:=[.str "chord"]) (ds:=[(.str "chord")]) acC (by show 1<=UY;decide) (.cons ⟨_,rfl⟩ .nil) λO H=>(.cons (.str _) .nil);let aaY:=Hs (xs:=[]) (ds:=[]) aaC (by show 0<=UY;decide) .nil λO H=>.nil;let ab6:=Hs (xs:=[.ref YN,.W9,.W9]) (ds:=[(.tuple []),.none,.none]) abD (by show 3<=UY;decide) (.cons rfl (.cons rfl (.cons rfl .nil))) λO H=>(.cons (aaY O H) (.cons .W9 (.cons .W9 .nil)));show h18.law X G hfa (by ext:2) λbase fd aeo=>?_;let W:Tp l.prog w K c base h:=⟨X,G⟩;let Kv:ZT K NR=UJ:=by ext ZT;rw[lN];show Kv
 let XR:L4.Ko K m (.ref n::[.type "ValueError",.type "Exception",.type "BaseException",.type "object"]):=⟨_,_,_,_,_,_,_,_,_,_,_,_,_,_,_,_,xR⟩;let Z0:L9.XC K m n o:=⟨⟨_,_,_,_,_,_,_,_,_,_,_,_,_,_,xR,Kv,inN⟩,eI,saR⟩;let ab9:=Ww X G ZZ;let abF:=Ww X G aaV;let(fdI,zI):=d.F;let(_,_,_,_,_,_,_,_,_,rfl,abt,_):=zI.ex;let abl:=d.i;let abA:=Bp (P:=l.prog) (w:=w) (mg:=c) (base:=base) zI Z0 abF rdB fcB Et plR;let abG:=zI.binds (ps:=["self","most"]) (by ext:2);let a:aaW K c iT:=⟨λx hx=>PySem.W.mg_none_of X G (yb x hx),T0,(SI (SX (Ww X G adj) aez) (SI (SX (Ww X G acG) adn) (SI (SX (Ww X G abE) ab6) Uf))),(TL b.cf (TL g.cf Ub))⟩;let s0:=Ud (T:=bL) (P:=l.prog) (w:=w) (K:=K) (mg:=c) (base:=base);let s1:=jb s0 rfl (⟨_,_,_,_,_,_,Z0,abt,abl,abA,abG,ZZ,ab9⟩);let s2:=jb s1 rfl (h0.c W λ_ z=>lG a s1 z e1);let s3:=jb s2 rfl (h1.c W λ_ z=>lG a s2 z e2);let s4:=jb s3 rfl (h2.c W λ_ z=>lG a s3 z e3);let s5:=jb s4 rfl (h3.c W λ_ z=>lG a s4 z e4);let s6:=jb s5 rfl (h4.c W λ_ z=>lG a s5 z e5);let s7:=jb s6 rfl (h5.c W λ_ z=>lG a s6 z e6);let s8:=jb s7 rfl (h6.c W λ_ z=>lG a s7 z e7);let s9:=jb s8 rfl (h7.c W λ_ z=>lG a s8 z e8);let s10:=jb s9 rfl (h8.c W λ_ z=>lG a s9 z e9);let s11:=jb s10 rfl (h9.c W λ_ z=>lG a s10 z Ul);let s12:=jb s11 rfl (h10.c W λ_ z=>lG a s11 z TZ);let s13:=jb s12 rfl (h11.c W λ_ z=>lG a s12 z Uk);let i:=jb s13 rfl (h12.c W λ_ z=>lG a s13 z Uv);let Z:=jb i rfl (h13.c W λ_ z=>lG a i z T6);let Y:=jb Z rfl (h20.k b W λ_ z=>i4 a Z z T2);let U:=jb Y rfl (h21.mt b W λ_ z=>i4 a Y z UA);let S:=jb U rfl (h22.mt b W λ_ z=>i4 a U z Up);let R:=jb S rfl (h23.mt b W λ_ z=>i4 a S z UE);let Q:=jb R rfl (h24.mt b W λ_ z=>i4 a R z Ut);let N:=jb Q rfl (h25.mt b W λ_ z=>i4 a Q z T8);let M:=jb N rfl (h26.mt b W λ_ z=>i4 a N z Ux);let L:=jb M rfl (h27.mt b W λ_ z=>i4 a M z Um);let J:=jb L rfl (h28.mt b W λ_ z=>i4 a L z Ug);let I:=jb J rfl (h29.mt b W λ_ z=>i4 a J z UC);let E:=jb I rfl (h30.mt b W λ_ z=>i4 a I z T3);let C:=jb E rfl (h31.mt b W λ_ z=>i4 a E z T5);let B:=jb C rfl (h32.mt b W λ_ z=>i4 a C z UB);let A:=jb B rfl (h33.mt b W λ_ z=>i4 a B z Uc);let y:=jb A rfl (h14.c W λ_ z=>i4 a A z Uu);let u:=jb y rfl (h35.mt g W λ_ z=>Oe a y z Uh);let t:=jb u rfl (h36.k g W λ_ z=>Oe a u z Uq);let r:=jb t rfl (h37.mt g W λ_ z=>i4 a t z Ui);let q:=jb r rfl (h15.d W λ_ z=>Oe a r z TY);let p:=jb q rfl (h16.c (ds:=[.int 400 Z1]) W (.cons ⟨_,rfl⟩ .nil) λ_ z=>Qc a q z Uo);let s36:=jb p rfl (h17.c W λ_ z=>i4 a p z N8);show(i4 a s36 aeo QA).imp λ_ _ _ _ h=>L10.OI h
end K73
local macro_rules|`(universe $i*)=>do
 let t:=fun (c:Lean.Name)=>`(theorem $(Lean.mkIdent ((`PySem.W.Fast).str ("tw"++toString c.hash))):ident:True:=trivial)
 let b:=`PySem.Challenge.cw_chordbed_k73_whole_no_row_is_shorter_holds
 let o←(List.range 443).mapM fun n=>t (b.str ("o_"++toString n))
 let l←i.mapM fun j=>t (b++j.getId)
 return Lean.mkNullNode (((o.toArray++l).push (←t `PySem.Challenge.pw_chordbed_k73_whole_no_row_is_shorter)))
universe heap_39 heap_443 view_39 tree_442 tree_371 sts_372 tree_319 tree_292 sts_67 tree_176 tree_257 sts_320 sts_261 sts_49 sts_293 tree_66 heap_46 tree_47 env_41
open PySem PySem.W PyProof.Rows
set_option maxRecDepth 100000 in
set_option maxHeartbeats 0 in
theorem PySem.Challenge.cw_chordbed_k73_whole_no_row_is_shorter_holds : PySem.Challenge.rw_chordbed_k73_whole_no_row_is_shorter.Holds := by
 w_on;o_law;k_head;(case hw=>w_witness2)
 k_fill
 refine L3.QB (l:=PySem.Challenge.rw_chordbed_k73_whole_no_row_is_shorter) (n:=63) (k:=12) (x:= "_law_script") (F:=K73.F_lawH) rfl (by decide) rfl ⟨rfl,by decide,by decide⟩ (λw h Y=>PySem.W.kIn_of Y) ?F K73.main
 case F=>
  intro w e f h b G a
  apply K73.all_mk b G a
  all_goals ext:9
