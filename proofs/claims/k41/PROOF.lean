import PyProof.Rows.All
import Wide.All
import OpenK.AllK
import Wide.FinOn
import Lean
import PyProof.EqAt
import PyProof.EqKinds
import PyProof.TupleCall
import KE.KIntText
import KE.KRevSl
import PyProof.Rows.SeqMore
import PyProof.WalkInts
import PyProof.Rows.MinMaxN
import PyProof.ExcInit
import OpenK.KMake
import PyProof.InstStoreFacts
import PyProof.FString2
import PyProof.Rows.FStr
import PyProof.Rows.SetFrom
import PyProof.SeqRoads2
import PyProof.RangeFor
import PyProof.WalksMore
import PyProof.StrBlock2
import PyProof.Rows.SortShell
import PyProof.TupleOfSeq
import KE.KDictList
import KE.KDictOf
import PyProof.IsiH_tuple
import PyProof.Rows.RuleN_abs
import PyProof.Rows.Range3
import KE.KRevIter
import PyProof.StrLawsRepr
import PyProof.ReprStr
import PyProof.IsiH_list
import PyProof.Rows.TupDisplay
import PyProof.SetKind
import PyProof.SetScanFacts
import PyProof.CollectIter
import PyProof.Rows.SortStr
import PySem.Challenge.RW_chordbed_k41_rooms_as_they_come
set_option compiler.extract_closed false
set_option genSizeOf false
set_option genInjectivity false
set_option Elab.async false
set_option linter.all false
set_option maxRecDepth 100000
abbrev ax:=@if_pos
abbrev a4:=@if_neg
abbrev a5:=@decide_eq_true
abbrev a6:=@decide_eq_false
abbrev a7:=@of_decide_eq_true
abbrev bg:=@absurd
abbrev b3:=@List
abbrev b4:=@Option
abbrev ck:=@PySem.Heap.get?_push_of_some
abbrev cn:=@PySem.Heap.lt_size
abbrev cv:=@PySem.Heap.get?_push_size
abbrev da:=@PySem.Heap.get?_update_other
abbrev dt:=@PySem.Heap.get?_update_self
abbrev dN:=@PySem.Heap.size_push
abbrev d3:=@PySem.Heap.get?_none_of_le
abbrev ec:=@PySem.Obj.data_mapFields
abbrev ef:=@PySem.Obj.isFreed_of_fields
abbrev eg:=@Ne.symm
abbrev en:=@congrArg
abbrev eu:=@beq_self_eq_true
open Lean in
def cvP:Nat→TSyntax `term→MacroM (TSyntax `rcasesPat)
 |0,_=>Macro.throwUnsupported
 |n+1,t=>let f:=fun (a:Array Term)=>do
   let l←(←a.mapM (cvP n)).mapM fun p=>`(Lean.Parser.Tactic.rcasesPatLo|$p:rcasesPat)
   `(rcasesPat|⟨$l,*⟩)
  match t with
  |`(⟨$a,*⟩)=>f a
  |`(($a,$b,*))=>f (#[a]++b.getElems)
  |`($i:ident)=>`(rcasesPat|$i:ident)
  |`(_)=>`(rcasesPat|_)
  |_=>Macro.throwUnsupported
local macro_rules|`(tactic|let $d:letDecl)=>`(tactic|have $d:letDecl)
local macro_rules|`(tactic|let $p:term:=$e)=>if p.raw.isIdent then Lean.Macro.throwUnsupported else do let q←cvP 99 p;`(tactic|obtain $q:rcasesPat:=$e)
local macro_rules|`(tactic|left)=>`(tactic|decide+kernel)|`(tactic|change $e)=>`(tactic|with_reducible exact $e)|`(tactic|specialize $e)=>`(tactic|with_reducible refine $e)
local macro_rules|`(def $i:declId $s:optDeclSig $v:declVal)=>if v.raw[1].isOfKind ``Lean.Parser.Term.byTactic then `(theorem $i:declId $(⟨Lean.mkNode ``Lean.Parser.Command.declSig #[s.raw[0],s.raw[1][0]]⟩):declSig $v:declVal) else `(noncomputable def $i:declId $s:optDeclSig $v:declVal)|`(abbrev $i:declId $s:optDeclSig $v:declVal)=>`(noncomputable abbrev $i:declId $s:optDeclSig $v:declVal)
local macro_rules|`(tactic|ext)=>`(tactic|decide)
local macro_rules|`(tactic|ext)=>`(tactic|omega)
local macro_rules|`(tactic|ext)=>`(tactic|lia)
local macro_rules|`(tactic|show $e)=>`(tactic|refine $e)
local macro_rules|`(tactic|ext $i:ident)=>`(tactic|cases $i:ident)
local macro_rules|`(tactic|ext $i:ident)=>`(tactic|unfold $i:ident)
local macro_rules|`(#[$a,*])=>`(⟨$a,*⟩)|`(#v[$a,*])=>`(List.toArray [$a,*])
local macro_rules|`(())=>`(by ext)
open Option renaming some->cL,none->Uo,bind_eq_some_iff->Vs,isSome_iff_exists->V0,isSome_map->V6,map_eq_some_iff->Yv,isNone_iff_eq_none->aaf,isSome_some->abZ,toList_none->ab1,getD_some->acv
open PySem.W renaming Frag->lD,nsIn->UU,findIn->U7,kia_one->Vn,kitOne->Vr,mg_of->VJ,emptyDict->VU,fnOf->VV,subIn->VY,keepIn->V4,instObj->Wn,typeIn->Wz,isFn->WH,hasDictIn->WT,InstAt->WX,specialIn->Xh,cellsFrom_some->Xi,plainGet->Xu,excIn->XD,isClsIn->XO,callWith_K->XY,codeIn->XZ,methodCall_KW->Yz,lookIn->YE,tailIn->YJ,notCls->YK,plainGet_of->YY,clsIn->Y2,methodObj->Zd,plainOver->Ze,kitx_list->Zf,takerIn->ZE,makesIn->ZF,readsIn->ZI,findCls->ZJ,nsOkIn->ZU,kitAny->ZW,pyHash_slot->abj,kitx_tuple->abp,tail_of_in->abu,kitx_none->abW,kitx_bool->abX,kitx_dict->abY,handedIn->ab5,kitx_int->ab6,kitx_str->ab7,OpenLaw->acw,mroIn->adn
open PySem renaming Value->CL,wpAny_bind->Ld,Addr->Uu,PyData->Uv,Shared->Uw,wpAny_pure->UB,sizeLine->UD,mainGlobals->UL,starEach->UO,NameKind->UQ,Program->UR,Expr->UW,Around->U4,World->Va,wpAny_field->Vc,bootBuiltins->Vl,FuncData->Vv,Builtin->Vx,wpAny_setField->VQ,wpAny_seqItems->VW,compareOp->V5,binaryOp->Wa,mem_of_lookup->Wb,Scope->Wd,wpAny_newObj_type->We,wpAny_loadPart_at->Wf,Stmt->Wm,cellsFrom->Wo,sysModules->Wr,wpAny_truthy_bool->WA,sizeLine_eq->WB,codeAny_call_builtin->WC,wpAny_standAt->WI,wpAny_holding->WJ,swapsWith->WO,wpAny_Call_Name_kw->WY,wpAny_setField_rec->WZ,wpAny_passesOwn->W3,wpAny_call_entry->Xe,wpAny_isSubtype_exc->Xj,plainId_quiet->Xm,wpAny_execs_nil->Xo,codeAny_builtin->Xs,DictEntry->Xy,wpAny_callSpecial?_slot->Xz,wpAny_letGo->XA,ExcBaseFacts->XN,Comprehension->X2,wpAny_pyIter_list->Yg,codeAny_mono->Yh,wpAny_call->Yp,call_meets->Yq,Keyword->YB,wpAny_comprehension_free->YI,GenState->YX,BindsTo->Y4,wpAny_pyIter_tuple->Zh,ReadsAll->Zq,wpAny_updateSeq_pair->Zr,wpAny_tryCatch->Zs,wpAny_onRaise->ZM,typeIs_int->ZR,wpAny_rule->ZS,tupleKind_room_in1->ZT,ZipApart->aac,wpAny_Call_ofName->aad,eqIsQuiet_byValue->aae,plainObj_wpAny_Assign_Attribute->aal,wpAny_execs_cons->aar,PassesOwn->aas,Result->aau,wpAny_isInstance->aaw,Model->aaN,CmpOp->aaO,wpAny_of_eq->aaP,Within->aaV,pushCells_keeps->aaW,wpAny_updateSeq->aaY,OsState->abi,wpAny_loadPart->abo,Code->abq,Reads->abr,IsZip->abt,wpAny_binaryOp_repeat_ref->ab0,Drawn->acu,wpAny_Assign_Subscript->acF,wpAny_typeOf->acG,wpAny_isTrue_Compare1->adm,builtinLookup_eq_fast->adq,Operator->adB,wpAny_raiseNew_none->ad8,wpAny_Name->aev,wpAny_Constant_int->aew,wpAny_load->aey,wpAny_getItem_heap->aeA,wpAny_setItem_heap->aeB,wpAny_entryPlaceOf->aeC,passOn->aeD,wpAny_assign_Name->afh,wpAny_frameOf_fun->afi,OwnTail->afj,wpAny_pyHash_int->afM,wpAny_pyHash_str->afN,wpAny_lookBehind->afT,pastItsLine_dict->afU,noFill_tuple_add->afV,call->afX,wpAny_pyIter_zip->afY,beq_builtin_none->afZ,wpAny_specialOf->ag2,typeLookup_type->ag3,wpAny_Compare1->ah2,wpAny_Expr_any->ah3,refuseLoop_ref->aia,intBits_le_64->aj0,seq_tuple_add->aj1,call_list_seq->aj2,eval_ListComp->aj3,wpAny_attempt->aj4,wpAny_in_heap->aj5,strLen_append->aj6,wpAny_newList->aj7,ItemsOf->aj8
open Bool renaming true->Uq,and_eq_true->Ur,false->Ut,false_ne_true->UH,or_eq_true->VT,and_self->WW,eq_iff_iff->Xd,false_eq_true->Xf,true_or->Xq,not_eq_true'->Xr,true_and->XJ,or_true->X1,false_or->Yn,false_and->YZ,and_true->Zi,noConfusion->ZN,not_true->aaR,or_eq_false_iff->ab2,bne_false->ad9,or_false->aez
open List renaming length_map->Us,getElem?_eq_some_iff->Ux,length_append->Uz,replicate->UA,getElem?_eq_getElem->UE,getElem?_map->UG,length_cons->UJ,map_cons->UK,range->UM,mem_cons_of_mem->UN,map_append->UP,size_toArray->US,mem_cons_self->UX,getElem?_append_left->U0,append_assoc->U3,mem_cons->U5,getElem?_append_right->U8,append_nil->U9,mem_singleton->Ve,getElem?_set_ne->Vf,find?_cons->Vg,length_range->Vh,lookup_cons->Vi,mem_of_getElem?->Vj,map_map->Vo,isEmpty_iff->Vp,mem_map->Vt,mem_append_right->Vw,length_set->Vy,mem_append->VD,replicate_succ->VG,getElem?_set->VH,getElem?_set_self->VO,all_eq_true->VP,length_replicate->VS,length_take->V1,not_mem_nil->V2,nodup_cons->V8,all_cons->Wh,mem_filter->Ws,length_nil->Wt,lookup->Wv,flatten_cons->Ww,mem_range->WE,getElem?_replicate->WG,take_add_one->W2,map_nil->W6,drop_eq_getElem_cons->W8,contains_cons->Xg,drop_eq_nil_of_le->Xp,mem_iff_getElem?->XF,any_cons->XM,mem_append_left->XS,of_mem_zip->XW,forIn_cons->XX,map_congr_left->X0,mem_filterMap->X9,pairwise_cons->Ya,pairwise_map->Yi,nodup_append->Yj,filter_cons->Yu,prefix_refl->Yw,foldl->YC,foldl_cons->YF,length_singleton->YR,length_filter_le->YS,contains_iff_mem->YT,length->Y0,forIn_nil->Y1,nodup_nil->Y3,filterMap_cons->Zb,getElem_mem->ZL,any_eq_true->ZO,take_length->ZP,nil_append->Z6,range_succ->Z8,mem_of_find?_eq_some->aax,filterMap_cons_none->aaS,filterMap_cons_some->aaT,getElem?_cons_succ->aaX,getLast?_cons_cons->aaZ,getElem?_cons_zero->aa0,pairwise_lt_range->abl,set_cons_zero->acx,set_cons_succ->acy,getElem_range->acz,foldl_append->acI,zipIdx_cons->ado,cons_append->adp,zipIdx_nil->adE,Nodup->ag6
open Nat renaming le_of_ble_eq_true->Uy,le_refl->UC,lt_of_lt_of_le->UT,ne_of_lt->UY,le_trans->Vb,zero_le->Vm,ne_of_gt->VI,lt_irrefl->VN,zero_add->Wx,lt_trans->Xv,lt_succ_self->XI,add_assoc->XT,le_of_lt->X5,le_of_eq->X6,le_of_succ_le->Yl,lt_succ_of_lt->Ym,add_sub_cancel_left->YA,mul_le_mul->Y5,lt_of_le_of_lt->Zp,lt_of_le_of_ne->Zt,add_comm->ZG,le_succ->Z5,min_le_right->adD,succ_mul->afW,sub_self->af0,max_le->aic
open Option.some renaming inj->UI
open Array renaming getElem?_eq_some_iff->U1,getElem?_setIfInBounds_self_of_lt->V3,length_toList->V9,getElem?_setIfInBounds_ne->Xw,getElem?_toList->YG,find?_toList->ab4,forIn_toList->ab8,toList->aex
open PyProof.Rows renaming envOfC->Vd,callWith_type1->Xx,callWith_builtin1->ag1,kws_cons->ag4,kws_nil->ag5
open Int renaming toNat_natCast->VR,le_refl->Yo,toNat_of_nonneg->Zg,ofNat->ZV,fdiv_eq_ediv_of_nonneg->aat,toNat->abk,emod_lt_of_pos->acH,emod_nonneg->aea
open PySem.F renaming attrBase_ValueError->WU,excBase_ValueError->W0,slot_dict_getitem->Z7,args_tuple_add_2->aab,slot_dict_values->aag,slot_list_append->aah,type_list_append->aai,entry_tuple_add->aam,plainAttrs_dict->aan,plainAttrs_list->aao,slot_tuple_add->aav,slot_dict_pop->aaQ
open PySem.SeqAt renaming eqv_refl->Yr,compareEq_reads->ah4,compareNe_reads->ah5,in_list_reads->ah6,in_tuple_reads->ah7,notIn_list_reads->ah8,notIn_tuple_reads->ah9
open List.Pairwise renaming nil->YH,filterMap->af1,filter->af2
open List.Perm renaming refl->ZH,swap->alR
open Nat.le renaming dest->aeE
open PySem.EqMixed renaming eq_bool_str->afO,eq_int_str->afP,eq_str_bool->afQ,eq_str_int->afR
open PySem.W.Looks renaming here->afS
open PySem.EqNone renaming eq_none_none->agT,eq_none_bool->agU,eq_none_int->agV,eq_none_str->agW,eq_bool_none->agX,eq_int_none->agY,eq_str_none->agZ
open PySem.Within renaming cons->ag0
open List.Nodup renaming sublist->aj9
open PySem.IsL renaming update->alQ
open List.cons renaming injEq->alT
abbrev W:=@rfl
abbrev G:=@List
abbrev z:=@Option
open Option renaming some->S,none->P
open Bool renaming true->R,false->A
open PySem renaming Addr->M,Value->U
namespace L2
open PySem PySem.Spec PyProof.Rows
abbrev b5:=Sum Int Str
def rG:b5->U->Bool
 |.inl k,v=>CL.isInt k v
 |.inr x,v=>CL.isStrOf x v
def Ss(w:Va):b5->Int
 |.inl k=>hashInt k
 |.inr x=>hashStr w x
theorem cw:∀{k:b5} {v:U},rG k v=R->(∃i t,k=Sum.inl i/\v=CL.int i t)\/(∃x t,k=Sum.inr x/\v=CL.str x t)
 |.inl i,v,h=>by let(t,e):=CL.isInt_shape h;show .inl #[i,t,W,e]
 |.inr x,v,h=>by let(t,e):=CL.isStrOf_shape h;show .inr #[x,t,W,e]
def BF(i:Int)(t:Tok):rG (.inl i) (.int i t)=R:=by simp[rG,CL.isInt]
def AZ(x:Str)(t:Tok):rG (.inr x) (.str x t)=R:=by simp[rG,CL.isStrOf]
def NV(a b:Int):decide ((Sum.inl a:b5)=Sum.inl b)=(a==b):=by
 by_cases e:a=b
 .subst e;simp
 .let h:¬(Sum.inl a:b5)=Sum.inl b:=λq=>e (Sum.inl.inj q);rw[a6 h];show(beq_eq_false_iff_ne.mpr e).symm
def Ms(a b:Str):decide ((Sum.inr a:b5)=Sum.inr b)=decide (a=b):=by
 by_cases e:a=b
 .subst e;simp
 .let h:¬(Sum.inr a:b5)=Sum.inr b:=λq=>e (Sum.inr.inj q);rw[a6 h,a6 e]
theorem Nm(a:Int)(b:Str):decide ((Sum.inl a:b5)=Sum.inr b)=A:=a6 (λq=>nomatch q)
theorem MZ(a:Str)(b:Int):decide ((Sum.inr a:b5)=Sum.inl b)=A:=a6 (λq=>nomatch q)
def ci(prog:UR)(w:Va):PySem.KeyKind prog w b5 where
 is:=rG
 hash:=Ss w
 inj:=λv a b m g=>by
  rcases cw m with⟨i,t,rfl,rfl⟩|⟨x,t,rfl,rfl⟩
  .rcases cw g with⟨j,u,rfl,e⟩|⟨y,u,rfl,e⟩
   .injection e with e1 _;rw[e1]
   .show nomatch e
  .rcases cw g with⟨j,u,rfl,e⟩|⟨y,u,rfl,e⟩
   .show nomatch e
   .injection e with e1 _;rw[e1]
 byValue:=λk v h=>by rcases cw h with⟨i,t,rfl,rfl⟩|⟨x,t,rfl,rfl⟩<;>rfl
 pyHash:=λf h=>by
  rcases cw f with⟨i,t,rfl,rfl⟩|⟨x,t,rfl,rfl⟩
  .show afM h
  .show afN h
 eqBool:=λl f h=>by
  rcases cw l with⟨i,t,rfl,rfl⟩|⟨x,t,rfl,rfl⟩
  .rcases cw f with⟨j,u,rfl,rfl⟩|⟨y,u,rfl,rfl⟩
   .rw[NV]at h;show wpAny_eqBool_int h
   .rw[Nm]at h;show SeqAt.EqAt.int_str i t y u _ _ _ _ h
  .rcases cw f with⟨j,u,rfl,rfl⟩|⟨y,u,rfl,rfl⟩
   .rw[MZ]at h;show SeqAt.EqAt.str_int x t j u _ _ _ _ h
   .rw[Ms]at h;show wpAny_eqBool_str h
 «strs»:=λk x t v h=>by
  rcases cw h with⟨i,u,rfl,e⟩|⟨y,u,rfl,e⟩
  .show nomatch e
  .injection e with e1 _
   subst e1;ext v<;>rfl
theorem wc(prog:UR)(w:Va)(i:Int)(t:Tok):(ci prog w).is (.inl i) (.int i t)=R:=BF i t
theorem wa(prog:UR)(w:Va)(x:Str)(t:Tok):(ci prog w).is (.inr x) (.str x t)=R:=AZ x t
inductive V where
 |Wu|bl (b:Bool)|int (i:Int)|str (x:Str)|byt (b:Array UInt8)|flt (b:UInt64)|ref (a:M)|ty (n:String)
 deriving DecidableEq
def RelV:V->U->Prop
 |.Wu,u=>u=CL.none
 |.bl b,u=>u=CL.bool b
 |.int i,u=>∃t,u=CL.int i t
 |.str x,u=>∃t,u=CL.str x t
 |.byt b,u=>∃t,u=CL.bytes b t
 |.flt b,u=>∃t,u=CL.float b t
 |.ref a,u=>u=CL.ref a
 |.ty n,u=>u=CL.type n
abbrev Vals:G V->G U->Prop:=Paired RelV
theorem Vals.length(r:Vals xs us):xs.length=us.length:=Paired.length r
theorem Vals.get:∀{xs:G V} {us:G U} {i:Nat} {x:V},Vals xs us->xs[i]?=S x->∃u,us[i]?=S u/\RelV x u
 |_,_,_,_,.nil,e=>by simp at e
 |_,_,0,_,.cons r _,e=>by simp at e;subst e;show#[_,W,r]
 |_,_,i+1,x,.cons _ t,e=>by let(u,b,a):=Vals.get t (by simpa using e);show#[u,by simpa using b,a]
theorem Vals.append:∀{xs a:G V} {us ws:G U},Vals xs us->Vals a ws->Vals (xs++a) (us++ws)
 |_,_,_,_,.nil,s=>s
 |_,_,_,_,.cons r t,s=>.cons r (Vals.append t s)
def Ye:z V->z U->Prop
 |some v,S u=>RelV v u
 |none,P=>True
 |_,_=>False
def KV:G (o×V)->G (o×U)->Prop:=Paired λ(p:o×V) (q:o×U)=>p.1=q.1/\RelV p.2 q.2
def kV:b5->V
 |.inl i=>.int i
 |.inr x=>.str x
inductive HO where
 |lst (xs:G V)
 |tup (xs:G V)
 |dK (UZ:G (b5×V))|dT (UZ:G (G b5×V))
 |set (S:Int->Bool) (n:Nat)
 |ins (C dx:M) (fs:G (Str×V))
 |own (x:M)
 |xd (fs:G (Str×V))
 |met (f x:M)
 |rng (lo hi:Int)
 |frz (o:Obj) (u:HO)
 |tbl (ps:Array U)
 |ext (φ:Heap->Prop)
 |exw (φ:Va->Heap->Prop)
abbrev Hp:=M->z HO
def aW(H:Hp)(a:M)(o:HO):Hp:=λb=>if b=a then S o else H b
def av:aW H a o a=S o:=by ext aW;rw[ax W]
def ar(h:b≠a):aW H a o b=H b:=by ext aW;rw[a4 h]
def Ro{H:Hp}{a b:M}{o u:HO}(h:H a=S o)(c:H b=S u)(d:o≠u):a≠b:=by intro e;subst e;rw[h]at c;show d (UI c)
def bC{H:Hp}(h:H a=S o)(c:H b=P):a≠b:=by intro e;subst e;rw[h]at c;ext c
def ZZ(h:Heap)(a:M)(b:Array U):Prop:=∃o,h.get? a=S o/\(o.cls=.type "tuple"/\∃n,o.data=.seq b n)/\o.dict=P
theorem ZZ.tup(x:ZZ h a items):IsTup h a items:=let#[o,e,c,_]:=x;#[o,e,c]
theorem ZZ.lt(x:ZZ h a items):a<h.objs.size:=let#[_,e,_]:=x;cn e
theorem ZZ.new(h:Heap)(xs:Array U):ZZ (h.push {cls:=.type "tuple",data:=.seq xs}) h.objs.size xs:=#[_,cv _ W,#[W,_,W],W]
section
variable(P:UR)(w:Va)
def ObjOk(H:Hp)(h:Heap)(a:M):HO->Prop
 |.lst xs=>xs.length<=UD/\∃(b:G U) (n:Nat),Vals xs b/\h.get? a=cL {cls:=.type "list",data:=.seq b.toArray n}
 |.tup xs=>xs.length<=UD/\∃b:G U,Vals xs b/\ZZ h a b.toArray
 |.dK l=>l.length<=UD/\(a==Wr)=A/\∃r,KV l r/\h.DictOf (ci P w) a r
 |.dT l=>l.length<=UD/\(a==Wr)=A/\∃xs:G (G b5×M×U),
   Paired (λ(p:G b5×V) (q:G b5×M×U)=>p.1=q.1/\H q.2.1=cL (.tup (p.1.map kV))/\RelV p.2 q.2.2) l xs/\
   ∃o es E,h.get? a=cL o/\o.ExactDict/\o.data=.dict es E/\es.toList=xs.map (entryOfKey (tupleKind (ci P w)))/\(xs.map (·.1)).Nodup
 |.set e n=>h.SetOf (intKind P w) a e n
 |.ins C m fs=>H m=cL (.own a)/\fs.length<=1000/\m≠a/\h.get? a=cL (Wn C m)/\
   ∃i,h.Ns1 m i/\(∀f,Ye (fs.lookup f) (i f))/\aaV i (fs.map (·.1))
 |.own _=>∃o,h.get? a=cL o
 |.xd fs=>∃i,h.Ns1 a i/\∀f,Ye (fs.lookup f) (i f)
 |.rng lo B=>∃t u v,h.get? a=cL {cls:=.type "range",data:=.fields #v[.int lo t,.int B u,.int 1 v]}
 |.frz o u=>h.get? a=cL o/\ObjOk H h a u
 |.tbl y=>h.get? a=cL {cls:=.none,data:=.fields y}
 |.met f x=>h.get? a=cL (Zd (.ref f) (.ref x))
 |.ext g=>g h/\(∃o,h.get? a=cL o)/\∀h1 j:Heap,g h1->(∀o,h1.get? a=cL o->j.get? a=cL o)->g j
 |.exw g=>g w h/\(∃o,h.get? a=cL o)/\∀h1 j:Heap,g w h1->(∀o,h1.get? a=cL o->j.get? a=cL o)->g w j
def YU(H:Hp)(h:Heap):Prop:=∀a o,H a=S o->ObjOk P w H h a o
end
section
variable{P:UR}{w:Va}{H Z:Hp}{h h':Heap}{a:Uu}{o:HO}
def ObjOk.lt(x:ObjOk P w H h a o):a<h.objs.size:=by
 cases o with
 |lst xs=>let(_,_,_,_,e):=x;show cn e
 |tup xs=>let(_,_,_,p):=x;show p.lt
 |dK i=>let(_,_,_,_,o,_,_,e,_):=x;show cn e
 |dT i=>let(_,_,_,_,o,_,_,e,_):=x;show cn e
 |set S n=>let(o,_,_,_,e,_):=x;show cn e
 |ins C m fs=>let(_,_,_,e,_):=x;show cn e
 |own y=>let(_,e):=x;show cn e
 |xd fs=>let(_,(_,_,_,e,_),_):=x;show cn e
 |rng lo l=>let(_,_,_,e):=x;show cn e
 |frz b u=>let(e,_):=x;show cn e
 |tbl j=>show cn (show h.get? a=cL _ from x)
 |met f y=>show cn (show h.get? a=cL _ from x)
 |ext g=>let(_,(_,e),_):=x;show cn e
 |exw g=>let(_,(_,e),_):=x;show cn e
theorem Paired.Yc:∀{d:b3 α} {c:b3 β},Paired F d c->(∀a b,F a b->e a b)->Paired e d c
 |_,_,.nil,_=>.nil
 |_,_,.cons r t,f=>.cons (f _ _ r) (Paired.Yc t f)
def ObjOk.X8(x:ObjOk P w H h a o)(k:∀b u,(b=a\/H b=cL (.own a))->h.get? b=cL u->h'.get? b=cL u)
  (F:∀b,H b=cL (.own a)->Z b=cL (.own a)) (E:∀b xs,H b=cL (.tup xs)->Z b=cL (.tup xs)):ObjOk P w Z h' a o:=by
 induction o with
 |lst xs=>let(z,A,n,r,e):=x;show#[z,A,n,r,k _ _ (.inl W) e]
 |tup xs=>let(z,A,r,g,e,c):=x;show#[z,A,r,g,k _ _ (.inl W) e,c]
 |dK L=>let(z,y,K,r,g,es,i,e,c):=x;show#[z,y,K,r,g,es,i,k _ _ (.inl W) e,c]
 |dT L=>let(z,y,xs,r,g,es,i,e,c):=x;show#[z,y,xs,Paired.Yc r λp q z=>#[z.1,E _ _ z.2.1,z.2.2],g,es,i,k _ _ (.inl W) e,c]
 |set S n=>let(g,es,i,t,e,c):=x;show#[g,es,i,t,k _ _ (.inl W) e,c]
 |ins C O fs=>let(d,z,ne,e,m,(l,es,i,e2,c),r):=x;show#[F _ d,z,ne,k _ _ (.inl W) e,m,#[l,es,i,k _ _ (.inr d) e2,c],r]
 |own y=>let(g,e):=x;show#[g,k _ _ (.inl W) e]
 |xd fs=>let(m,(l,es,i,e,c),r):=x;show#[m,#[l,es,i,k _ _ (.inl W) e,c],r]
 |rng lo N=>let(t,u,v,e):=x;show#[t,u,v,k _ _ (.inl W) e]
 |frz g u B=>let(e,q):=x;show#[k _ _ (.inl W) e,B q]
 |tbl I=>let e:h.get? a=cL {cls:=.none,data:=.fields I}:=x;show h'.get? a=cL {cls:=.none,data:=.fields I};show k a _ (.inl W) e
 |met f y=>let e:h.get? a=cL (Zd (.ref f) (.ref y)):=x;show h'.get? a=cL (Zd (.ref f) (.ref y));show k a _ (.inl W) e
 |ext J=>let(p,(o,e),j):=x;show#[j _ _ p λo q=>k _ _ (.inl W) q,#[o,k _ _ (.inl W) e],j]
 |exw J=>let(p,(o,e),j):=x;show#[j _ _ p λo q=>k _ _ (.inl W) q,#[o,k _ _ (.inl W) e],j]
theorem YU.lt(x:YU P w H h)(e:H a=S o):a<h.objs.size:=(x a o e).lt
def YU.fresh(x:YU P w H h)(e:h.objs.size<=a):H a=Uo:=by
 cases q:H a with
 |none=>rfl
 |some u=>show bg (UT (x.lt q) e) (VN _)
theorem YU.kept(x:YU P w H h)(k:∀b u,h.get? b=S u->h'.get? b=S u):YU P w H h':=λa o e=>
 (x a o e).X8 (λb u _ q=>k b u q) (λ_ q=>q) λ_ _ q=>q
theorem YU.laid(x:YU P w H h)(k:∀b u,h.get? b=S u->h'.get? b=S u)(g:h.objs.size<=a)(new:ObjOk P w (aW H a o) h' a o):YU P w (aW H a o) h':=λb u e=>by
 let i:=x.fresh g;by_cases f:b=a
 .subst f;rw[av]at e;ext e;show new
 .rw[ar f]at e;show(x b u e).X8 (λc v _ q=>k c v q) (λc q=>by rw[ar (bC q i)];show q) λc xs q=>by rw[ar (bC q i)];show q
end
def Rd(H:Hp)(a:M)(u:HO):Prop:=H a=S u\/∃o,H a=S (.frz o u)
def Rd.ok(r:Rd H a u)(x:YU b w H h):ObjOk b w H h a u:=by
 rcases r with r|⟨o,r⟩
 .show x a u r
 .let(_,q):=x a _ r;show q
def QP:z HO->Prop
 |some (.lst _)=>True
 |some (.dK _)=>True
 |some (.dT _)=>True
 |some (.set _ _)=>True
 |some (.ins _ _ _)=>True
 |some (.ext _)=>True
 |some (.exw _)=>True
 |_=>False
section
variable{P:UR}{w:Va}{H:Hp}{h h':Heap}{x e:Uu}{Z:HO}
theorem YU.write(ok:YU P w H h)(g:QP (H x))(o:e=x\/H e=S (.own x))(k:∀b u,b≠e->h.get? b=S u->h'.get? b=S u)(l:∃u,h'.get? e=S u)
  (new:ObjOk P w (aW H x Z) h' x Z):YU P w (aW H x Z) h':=λb u q=>by
 let f:∀c y,H c=S (.own y)->c≠x:=λc y r z=>by subst z;rw[r]at g;show g
 let m:∀c xs,H c=S (.tup xs)->c≠x:=λc xs r z=>by subst z;rw[r]at g;show g
 by_cases j:b=x
 .subst j;rw[av]at q;ext q;show new
 .rw[ar j]at q
  by_cases a:b=e
  .let n:H b=S (.own x):=by
    rcases o with z|z
    .show bg (a.trans z) j
    .rw[a];show z
   rw[q]at n;ext n;let(v,p):=l;show#[v,by rw[a];show p]
  .show(ok b u q).X8 (λc v i r=>k c v ?_ r) (λc r=>by rw[ar (f c b r)];show r) λc xs r=>by rw[ar (m c xs r)];show r
   rcases i with rfl|i
   .show a
   .rintro rfl
    rcases o with z|z
    .show f c b i z
    .rw[i]at z;ext z;show j W
end
structure Un(fs ex:G M)(H H':Hp)(h h':Heap):Prop where
 keep:∀b o,h.get? b=S o->H b=P->b∉fs->b∉ex->h'.get? b=S o
 slot:∀b o,h.get? b=S o->H b=P->b∈fs->b∉ex->∃sl,h'.get? b=S {o with slots:=sl}
 free:∀b o,h.get? b=S o->H b=P->b∉ex->H' b=P
 there:∀b o,h.get? b=S o->b∉ex->∃o',h'.get? b=S o'
 Zu:∀b xs,H b=S (.tup xs)->H' b=S (.tup xs)
 Zn:∀b o u,H b=S (.frz o u)->H' b=S (.frz o u)
 Zx:∀b ps,H b=S (.tbl ps)->∃more,H' b=S (.tbl (ps++more))
section
variable{fs X Z T:b3 Uu}{H Q O:Hp}{h Y N h':Heap}{a x e:Uu}{o:HO}
def Un.any(u:Un fs Z H Q h Y)(q:h.get? b=S ob)(n:H b=P)(f:b∉Z):∃c,Y.get? b=S {ob with slots:=c}:=by
 by_cases g:b∈fs
 .show u.slot b ob q n g f
 .show#[ob.slots,u.keep b ob q n g f]
theorem Un.kept(k:∀b u,h.get? b=S u->h'.get? b=S u):Un fs Z H H h h':=
 #[λb f q _ _ _=>k b f q,λb f q _ _ _=>#[f.slots,k b f q],λ_ _ _ n _=>n,λb f q _=>#[f,k b f q],λ_ _ q=>q,λ_ _ _ q=>q,λ_ g q=>#[#v[],by rw[q];simp]]
theorem Un.refl:Un fs Z H H h h:=Un.kept λ_ _ q=>q
theorem Un.laid(k:∀b u,h.get? b=S u->h'.get? b=S u)(f:h.objs.size<=a)(c:H a=P):Un fs Z H (aW H a o) h h' where
 keep:=λb u q _ _ _=>k b u q
 slot:=λb u q _ _ _=>#[u.slots,k b u q]
 free:=λb u q n _=>by rw[ar (UY (UT (cn q) f))];show n
 there:=λb u q _=>#[u,k b u q]
 Zu:=λb xs q=>by rw[ar (bC q c)];show q
 Zn:=λb u xs q=>by rw[ar (bC q c)];show q
 Zx:=λb g q=>#[#v[],by rw[ar (bC q c),q];simp]
def Un.write(g:QP (H x))(p:e=x\/H e=S (.own x))(k:∀b u,b≠e->h.get? b=S u->h'.get? b=S u)(i:∃u,h'.get? e=S u):Un fs Z H (aW H x o) h h':=by
 let j:∀b,H b=P->b≠x:=λb n z=>by subst z;rw[n]at g;show g
 let l:∀b,H b=P->b≠e:=λb n z=>by
  subst z;rcases p with r|r
  .show j b n r
  .rw[n]at r;ext r
 let hm:∀b u,H b=S u->¬QP (S u)->b≠x:=λb u q m z=>by subst z;rw[q]at g;show m g
 show#[λb u q n _ _=>k b u (l b n) q,λb u q n _ _=>#[u.slots,k b u (l b n) q],λb u q n _=>by rw[ar (j b n)];show n,λb u q _=>?_,
  λb xs q=>by rw[ar (hm b _ q λz=>z)];show q,λb u xs q=>by rw[ar (hm b _ q λz=>z)];show q,λb t q=>#[#v[],by rw[ar (hm b _ q λz=>z),q];simp]]
 by_cases f:b=e
 .subst f;show i
 .show#[u,k b u f q]
end
def RZ(h:Heap)(H:Hp):G M:=(UM h.objs.size).filter λa=>(H a).isSome
def uw(h:Heap)(H:Hp):Heap:=PySem.W.hideAll h (RZ h H)
theorem AY(h:Heap)(H:Hp):(uw h H).objs.size=h.objs.size:=PySem.W.hideAll_size _ _
theorem C5(e:h.get? b=S o)(n:H b=P):(uw h H).get? b=S o:=
 PySem.W.hideAll_get _ e λhm=>by let q:=(Ws.mp hm).2;rw[n]at q;simp at q
def JG(e:(uw h H).get? b=S o):h.get? b=S o/\H b=P:=by
 let a:=PySem.W.of_hideAll (RZ h H) e;show#[a,?_];cases q:H b with
 |none=>rfl
 |some x=>let hm:b∈RZ h H:=Ws.mpr #[WE.mpr (cn a),by simp[q]];let z:(uw h H).get? b=P:=PySem.W.hideAll_none (RZ h H) hm;rw[z]at e;ext e
structure Mod(K:lD)(mg:Str->z U)(base:Heap):Prop where
 kin:K.In base
 glob:base.Ns UL mg
 blt:∃mb,base.Ns builtinsNs mb/\∀x:Str,x≠ "__name__"->mb x=Vl x
 nolimit:base.NoLimit
structure Cx where
 prog:UR
 w:Va
 K:lD
 mg:Str->z U
 base:Heap
 A:U4
 N:G Str
 s₀:Uw
 H₀:Hp
 env:Env
 outer:G Env
 stack:G Env
 ex:G M
 fn:Str->Bool
 calm:Bool
 pn:G (M×Obj)
 xe:U->Uw->Prop
def uW(l:G Env):G M:=l.filterMap (·.frame)
abbrev Cx.fs(X:Cx):G M:=uW X.outer
def R9(sc:Wd)(x:Str):Prop:=sc.names.lookup x=S .local\/sc.names.lookup x=S .cell\/sc.names.lookup x=S .free
def P6(sc:Wd)(x:Str):Prop:=sc.names.lookup x=S .local\/sc.names.lookup x=S .cell
def SS(env:Env)(h:Heap)(m:Str->z U)(x:Str)(u:U):Prop:=
 (env.kindOf x=S .local/\m x=S u)\/((env.kindOf x=S .cell\/env.kindOf x=S .free)/\∃c,env.cells.lookup x=S c/\h.IsCell c (S u))
structure Cx.Ok(X:Cx):Prop where
 mod:Mod X.K X.mg X.base
 kind:X.env.scope.kind=.function
 glob:X.env.globals=UL
 blt:X.env.builtins=builtinsNs
 above:X.s₀.heap.objs.size<=X.env.locals
 inj:∀x y c,X.env.cells.lookup x=S c->X.env.cells.lookup y=S c->x=y
 has:∀x,(X.env.kindOf x=S .cell\/X.env.kindOf x=S .free)->∃c,X.env.cells.lookup x=S c
 cab:∀x c,X.fn x=R->X.env.cells.lookup x=S c->X.s₀.heap.objs.size<=c
 hd:X.calm=R->X.A.handled=P
 frames:X.A.frames=S X.stack
 stk:X.stack=X.outer\/(X.stack=X.env::X.outer/\X.env.frame=S X.env.locals)
 exf:∀b∈X.ex,b≠X.env.locals/\∀x c,X.env.cells.lookup x=S c->c≠b
 bs:∀b o,X.base.get? b=S o->X.s₀.heap.get? b=S o/\X.H₀ b=P
 bsz:X.base.objs.size<=X.s₀.heap.objs.size
 aba:∀b o,X.base.get? b=S o->b∉X.ex
 aa1:∀b∈X.ex,b∉X.fs
 Y7:X.s₀.heap.FunFrames X.base X.outer
 frf:∀b∈X.fs,X.H₀ b=P
structure Inv(X:Cx)(pins:G (M×Obj))(σ:G (z V))(H:Hp)(s:Uw):Prop where
 ok:X.Ok
 os:s.os=X.s₀.os
 bare:AllBare s.gens
 base:Un X.fs X.ex X.H₀ H X.s₀.heap s.heap
 loc:∃m,s.heap.Ns X.env.locals m/\∀(i:Nat) (x:Str) (v:V),X.N[i]?=S x->σ[i]?=S (S v)->R9 X.env.scope x->∃u,RelV v u/\SS X.env s.heap m x u
 cell:∀x c,X.env.cells.lookup x=S c->∃v,s.heap.IsCell c v
 free:H X.env.locals=P
 Xt:∀x c,X.env.cells.lookup x=S c->H c=P
 pin:∀p∈X.pn++pins,s.heap.get? p.1=S p.2/\H p.1=P/\p.1≠X.env.locals/\p.1∉X.fs/\∀v,p.2.data≠.cell v
 VF:YU X.prog X.w H s.heap
 len:σ.length=X.N.length
section
variable{X:Cx}{Z:b3 (Uu×Obj)}{Y:b3 (b4 V)}{H H':Hp}{s:Uw}{h':Heap}
theorem Cx.Ok.ajH(ok:X.Ok)(e:X.base.get? b=S o):b∉X.fs:=λa=>by let:=(ok.Y7.mem a).1;rw[e]at this;ext this
theorem Inv.bs(I:Inv X Z Y H s):∀b o,X.base.get? b=S o->s.heap.get? b=S o/\H b=P:=λb o e=>
 #[I.base.keep b o (I.ok.bs b o e).1 (I.ok.bs b o e).2 (I.ok.ajH e) (I.ok.aba b o e),I.base.free b o (I.ok.bs b o e).1 (I.ok.bs b o e).2 (I.ok.aba b o e)]
theorem Inv.bk(I:Inv X Z Y H s):∀b o,X.base.get? b=S o->s.heap.get? b=S o:=λb o e=>(I.bs b o e).1
theorem Inv.mod(I:Inv X Z Y H s):Mod X.K X.mg X.base:=I.ok.mod
theorem Inv.XU(I:Inv X Z Y H s):X.K.In s.heap:=I.ok.mod.kin.keeps I.bk
theorem Inv.lt(I:Inv X Z Y H s):X.env.locals<s.heap.objs.size:=let#[_,a,_]:=I.loc;a.lt
theorem Inv.sz(I:Inv X Z Y H s):X.s₀.heap.objs.size<=s.heap.objs.size:=Vb I.ok.above (X5 I.lt)
theorem Inv.aiZ(I:Inv X Z Y H s)(h:s.heap.objs.size<=a):a∉X.fs:=λe=>by let(_,o,b,_):=I.ok.Y7.mem e;show bg (UT (cn b) (Vb I.sz h)) (VN _)
theorem Inv.cne(I:Inv X Z Y H s):∀x c,X.env.cells.lookup x=S c->c≠X.env.locals:=λx c e z=>by let(v,o,f,g):=I.cell x c e;let(m,(h,es,i,a,b,_),_):=I.loc;rw[z,a]at f;ext f;rw[b]at g;ext g
def Inv.Y7(I:Inv X Z Y H s):s.heap.FunFrames X.base X.outer:=by
 let all:∀(l:G Env),(∀b∈uW l,b∈X.fs)->X.s₀.heap.FunFrames X.base l->s.heap.FunFrames X.base l:=by
  intro l
  induction l with
  |nil=>intro _ _;trivial
  |cons t r i=>intro h n;let(p,(L,o,a,v,m,q),j):=n;let g:=h L (by ext uW;rw[Zb,a];show UX);let(u,e):=I.base.slot L o m (I.ok.frf L g) g λz=>I.ok.aa1 L z g;show#[p,#[L,_,a,v,e,q],i (λb f=>h b (by ext uW;rw[Zb,a];show UN _ f)) j]
 show all X.outer (λ_ f=>f) I.ok.Y7
def Inv.stack(I:Inv X Z Y H s):s.heap.FunFrames X.base X.stack:=by
 rcases I.ok.stk with e|⟨e,hf⟩
 .rw[e];show I.Y7
 .rw[e];let(m,a,_):=I.loc;show .cons (by rw[I.ok.kind];decide) hf a ?_ I.Y7;show d3 (Vb I.ok.bsz I.ok.above)
theorem Inv.Y8(I:Inv X Z Y H s):∀b∈uW X.stack,b∈X.env.locals::X.fs:=λb a=>by
 rcases I.ok.stk with e|⟨e,hf⟩
 .rw[e]at a;show UN _ a
 .rw[e]at a;unfold uW at a;rw[Zb,hf]at a;show a
theorem Inv.Zl(I:Inv X Z Y H s):∀b∈uW X.stack,H b=P:=λb a=>by
 rcases U5.mp (I.Y8 b a)with e|a
 .rw[e];show I.free
 .let(_,o,f,_):=I.ok.Y7.mem a;show I.base.free b o f (I.ok.frf b a) λz=>I.ok.aa1 b z a
def Inv.step{g':Array YX}{Q:Nat}{d':acu}{ch:b3 Uu}(I:Inv X Z Y H s)
  (g:∀b∈ch,(b∈X.ex\/X.s₀.heap.objs.size<=b)/\b≠X.env.locals/\(∀x c,X.env.cells.lookup x=S c->c≠b)/\∀p∈X.pn++Z,p.1≠b)
  (keep:∀b o,b≠X.env.locals->b∉X.fs->b∉ch->s.heap.get? b=S o->H b=P->h'.get? b=S o)
  (slot:∀b o,b≠X.env.locals->b∈X.fs->b∉ch->s.heap.get? b=S o->H b=P->∃O,h'.get? b=S {o with slots:=O}) (free:∀b o,b∉ch->s.heap.get? b=S o->H b=P->H' b=P)
  (there:∀b o,b∉ch->s.heap.get? b=S o->∃w,h'.get? b=S w)
  (Zu:∀b xs,H b=S (.tup xs)->H' b=S (.tup xs)) (Zn:∀b o u,H b=S (.frz o u)->H' b=S (.frz o u)) (Zx:∀b D,H b=S (.tbl D)->∃more,H' b=S (.tbl (D++more)))
  (J:∀m,s.heap.Ns X.env.locals m->h'.Ns X.env.locals m) (VF:YU X.prog X.w H' h') (N:AllBare g'):
  Inv X Z Y H' {s with heap:=h',gens:=g',drawn:=d',toks:=Q}:=by
 let A:∀b o,X.s₀.heap.get? b=S o->b≠X.env.locals:=λb o e=>UY (UT (cn e) I.ok.above);let j:∀b o,X.s₀.heap.get? b=S o->b∉X.ex->b∉ch:=λb o e a t=>by
  rcases(g b t).1 with z|z
  .show a z
  .show bg (UT (cn e) z) (VN _)
 let h:∀x c,X.env.cells.lookup x=S c->∀v,s.heap.IsCell c v->h'.IsCell c v:=λx c e v #[o,y,C]=>by
  let f:c∉ch:=λz=>(g c z).2.2.1 x c e W;by_cases G:c∈X.fs
  .let(O,q):=slot c o (I.cne x c e) G f y (I.Xt x c e);show#[_,q,C]
  .show#[o,keep c o (I.cne x c e) G f y (I.Xt x c e),C]
 show#[I.ok,I.os,N,#[λb o e n t a=>?_,λb o e n t a=>?_,λb o e n a=>?_,λb o e a=>?_,λb xs e=>Zu b xs (I.base.Zu b xs e),λb o xs e=>Zn b o xs (I.base.Zn b o xs e),λb D e=>?_],?_,λx c e=>?_,?_,λx c e=>?_,λp F=>?_,VF,I.len]
 .show keep b o (A b o e) t (j b o e a) (I.base.keep b o e n t a) (I.base.free b o e n a)
 .let(O,e1):=I.base.slot b o e n t a;let(B,e2):=slot b _ (A b o e) t (j b o e a) e1 (I.base.free b o e n a);show#[B,e2]
 .let(w,e1):=I.base.there b o e a;show free b w (j b o e a) e1 (I.base.free b o e n a)
 .let(w,e1):=I.base.there b o e a;show there b w (j b o e a) e1
 .let(L,e1):=I.base.Zx b D e;let(K,e2):=Zx b _ e1;show#[L++K,by rw[e2,Array.append_assoc]]
 .let(m,T,M):=I.loc
  show#[m,J m T,λi x v e1 e2 e3=>?_];let(u,r,l):=M i x v e1 e2 e3;show#[u,r,?_];rcases l with l|⟨k,c,e,z⟩
  .show .inl l
  .show .inr #[k,c,e,h x c e _ z]
 .let(v,z):=I.cell x c e;show#[v,h x c e v z]
 .let(m,(o,_,_,y,_),_):=I.loc;show free _ o (λz=>(g _ z).2.1 W) y I.free
 .let(v,o,y,C):=I.cell x c e;show free c o (λz=>(g c z).2.2.1 x c e W) y (I.Xt x c e)
 .let(e,n,ne,E,d):=I.pin p F;let f:p.1∉ch:=λz=>(g p.1 z).2.2.2 p F W;show#[keep p.1 p.2 ne E f e n,free p.1 p.2 f e n,ne,E,d]
def Inv.un{t':Nat}(I:Inv X Z Y H s)(u:Un X.fs [] H H' s.heap h')(VF:YU X.prog X.w H' h'):Inv X Z Y H' {s with heap:=h',toks:=t'}:=by let(m,(o,es,v,i,r),_):=id I.loc;let(p,l):=u.any i I.free (by simp);show I.step (g':=s.gens) (d':=s.drawn) (ch:=[]) (λ_ z=>nomatch z) (λb o _ f _ e n=>u.keep b o e n f (by simp)) (λb o _ f _ e n=>u.slot b o e n f (by simp)) (λb o _ e n=>u.free b o e n (by simp)) (λb o _ e=>u.there b o e (by simp)) u.Zu u.Zn u.Zx (λt hm=>by let(q,g,h,a,j):=hm;rw[i]at a;ext a;show#[_,g,h,l,j]) VF I.bare
def Inv.call{g':Array YX}{t':Nat}{d':acu}{ch:G M}(I:Inv X Z Y H s)(u:Un (uW X.stack) ch H H' s.heap h')(VF:YU X.prog X.w H' h')(t:AllBare g')
  (g:∀b∈ch,(b∈X.ex\/X.s₀.heap.objs.size<=b)/\b≠X.env.locals/\(∀x c,X.env.cells.lookup x=S c->c≠b)/\∀p∈X.pn++Z,p.1≠b):
  Inv X Z Y H' {s with heap:=h',gens:=g',drawn:=d',toks:=t'}:=by
 let(m,(o,es,C,l,r),_):=id I.loc;let(y,h):=u.any l I.free λz=>(g _ z).2.1 W;show I.step (ch:=ch) g (λb o h v a e n=>u.keep b o e n (λz=>(U5.mp (I.Y8 b z)).elim h v) a) (λb o _ _ a e n=>u.any e n a) (λb o a e n=>u.free b o e n a) (λb o a e=>u.there b o e a) u.Zu u.Zn u.Zx (λB hm=>by let(A,i,j,f,q):=hm;rw[l]at f;ext f;show#[_,i,j,h,q]) VF t
def Inv.turned{t':Nat}{it:M}(I:Inv X Z Y H s)(k:∀b o,b≠it->s.heap.get? b=S o->h'.get? b=S o)(d:H it=P)(g:it≠X.env.locals)
  (t:it∈X.ex\/X.s₀.heap.objs.size<=it) (l:∀x c,X.env.cells.lookup x=S c->c≠it) (j:∀p∈X.pn++Z,p.1≠it):Inv X Z Y H {s with heap:=h',toks:=t'}:=by
 let f:∀b u,H b=S u->b≠it:=λb u e z=>by rw[z,d]at e;ext e
 show I.step (g':=s.gens) (d':=s.drawn) (ch:=[it]) (λb i=>?_) (λb o _ _ a e _=>k b o (λz=>a (by simp[z])) e) (λb o _ _ a e _=>#[o.slots,k b o (λz=>a (by simp[z])) e]) (λ_ _ _ _ n=>n)
  (λb o a e=>#[o,k b o (λz=>a (by simp[z])) e]) (λ_ _ e=>e) (λ_ _ _ e=>e) (λb y e=>#[#v[],by rw[e];simp]) (λm hm=>?_) (λb u e=>?_) I.bare
 .let e:b=it:=by simpa using i
  subst e;show#[t,g,l,j]
 .let(o,es,w,h,r):=hm;show#[o,es,w,k _ o (eg g) h,r]
 .show(I.VF b u e).X8 (λc v a q=>k c v ?_ q) (λ_ q=>q) λ_ _ q=>q
  rcases a with z|z
  .rw[z];show f b u e
  .show f c _ z
theorem Inv.tok(I:Inv X Z Y H s)(t:Nat):Inv X Z Y H {s with toks:=t}:=I.un Un.refl I.VF
theorem Inv.kept{t':Nat}(I:Inv X Z Y H s)(k:∀b u,s.heap.get? b=S u->h'.get? b=S u):Inv X Z Y H {s with heap:=h',toks:=t'}:=I.un (Un.kept k) (I.VF.kept k)
theorem Inv.laid{a:M}{o:HO}{t':Nat}(I:Inv X Z Y H s)(k:∀b u,s.heap.get? b=S u->h'.get? b=S u)(e:s.heap.objs.size<=a)(new:ObjOk X.prog X.w (aW H a o) h' a o):
  Inv X Z Y (aW H a o) {s with heap:=h',toks:=t'}:=I.un (Un.laid k e (I.VF.fresh e)) (I.VF.laid k e new)
theorem Inv.write{x e:M}{o:HO}{t':Nat}(I:Inv X Z Y H s)(f:QP (H x))(g:e=x\/H e=S (.own x))(k:∀b u,b≠e->s.heap.get? b=S u->h'.get? b=S u)(a:∃u,h'.get? e=S u)
  (new:ObjOk X.prog X.w (aW H x o) h' x o):Inv X Z Y (aW H x o) {s with heap:=h',toks:=t'}:=I.un (Un.write f g k a) (I.VF.write f g k a new)
theorem Inv.aaH(I:Inv X Z Y H s)(h:∀p∈agA,s.heap.get? p.1=S p.2/\H p.1=P/\p.1≠X.env.locals/\p.1∉X.fs/\∀v,p.2.data≠.cell v):Inv X agA Y H s:=
 #[I.ok,I.os,I.bare,I.base,I.loc,I.cell,I.free,I.Xt,λp a=>(VD.mp a).elim (λz=>I.pin p (XS _ z)) (h p),I.VF,I.len]
def oH{N:G Str}(e:N.Nodup){i j:Nat}(a:N[i]?=S x)(b:N[j]?=S x):i=j:=by let(g,e1):=Ux.mp a;let(f,e2):=Ux.mp b;show(List.getElem_inj e).mp (e1.trans e2.symm)
def rL{M:aaN}{A:U4}{E:U->Uw->Prop}{i:Nat}{x:Str}{v:V}{u:U}{Q:Unit->Uw->Prop}(I:Inv X Z Y H s)(hN:X.N.Nodup)(D:X.N[i]?=S x)(l:P6 X.env.scope x)(r:RelV v u)
  (h:∀F,Inv X Z (Y.set i (S v)) H F->(∃a,Heap.SameBut a s.heap F.heap/\(a=X.env.locals\/X.env.cells.lookup x=S a))->Q ⟨⟩ F) (hf:X.fn x=R\/X.env.scope.names.lookup x=S .local:=by first|show .inl W|show .inr W|assumption):wpAny M A (storeName X.env x u) Q E s:=by
 let(m,hn,hl):=id I.loc;let ae3:(X.env.scope.kind==.class||(X.env.scope.kind==.module&&X.env.locals !=X.env.globals))=Ut:=by rw[I.ok.kind];rfl
 let w:i<Y.length:=by rw[I.len];show(Ux.mp D).1
 let cne:=I.cne;let tracked:∀{a:Uu} {h':Heap},(∃o,s.heap.get? a=S o/\H a=P)->Heap.SameBut a s.heap h'->YU X.prog X.w H h':=λ{a h'} ha f b ob e=>by
  let(_,_,L):=ha;show(I.VF b ob e).X8 (λc N g q=>(f.2 c ?_).trans q) (λ_ q=>q) λ_ _ q=>q;rintro rfl;rcases g with rfl|g
  .rw[L]at e;ext e
  .rw[L]at g;ext g
 rcases l with t|t
 .show wpAny_storeName_local t hn (λh' hn' f=>?_) ae3
  let(oL,_,_,hoL,_):=id hn;show h _ #[I.ok,I.os,I.bare,#[λb o e n C l=>?_,λb o e n C l=>?_,I.base.free,λb o e l=>?_,I.base.Zu,I.base.Zn,I.base.Zx],#[_,hn',λj y T e1 e2 e3=>?_],λy c e=>?_,I.free,I.Xt,λp hp=>?_,tracked #[oL,hoL,I.free] f,by simpa using I.len] #[_,f,.inl W]
  .show(f.2 b (UY (UT (cn e) I.ok.above))).trans (I.base.keep b o e n C l)
  .let(sl,e1):=I.base.slot b o e n C l;show#[sl,(f.2 b (UY (UT (cn e) I.ok.above))).trans e1]
  .let(o',e1):=I.base.there b o e l;show#[o',(f.2 b (UY (UT (cn e) I.ok.above))).trans e1]
  .by_cases hj:j=i
   .subst hj;rw[D]at e1;ext e1;rw[VO w]at e2;ext e2;show#[u,r,.inl #[t,by simp]]
   .rw[Vf (eg hj)]at e2
    let(u',r',q):=hl j y T e1 e2 e3;show#[u',r',?_];rcases q with⟨k,e⟩|⟨k,c,e,z⟩
    .show .inl #[k,?_];let:y≠x:=λe=>hj (oH hN e1 (e▸D));simp[this,e]
    .show .inr #[k,c,e,z.sameBut f (cne y c e)]
  .let(N,z):=I.cell y c e;show#[N,z.sameBut f (cne y c e)]
  .let(e,n,ne,nf,d):=I.pin p hp;show#[(f.2 p.1 ne).trans e,n,ne,nf,d]
 .let B:X.fn x=R:=by
   rcases hf with z|z
   .show z
   .rw[z]at t;ext t
  let(c,g):=I.ok.has x (.inl t);let(N,z):=I.cell x c g;show wpAny_storeName_cell I.ok.kind t g z (λh' K f=>?_);let(oc,J,aiz):=id z;show h {s with heap:=h'} #[I.ok,I.os,I.bare,#[λb o e n C l=>?_,λb o e n C l=>?_,I.base.free,λb o e l=>?_,I.base.Zu,I.base.Zn,I.base.Zx],#[m,hn.sameBut f (eg (cne x c g)),λj y T e1 e2 e3=>?_],λy O e=>?_,I.free,I.Xt,λp hp=>?_,tracked #[oc,J,I.Xt x c g] f,by simpa using I.len] #[c,f,.inr g]
  .show(f.2 b (UY (UT (cn e) (I.ok.cab x c B g)))).trans (I.base.keep b o e n C l)
  .let(sl,e1):=I.base.slot b o e n C l;show#[sl,(f.2 b (UY (UT (cn e) (I.ok.cab x c B g)))).trans e1]
  .let(o',e1):=I.base.there b o e l;show#[o',(f.2 b (UY (UT (cn e) (I.ok.cab x c B g)))).trans e1]
  .by_cases hj:j=i
   .subst hj;rw[D]at e1;ext e1;rw[VO w]at e2;ext e2;show#[u,r,.inr #[.inl t,c,g,K]]
   .rw[Vf (eg hj)]at e2
    let(u',r',q):=hl j y T e1 e2 e3;show#[u',r',?_];rcases q with q|⟨k,O,e,z'⟩
    .show .inl q
    .show .inr #[k,O,e,z'.sameBut f ?_];rintro rfl;show hj (oH hN e1 (I.ok.inj _ _ _ e g▸D))
  .by_cases hcc:O=c
   .subst hcc;show#[_,K]
   .let(w2,z2):=I.cell y O e;show#[w2,z2.sameBut f hcc]
  .let(e,n,ne,nf,d):=I.pin p hp;show#[(f.2 p.1 ?_).trans e,n,ne,nf,d];intro q;rw[q,J]at e;let q':oc=p.2:=UI e;show d N (by rw[<-q'];show aiz)
theorem o0{i:Nat}{v:V}{u:U}{Q:Unit->Uw->Prop}(I:Inv X Z Y H s)(f:X.N.Nodup)(e:X.N[i]?=S x)(d:P6 X.env.scope x)(r:RelV v u)
  (h:∀c,Inv X Z (Y.set i (S v)) H c->Q ⟨⟩ c) (hf:X.fn x=R\/X.env.scope.names.lookup x=S .local:=by first|show .inl W|show .inr W|assumption):wpAny b a (storeName X.env x u) Q E s:=
 rL I f e d r (λc g _=>h c g) hf
def Inv.aa8{a:Uw}{ch:G M}(I:Inv X Z Y H s)(h:a.os=s.os)(u:Un (uW X.stack) ch H H' s.heap a.heap)(VF:YU X.prog X.w H' a.heap)(i:AllBare a.gens)
  (f:∀b∈ch,(b∈X.ex\/X.s₀.heap.objs.size<=b)/\b≠X.env.locals/\(∀x c,X.env.cells.lookup x=S c->c≠b)/\∀p∈X.pn++Z,p.1≠b):Inv X Z Y H' a:=by
 let(h',l,m,j,g):=a;let e:g=s.os:=h;subst e;show I.call (g':=l) (t':=j) (d':=m) u VF i f
end
abbrev XK:=U->z M->Hp->Prop
abbrev St:=G (z V)
abbrev VK:=V->Hp->Prop
abbrev TE:=St->Hp->VK->Prop
abbrev TT:=St->Hp->(Bool->Hp->Prop)->Prop
abbrev TA:=St->Hp->(G V->Hp->Prop)->Prop
structure Ends where
 nx:St->Hp->Prop
 rt:VK
 bk:St->Hp->Prop:=λ_ _=>False
 ct:St->Hp->Prop:=λ_ _=>False
abbrev TS:=Ends->St->Hp->Prop
def EP(X:Cx)(a:G (M×Obj))(b:St)(Q:VK)(u:U)(e:Uw):Prop:=∃v f,Inv X a b f e/\RelV v u/\Q v f
def TP(X:Cx)(a:G (M×Obj))(e:St)(Q:Bool->Hp->Prop)(b:Bool)(f:Uw):Prop:=∃g,Inv X a e g f/\Q b g
def AP(X:Cx)(a:G (M×Obj))(b:St)(Q:G V->Hp->Prop)(us:G U)(e:Uw):Prop:=∃f g,Inv X a b g e/\Vals f us/\Q f g
def SP(X:Cx)(a:G (M×Obj))(D:Ends)(f:Flow)(b:Uw):Prop:=
 match f with
 |.next=>∃e g,Inv X a e g b/\D.nx e g
 |.brk=>∃e g,Inv X a e g b/\D.bk e g
 |.cont=>∃e g,Inv X a e g b/\D.ct e g
 |.ret u=>∃v e g,Inv X a e g b/\RelV v u/\D.rt v g
def PE(X:Cx)(e:UW)(t:TE):Prop:=
 ∀(a:G (M×Obj)) (s:Uw) (b:St) (H:Hp) (Q:VK),Inv X a b H s->t b H Q->wpAny (model X.prog X.w) X.A (eval e X.env) (EP X a b Q) X.xe s
def PT(X:Cx)(e:UW)(t:TT):Prop:=
 ∀(a:G (M×Obj)) (s:Uw) (b:St) (H:Hp) (Q:Bool->Hp->Prop),Inv X a b H s->t b H Q->wpAny (model X.prog X.w) X.A (isTrue e X.env (eval e X.env)) (TP X a b Q) X.xe s
def PW(X:Cx)(e:UW)(t:TT):Prop:=
 ∀(b:Sem U) (a:G (M×Obj)) (s:Uw) (f:St) (H:Hp) (Q:Bool->Hp->Prop),Inv X a f H s->t f H Q->wpAny (model X.prog X.w) X.A (isTrue e X.env b) (TP X a f Q) X.xe s
theorem PW.pt(h:PW X e t):PT X e t:=h _
def PA(X:Cx)(es:G UW)(t:TA):Prop:=
 ∀(e:Pos) (a:G (M×Obj)) (s:Uw) (b:St) (H:Hp) (Q:G V->Hp->Prop),Inv X a b H s->t b H Q->wpAny (model X.prog X.w) X.A (spliced (backTo e (UO es X.env))) (AP X a b Q) X.xe s
def PS(X:Cx)(e:Wm)(t:TS):Prop:=
 ∀(a:G (M×Obj)) (s:Uw) (b:St) (H:Hp) (D:Ends),Inv X a b H s->t D b H->wpAny (model X.prog X.w) X.A (exec e X.env) (SP X a D) X.xe s
def Z9(X:Cx)(e:G Wm)(t:TS):Prop:=
 ∀(a:G (M×Obj)) (s:Uw) (b:St) (H:Hp) (D:Ends),Inv X a b H s->t D b H->wpAny (model X.prog X.w) X.A (execs e X.env) (SP X a D) X.xe s
theorem bW{α:Type}{t:Sem α}{Q b:α->Uw->Prop}{M:aaN}{A:U4}{E:U->Uw->Prop}{s:Uw}(h:wpAny M A t Q E s)(e:∀a s,Q a s->b a s):wpAny M A t b E s:=wpAny_mono h e λ_ _ x=>x
section
variable{X:Cx}
def oK(i:Nat):TE:=λa H Q=>∃v,a[i]?=S (S v)/\Q v H
def tC(v:V):TE:=λ_ H Q=>Q v H
def E6(t:X.N[i]?=S x)(p:R9 X.env.scope x)(hd:(x==("__debug__":Str))=A:=by decide)(j:(x==("__classdict__":Str))=A:=by decide):PE X (.Name x pos) (oK i):=by
 intro f s o H Q I h;let(v,e,h):=h;let(m,w,q):=I.loc;let(u,r,l):=q i x v t e p;let b:EP X f o Q u s:=#[v,H,I,r,h];rcases l with⟨a,hm⟩|⟨a,c,n,g⟩
 .show aev (wpAny_loadName_local I.ok.kind a w hm b) hd
 .rcases a with a|a
  .show aev (wpAny_loadName_cell I.ok.kind a n g b) hd
  .show aev (wpAny_loadName_free I.ok.kind a n g b j) hd
theorem Oh{i j pos}:PE X (.Constant (.int i) j pos) (tC (.int i)):=λ_ _ _ H _ I h=>aew #[.int i,H,I.tok _,#[_,W],h]
theorem LN{b j pos}:PE X (.Constant (.bool b) j pos) (tC (.bl b)):=λ_ _ _ H _ I h=>Constant_bool #[.bl b,H,I,W,h]
theorem xa{j pos}:PE X (.Constant .none j pos) (tC .Wu):=λ_ _ _ H _ I h=>Constant_none #[.Wu,H,I,W,h]
theorem Pz{x j pos}:PE X (.Constant (.str x) j pos) (tC (.str x)):=λ_ _ _ H _ I h=>Calls.Constant_str #[.str x,H,I.tok _,#[_,W],h]
def Gl(X:Cx)(x:Str):Prop:=X.env.kindOf x=S .globalImplicit
theorem iP(I:Inv X pins σ H s)(a:Gl X x)(hm:X.mg x=S u)(h:Q u s)
  (hd:(x==("__debug__":Str))=A:=by decide):wpAny (model X.prog X.w) X.A (eval (.Name x pos) X.env) Q E s:=
 Calls.Name_function_global I.ok.kind a (Calls.loadGlobal_global (by rw[I.ok.glob];show I.mod.glob.keeps I.bk) hm h) hd
def lV(I:Inv X pins σ H s)(b:Gl X x)(hm:X.mg x=P)(a:Vl x=S u)(h:Q u s)
  (c:x≠ "__name__":=by decide) (hd:(x==("__debug__":Str))=A:=by decide):wpAny (model X.prog X.w) X.A (eval (.Name x pos) X.env) Q E s:=by
 let(g,f,e):=I.mod.blt;show Calls.Name_function_global I.ok.kind b (Calls.loadGlobal_builtin (by rw[I.ok.glob];show I.mod.glob.keeps I.bk) hm (by rw[I.ok.blt];show f.keeps I.bk) ((e x c).trans a) h) hd
theorem jK{x:Str}{v:V}{u:U}{a:Pos}(b:Gl X x)(hm:X.mg x=S u)(r:RelV v u)(hd:(x==("__debug__":Str))=A:=by decide):PE X (.Name x a) (tC v):=
 λ_ _ _ H _ I h=>iP I b hm #[v,H,I,r,h] hd
theorem lJ(b:Gl X x)(hm:X.mg x=P)(a:Vl x=S u)(r:RelV v u)(c:x≠ "__name__":=by decide)(hd:(x==("__debug__":Str))=A:=by decide):PE X (.Name x pos) (tC v):=
 λ_ _ _ H _ I h=>lV I b hm a #[v,H,I,r,h] c hd
variable{a b:UW}{Z Y:TE}{O:Pos}
def PC(X:Cx)(op:aaO)(a b:UW)(t:TE):Prop:=
 ∀(e:G (M×Obj)) (s:Uw) (h:St) (H:Hp) (Q:VK),Inv X e h H s->t h H Q->
  wpAny (model X.prog X.w) X.A (eval a X.env) (λv g=>wpAny (model X.prog X.w) X.A (eval b X.env) (λu f=>wpAny (model X.prog X.w) X.A (V5 op v u) (EP X e h Q) X.xe f) X.xe g) X.xe s
def tB(t:TE):TT:=λe H Q=>t e H λx f=>∃c,x=.bl c/\Q c f
theorem xE(h:PC X op a b t)(i:behindInMarks op b=A:=by first|show o _ () ()|rfl):PE X (.Compare a [op] [b] O) t:=λe s f H Q I g=>ah2 (h e s f H Q I g) i
def xN(h:PC X op a b t)(f:behindInMarks op b=A:=by first|show C _ () ()|rfl):PT X (.Compare a [op] [b] O) (tB t):=by intro e s g H Q I l;show adm (bW (h e s g H _ I l) λv w f=>bW f λu r m=>bW m λc p a=>?_) f;let(x,o,n,i,j):=a;let(d,rfl,q):=j;ext i;show WA #[o,n,q]
def uK{e:UW}{t:TE}(h:PE X e t)(m:∀whole,isTrue e X.env whole=(do let v<-whole;standAt e.pos;holding [v] (truthy v)):=by intro _;rfl):PT X e (tB t):=by intro f s g H Q I l;show isTrue_plain (bW (h f s g H _ I l) λv p #[x,o,n,i,j]=>?_) (m _);let(d,rfl,q):=j;ext i;show WA #[o,n,q]
variable{T S:TT}{U:b3 UW}
def N0(t u:TT):TT:=λe H Q=>t e H λc f=>if c=R then u e f Q else Q A f
def RY(t u:TT):TT:=λe H Q=>t e H λc f=>if c=R then Q R f else u e f Q
def HW(t:TT):TT:=λe H Q=>t e H λc f=>Q (!c) f
def y0(d:PT X a T):PW X (.BoolOp .And [a] O) T:=by
 intro i f s g H Q I h;show isTrue_and (bW (d f s g H Q I h) λc j e=>?_);cases c with
 |true=>show isTrue_and_nil e
 |false=>show e
def yQ(d:PT X a T):PW X (.BoolOp .Or [a] O) T:=by
 intro i f s g H Q I h;show isTrue_or (bW (d f s g H Q I h) λc j e=>?_);cases c with
 |false=>show isTrue_or_nil e
 |true=>show e
def Gp(d:PT X a T)(n:PW X (.BoolOp .And (b::U) O) S):PW X (.BoolOp .And (a::b::U) O) (N0 T S):=by
 intro l e s f H Q I h;show isTrue_and (bW (d e s f H _ I h) λc m a=>?_);let(j,i,g):=a;cases c with
 |true=>show n l e m f j Q i g
 |false=>show#[j,i,g]
def zb(d:PT X a T)(n:PW X (.BoolOp .Or (b::U) O) S):PW X (.BoolOp .Or (a::b::U) O) (RY T S):=by
 intro l e s f H Q I h;show isTrue_or (bW (d e s f H _ I h) λc m a=>?_);let(j,i,g):=a;cases c with
 |true=>show#[j,i,g]
 |false=>show n l e m f j Q i g
def yl(d:PT X a T):PT X (.UnaryOp .Not a O) (HW T):=by intro e s f H Q I h;show isTrue_not (d e s f H (λc g=>Q (!c) g) I h)
def zk(Z Y:TE):TE:=λe H Q=>Z e H λx f=>∃c,x=.bl c/\if c=R then Y e f Q else Q (.bl A) f
def Lm(Z:TE):TE:=λe H Q=>Z e H λx f=>∃c,x=.bl c/\Q (.bl (!c)) f
theorem yd{op}(h:PE X a t):PE X (.BoolOp op [a] O) t:=λe s f H Q I g=>BoolOp_one (h e s f H Q I g)
def pc(d:PE X a Z)(n:PE X (.BoolOp .And (b::U) O) Y):PE X (.BoolOp .And (a::b::U) O) (zk Z Y):=by
 intro e s g H Q I h;show BoolOp_and (bW (d e s g H _ I h) λv l a=>?_);let(x,j,i,m,f):=a;let(c,rfl,f):=f;ext m;show WA ?_;cases c with
 |true=>show n e l g j Q i f
 |false=>show#[.bl A,j,i,W,f]
def Pe(d:PE X a Z):PE X (.UnaryOp .Not a O) (Lm Z):=by intro e s g H Q I h;show UnaryOp_ (bW (d e s g H _ I h) λv m a=>?_);let(x,l,j,i,f):=a;let(c,rfl,f):=f;ext i;show not_of (WA #[.bl (!c),l,j,W,f])
def Sf(t:TT)(Z Y:TE):TE:=λe H Q=>t e H λc f=>if c=R then Z e f Q else Y e f Q
def DP(m:PT X c T)(k:PE X a Z)(n:PE X b Y):PE X (.IfExp c a b O) (Sf T Z Y):=by
 intro e s f H Q I h;show wpAny_IfExp (bW (m e s f H _ I h) λd g a=>?_);let(l,j,i):=a;cases d with
 |true=>show k e g f l Q j i
 |false=>show n e g f l Q j i
end
def Ys(K:lD)(H:Hp)(a:M)(xs:G V):Prop:=
 Rd H a (.lst xs)\/
  ∃(o:Obj) (b:Array U) (n:Nat),K.lookup a=S o/\o.cls=.type "list"/\o.dict=P/\o.data=.seq b n/\b.size<=UD/\Vals xs b.toList
def Yt(K:lD)(H:Hp)(a:M)(xs:G V):Prop:=
 Rd H a (.tup xs)\/
  ∃(o:Obj) (b:Array U) (n:Nat),K.lookup a=S o/\(o.cls=.type "tuple"/\o.dict=P)/\o.data=.seq b n/\b.size<=UD/\Vals xs b.toList
def SD:U->z V
 |.none=>S .Wu
 |.bool b=>S (.bl b)
 |.int i _=>S (.int i)
 |.str x _=>S (.str x)
 |.bytes b _=>S (.byt b)
 |.float b _=>S (.flt b)
 |.ref a=>S (.ref a)
 |.type n=>S (.ty n)
 |_=>P
def RelV.abs(r:RelV x u):SD u=S x:=by
 cases x with
 |Wu=>ext r;rfl
 |bl _=>ext r;rfl
 |int _=>let(t,rfl):=r;rfl
 |str _=>let(t,rfl):=r;rfl
 |byt _=>let(t,rfl):=r;rfl
 |flt _=>let(t,rfl):=r;rfl
 |ref _=>ext r;rfl
 |ty _=>ext r;rfl
theorem RelV.inj(r:RelV x u)(q:RelV y u):x=y:=UI (r.abs.symm.trans q.abs)
theorem Vals.inj:∀{xs a:G V} {us:G U},Vals xs us->Vals a us->xs=a
 |_,_,_,.nil,.nil=>rfl
 |_,_,_,.cons r t,.cons e b=>by rw[r.inj e,Vals.inj t b]
section
variable{X:Cx}{Z:b3 (Uu×Obj)}{Y:St}{H:Hp}{s:Uw}{a:Uu}{T U:b3 V}
theorem Ys.of{K:lD}(h:H a=S (.lst T)):Ys K H a T:=.inl (.inl h)
theorem Yt.of{K:lD}(h:H a=S (.tup T)):Yt K H a T:=.inl (.inl h)
def Inv.list(I:Inv X Z Y H s)(h:Ys X.K H a T):∃b:G CL,Vals T b/\PlainL s.heap a b.toArray/\T.length<=UD:=by
 rcases h with h|⟨o,b,n,g,i,hd,f,j,r⟩
 .let(z,b,n,r,e):=h.ok I.VF;show#[b,r,#[_,n,e,W,W,W],z]
 .show#[b.toList,r,#[o,n,I.XU a o g,i,hd,by simpa using f],?_];let e:=r.length;simp only[V9]at e;ext
def Inv.tuple(I:Inv X Z Y H s)(h:Yt X.K H a T):∃b:G CL,Vals T b/\IsTup s.heap a b.toArray/\T.length<=UD:=by
 rcases h with h|⟨o,b,n,g,i,f,j,r⟩
 .let(z,b,r,p):=h.ok I.VF;show#[b,r,p.tup,z]
 .show#[b.toList,r,#[o,I.XU a o g,i.1,n,by simpa using f],?_];let e:=r.length;simp only[V9]at e;ext
def Inv.ae1(I:Inv X Z Y H s)(h:Yt X.K H a T):∃b:G CL,Vals T b/\ZZ s.heap a b.toArray/\T.length<=UD:=by
 rcases h with h|⟨o,b,n,i,f,g,j,r⟩
 .let(z,b,r,p):=h.ok I.VF;show#[b,r,p,z]
 .show#[b.toList,r,#[o,I.XU a o i,#[f.1,n,by simpa using g],f.2],?_];let e:=r.length;simp only[V9]at e;ext
def Inv.acQ(I:Inv X Z Y H s)(h:Ys X.K H a T)(c:Ys X.K H a U):T=U:=by
 let(j,r,(o,n,e,_,_,d),_):=I.list h;let(b,i,(l,m,f,_,_,g),_):=I.list c;rw[e]at f;ext f;rw[d]at g;injection g with d1 _;let:j=b:=by simpa using en aex d1
 subst this;show r.inj i
def Inv.aca(I:Inv X Z Y H s)(h:Yt X.K H a T)(c:Yt X.K H a U):T=U:=by
 let(j,r,(o,e,_,n,d),_):=I.tuple h;let(b,i,(l,f,_,m,g),_):=I.tuple c;rw[e]at f;ext f;rw[d]at g;injection g with d1 _;let:j=b:=by simpa using en aex d1
 subst this;show r.inj i
end
abbrev Cx.Yb(X:Cx)(E:U->Uw->Prop):Cx:={X with xe:=E}
abbrev Cx.nox(X:Cx):Cx:=X.Yb λ_ _=>False
theorem Cx.Ok.Yb{X:Cx}(ok:X.Ok)(E:U->Uw->Prop):(X.Yb E).Ok:=
 #[ok.mod,ok.kind,ok.glob,ok.blt,ok.above,ok.inj,ok.has,ok.cab,ok.hd,ok.frames,ok.stk,ok.exf,ok.bs,ok.bsz,ok.aba,ok.aa1,ok.Y7,ok.frf]
theorem Cx.Ok.XQ{X:Cx}(ok:(X.Yb E).Ok):X.Ok:=
 #[ok.mod,ok.kind,ok.glob,ok.blt,ok.above,ok.inj,ok.has,ok.cab,ok.hd,ok.frames,ok.stk,ok.exf,ok.bs,ok.bsz,ok.aba,ok.aa1,ok.Y7,ok.frf]
section
variable{X:Cx}{Z:b3 (Uu×Obj)}{Y:St}{H:Hp}{s:Uw}{E:CL->Uw->Prop}
theorem Inv.Yb(I:Inv X Z Y H s)(E:U->Uw->Prop):Inv (X.Yb E) Z Y H s:=#[I.ok.Yb E,I.os,I.bare,I.base,I.loc,I.cell,I.free,I.Xt,I.pin,I.VF,I.len]
theorem Inv.XQ(I:Inv (X.Yb E) Z Y H s):Inv X Z Y H s:=#[I.ok.XQ,I.os,I.bare,I.base,I.loc,I.cell,I.free,I.Xt,I.pin,I.VF,I.len]
def SP.XQ(h:SP (X.Yb E) Z D f s'):SP X Z D f s':=by
 cases f with
 |next=>let(a,b,I,q):=h;show#[a,b,I.XQ,q]
 |brk=>let(a,b,I,q):=h;show#[a,b,I.XQ,q]
 |cont=>let(a,b,I,q):=h;show#[a,b,I.XQ,q]
 |ret u=>let(v,a,b,I,r,q):=h;show#[v,a,b,I.XQ,r,q]
theorem Z9.nox{a:G Wm}(h:Z9 X.nox a t):Z9 X a t:=λZ s Y H D I b=>
 wpAny_mono (h Z s Y H D (I.Yb _) b) (λ_ _ q=>q.XQ) λ_ _ z=>False.elim z
end
section
variable{X:Cx}{Y:Wm}{Z:b3 Wm}{t u:TS}{e:UW}{Q:TE}{T:Pos}
def za:TS:=λD a H=>D.nx a H
def CD(t u:TS):TS:=λD a H=>t {D with nx:=u D} a H
theorem uo:Z9 X [] za:=λ_ _ a H _ I h=>Xo #[a,H,I,h]
def jh(l:PS X Y t)(j:Z9 X Z u):Z9 X (Y::Z) (CD t u):=by
 intro a s g H D I h;show aar (bW (l a s g H {D with nx:=u D} I h) λf i q=>?_);cases f with
 |next=>let(b,n,m,q):=q;show j a i b n D m q
 |ret v=>show q
 |brk=>show q
 |cont=>show q
def jP(g:PS X Y t):Z9 X [Y] t:=by
 intro a s b H D I h;show aar (bW (g a s b H D I h) λf i q=>?_);cases f with
 |next=>show Xo q
 |ret v=>show q
 |brk=>show q
 |cont=>show q
def Inv.quiet{a:G (M×Obj)}{b:St}{H:Hp}{s:Uw}(I:Inv X a b H s):interactive X.env=A:=by simp[interactive,I.ok.kind]
def sg(Q:TE):TS:=λD a H=>Q a H λ_ b=>D.nx a b
def Av(i:PE X e Q)(g:WO e P T.line X.env=pure A:=by rfl):PS X (.Expr e T) (sg Q):=by intro a s b H D I h;show ah3 (bW (i a s b H _ I h) λv m #[x,l,j,n,f]=>#[b,l,j,f]) I.quiet g
def DJ(Q:TE):TS:=λD a H=>Q a H D.rt
def tX(i:PE X e Q):PS X (.Return (S e) T) (DJ Q):=by intro a s b H D I h;show wpAny_Return_some (bW (i a s b H _ I h) λv m #[x,l,j,f,g]=>#[x,b,l,j,f,g])
def LZ:TS:=λD _ H=>D.rt .Wu H
theorem Ik:PS X (.Return P T) LZ:=λ_ _ a H _ I h=>wpAny_Return_none #[.Wu,a,H,I,W,h]
def Ek(c:TT)(t u:TS):TS:=λD a H=>c a H λb f=>if b=R then t D a f else u D a f
def Lb(n:PT X c C)(k:Z9 X a t)(o:Z9 X b u):PS X (.If c a b T) (Ek C t u):=by
 intro f s g H D I h;show wpAny_If (bW (n f s g H _ I h) λd i a=>?_);let(m,l,j):=a;cases d with
 |true=>show k f i g m D l j
 |false=>show o f i g m D l j
end
abbrev TG:=V->St->Hp->(St->Hp->Prop)->Prop
abbrev yc:=G V->St->Hp->(St->Hp->Prop)->Prop
def PG(X:Cx)(a:UW)(t:TG):Prop:=
 ∀(b:G (M×Obj)) (s:Uw) (e:St) (H:Hp) (v:V) (u:U) (Q:St->Hp->Prop),Inv X b e H s->RelV v u->t v e H Q->
  wpAny (model X.prog X.w) X.A (assign a X.env u) (λ_ f=>∃g h,Inv X b g h f/\Q g h) X.xe s
def Qo(X:Cx)(f:G UW)(t:yc):Prop:=
 ∀(a:G (M×Obj)) (s:Uw) (b:St) (H:Hp) (i:G V) (e:G U) (Q:St->Hp->Prop),Inv X a b H s->Vals i e->t i b H Q->
  wpAny (model X.prog X.w) X.A (assignInOrder ((assignEach f X.env).map (·.2)) e) (λ_ g=>∃h j,Inv X a h j g/\Q h j) X.xe s
abbrev Ue:=V->V->Hp->VK->Prop
def Uc(X:Cx)(op:adB)(t:Ue):Prop:=
 ∀(a:G (M×Obj)) (s:Uw) (b:St) (H:Hp) (x y:V) (v u:U) (Q:VK),Inv X a b H s->RelV x v->RelV y u->t x y H Q->
  wpAny (model X.prog X.w) X.A (inplaceOp op v u) (EP X a b Q) X.xe s
section
variable{X:Cx}{Z:Pos}
def kY(i:Nat):TG:=λv a H Q=>Q (a.set i (S v)) H
def IK(c:X.N.Nodup)(b:X.N[i]?=S x)(a:P6 X.env.scope x)(hf:X.fn x=R\/X.env.scope.names.lookup x=S .local:=by first|show .inl W|show .inr W|assumption):PG X (.Name x Z) (kY i):=by intro pins s σ H v u Q I r h;show afh (o0 I c b a r (λf e=>#[_,H,e,h]) hf)
def Jj:yc:=λb a H Q=>b=[]/\Q a H
def Ai(t:TG)(u:yc):yc:=λf b H Q=>∃v r,f=v::r/\t v b H λa e=>u r a e Q
def HX:Qo X [] Jj:=by intro a s b H g f Q I r h;let(e,h):=h;subst e;ext r;show assignInOrder_nil #[b,H,I,h]
def DD(n:PG X e t)(m:Qo X es u)
  (l:(assignEach (e::es) X.env).map (·.2)=assign e X.env::(assignEach es X.env).map (·.2):=by rfl):Qo X (e::es) (Ai t u):=by
 intro a s f H y w Q I r h;let(v,q,e1,h):=h;subst e1;cases r with
 |cons r i=>rw[l];show assignInOrder_cons (bW (n a s f H _ _ _ I r h) λ_ g a=>?_);let(b,p,o,j):=a;show m a g b p _ _ Q o i j
def Jc(K:lD)(n:Nat)(t:yc):TG:=λv b H Q=>∃a xs,v=.ref a/\Yt K H a xs/\xs.length=n/\t xs b H Q
def Pm(q:X.calm=R)(h:Qo X es t)
  (c:(assignEach es X.env).length=n:=by rfl) (cH:(assignEach es X.env).findIdx? (·.1)=P:=by rfl):PG X (.Tuple es k Z) (Jc X.K n t):=by
 intro f s i H v u Q I r g;let(a,xs,e1,m,p,g):=g;subst e1;ext r;let(A,B,l,y):=I.tuple m;show assign_Tuple_tuple (I.ok.hd q) l (by simp[c,<-p,B.length]) cH λz j=>?_;let w:=I.kept (t':=s.toks) λb o e=>j b o (UY (cn e)) e;show h f _ i H xs _ Q w (by simpa using B) g
def xt(c:TE)(g:TG):TS:=λD a H=>c a H λx b=>g x a b D.nx
def ub{i:Nat}{x:Str}{e:UW}{a:TE}{pos':Pos}(j:X.N.Nodup)(g:X.N[i]?=S x)(c:P6 X.env.scope x)(he:PE X e a)(d:WO e (S (.Name x pos')) Z.line X.env=pure A:=by rfl)(hf:X.fn x=R\/X.env.scope.names.lookup x=S .local:=by first|show .inl W|show .inr W|assumption):
  PS X (.Assign [.Name x pos'] e Z) (xt a (kY i)):=by
 intro pins s σ H D I h;show wpAny_Assign_Name (bW (he pins s σ H _ I h) λv s1 a=>?_) d;let(y,H1,m,b,f):=a;show o0 m j g c b (λs2 l=>#[_,H1,l,f]) hf
end
section
variable{X:Cx}{Z:Pos}
def Cs(c:TT)(d:TS):TS:=λD a H=>∃W:Nat->St->Hp->Prop,(∃m,W m a H)/\∀m a H,W m a H->
 c a H λb e=>if b=R then∃N:St->Hp->Prop,(∀f h,N f h->∃g,g<m/\W g f h)/\d {D with nx:=N,ct:=N,bk:=D.nx} a e else D.nx a e
def Cy(r:aas (model X.prog X.w) X.A X.env X.xe)(L:PT X c tc)(M:Z9 X body tb):PS X (.While c body [] Z) (Cs tc tb):=by
 intro e s B H D I h;let(W,(K,E),turn):=h;show wpAny_While (codeAny_whileLoop (λn J=>∃w Q,Inv X e w Q J/\W n w Q) ?_ K #[B,H,I,E]);rintro n G ⟨g,z,O,C⟩;show W3 r (bW (L e G g z _ O (turn n g z C)) λb F a=>?_);let(y,u,l):=a;cases b with
 |true=>
  let(N,t,l):=l;rw[ax rfl];show W3 r (bW (M e F g y _ u l) λf P j=>?_);cases f with
  |next=>let(a,i,q,o):=j;let(p,hm,m):=t a i o;show#[p,hm,a,i,q,m]
  |cont=>let(a,i,q,o):=j;let(p,hm,m):=t a i o;show#[p,hm,a,i,q,m]
  |brk=>show j
  |ret v=>show j
 |false=>rw[a4 UH];show Xo #[g,y,u,l]
end
structure It where
 go:Nat->Hp->Prop
 yld:Nat->Hp->V->Hp->Prop
 stop:Nat->Hp->Prop
def lO(X:Cx)(a:G (M×Obj))(H:Hp)(b:M):Prop:=
 H b=P/\b≠X.env.locals/\b∉X.fs/\(b∈X.ex\/X.s₀.heap.objs.size<=b)/\(∀x c,X.env.cells.lookup x=S c->c≠b)/\∀p∈X.pn++a,p.1≠b
def Inv.aaK(I:Inv X pins σ H s)(a:s.heap.objs.size<=b)(d:H' b=P):lO X pins H' b:=by
 show#[d,VI (UT I.lt a),I.aiZ a,.inr (Vb I.sz a),λx c e z=>?_,λp f z=>?_]
 .let(v,q):=I.cell x c e;show bg (UT q.lt (by rw[z];show a)) (VN _)
 .show bg (UT (cn (I.pin p f).1) (by rw[z];show a)) (VN _)
structure Turn(P:UR)(w:Va)(K:lD)(tg:UW)(J:It)(fp:G M)(it:M)(tn:Nat->Heap->Prop):Prop where
 mem:it∈fp
 obj:∀i h,tn i h->∀b∈fp,∃o,h.get? b=S o/\∀v,o.data≠.cell v
 keep:∀i h h',tn i h->(∀b∈fp,∀o,h.get? b=S o->h'.get? b=S o)->tn i h'
 item:∀(X:Cx),X.prog=P->X.w=w->X.K=K->X.calm=R->∀(i:Nat) (pins:G (M×Obj)) (s:Uw) (σ:St) (H:Hp) (E:U->Uw->Prop),Inv X pins σ H s->(∀b∈fp,lO X pins H b)->tn i s.heap->J.go i H->
  wpAny (model P w) X.A (pyNext (.ref it)) (λr s1=>∃u,r=S u/\
   wpAny (model P w) X.A (letOwnedTupleGo tg (.ref it) u) (λ_ s2=>∃x H',Inv X pins σ H' s2/\RelV x u/\J.yld i H x H'/\tn (i+1) s2.heap/\∀b∈fp,H' b=Uo) E s1) E s
 done:∀(X:Cx),X.prog=P->X.w=w->X.K=K->X.calm=R->∀(i:Nat) (pins:G (M×Obj)) (s:Uw) (σ:St) (H:Hp) (E:U->Uw->Prop),Inv X pins σ H s->(∀b∈fp,lO X pins H b)->tn i s.heap->J.stop i H->
  wpAny (model P w) X.A (pyNext (.ref it)) (λr s1=>r=Uo/\Inv X pins σ H s1) E s
 self:∀(A:U4) (i:Nat) (s:Uw) (Q:U->Uw->Prop) (E:U->Uw->Prop),tn i s.heap->Q (.ref it) s->wpAny (model P w) A (pyIter (.ref it)) Q E s
abbrev TI:=St->Hp->(It->Hp->Prop)->Prop
def S8(X:Cx)(a:G (M×Obj))(l:St)(m:UW)(R:It->Hp->Prop)(e:U)(h:Uw):Prop:=
 ∃(i:M) (j:G M) (g:Nat->Heap->Prop) (J:It) (f:Hp),e=.ref i/\Inv X a l f h/\Turn X.prog X.w X.K m J j i g/\g 0 h.heap/\(∀b∈j,lO X a f b)/\R J f
def PI(X:Cx)(g b:UW)(f:TI):Prop:=
 ∀(a:G (M×Obj)) (s:Uw) (e:St) (H:Hp) (R:It->Hp->Prop),Inv X a e H s->f e H R->
  wpAny (model X.prog X.w) X.A (eval b X.env) (λv h=>wpAny (model X.prog X.w) X.A (pyIter v) (S8 X a e g R) X.xe h) X.xe s
def GC{M:aaN}{A:U4}{E:U->Uw->Prop}{s:Uw}{b:UW}{it:Uu}{u:U}{o:Obj}{n:String}{c:Array U}{Q:Unit->Uw->Prop}(e:s.heap.get? it=S o)(f:o.cls=.type n)(hd:o.data=.fields c)
  (d:["enumerate","zip","dict_itemiterator","dict_reverseitemiterator","odict_iterator","itertools.zip_longest","itertools.pairwise"].contains n=Ut) (a:Q ⟨⟩ s):wpAny M A (letOwnedTupleGo b (.ref it) u) Q E s:=by
 ext letOwnedTupleGo;ext b<;>first
  |show UB a
  |(ext u<;>first
    |show UB a
    |(show Ld (aey e ?_)
      rw[f,hd];show wpAny M A (if(["enumerate","zip","dict_itemiterator","dict_reverseitemiterator","odict_iterator","itertools.zip_longest","itertools.pairwise"].contains n&&c[0]? ==S (rawInt _))=R then _ else _) Q E s;rw[a4 (by intro h;rw[d,YZ]at h;ext h)];show UB a))
def Sx(K:lD)(a:M):It:=
 #[λi H=>∃xs x,Ys K H a xs/\xs[i]?=S x,λi H x b=>b=H/\∀xs,Ys K H a xs->xs[i]?=S x,λi H=>∃xs,Ys K H a xs/\xs.length<=i]
def SZ(K:lD)(a:M):It:=
 #[λi H=>∃xs x,Yt K H a xs/\xs[i]?=S x,λi H x b=>b=H/\∀xs,Yt K H a xs->xs[i]?=S x,λi H=>∃xs,Yt K H a xs/\xs.length<=i]
def R8(lo:Int)(n:Nat):It:=#[λi _=>i<n,λi H x a=>a=H/\x=.int (lo+i),λi _=>n<=i]
theorem BC{K:lD}(a it:Uu):Turn Pz0 w K tg (Sx K a) [it] it (λi h=>h.IsListIter it a i) where
 mem:=by simp
 obj:=λi h f b g=>by
  let e:b=it:=by simpa using g
  subst e;let(o,e,c,d):=f;show#[o,e,λv z=>by rw[d]at z;ext z]
 keep:=λi h M f k=>f.at λo e=>k it (by simp) o e
 item:=by intro X y r A L i l s N H E I n f t;subst y r A;let(xs,x,m,q):=t;let(Z,rv,p,R):=I.list m;let(u,T,Q):=rv.get q;let(J,G,U,F,C,B):=n it (by simp);show wpAny_pyNext_list_item f p.isList (by simpa using T) λM j O=>?_;let I1:=I.turned (t':=s.toks) (λb o g e=>(O.2 b g).trans e) J G F C B;let(o,e,c,d):=id j;show#[u,W,GC e c d () #[x,H,I1,Q,#[W,λys S=>by rw[I.acQ S m];show q],j,λb g=>(n b g).1]]
 done:=by intro X y r A L i l s N H E I n f t;subst y r A;let(xs,m,q):=t;let(Z,rv,p,R):=I.list m;let(J,G,U,F,C,B):=n it (by simp);let hl:=rv.length;show wpAny_pyNext_list_end (I.ok.hd L) f p.isList (by simp;ext) λM Y=>#[W,I.turned (λb o g e=>Y b o g e) J G F C B]
 self:=λ_ _ _ _ _ f h=>wpAny_pyIter_listiter f h
theorem yy{K:lD}(a it:Uu):Turn Pz0 w K tg (SZ K a) [it] it (λi h=>h.IsTupleIter it a i) where
 mem:=by simp
 obj:=λi h f b g=>by
  let e:b=it:=by simpa using g
  subst e;let(o,e,c,d):=f;show#[o,e,λv z=>by rw[d]at z;ext z]
 keep:=λi h N f k=>f.at λo e=>k it (by simp) o e
 item:=by intro X y r A M i l s O H E I n f t;subst y r A;let(xs,x,m,q):=t;let(L,rv,p,S):=I.tuple m;let(u,U,R):=rv.get q;let(J,G,Y,F,C,B):=n it (by simp);show wpAny_pyNext_tuple_item f (show s.heap.IsTuple a L.toArray from p) (by simpa using U) λN j Q=>?_;let I1:=I.turned (t':=s.toks) (λb o g e=>(Q.2 b g).trans e) J G F C B;let(o,e,c,d):=id j;show#[u,W,GC e c d () #[x,H,I1,R,#[W,λys T=>by rw[I.aca T m];show q],j,λb g=>(n b g).1]]
 done:=by intro X y r A M i l s O H E I n f t;subst y r A;let(xs,m,q):=t;let(L,rv,p,S):=I.tuple m;let(J,G,Y,F,C,B):=n it (by simp);let hl:=rv.length;show wpAny_pyNext_tuple_end (I.ok.hd M) f (show s.heap.IsTuple a L.toArray from p) (by simp;ext) λN Z=>#[W,I.turned (λb o g e=>Z b o g e) J G F C B]
 self:=λ_ _ _ _ _ f h=>wpAny_pyIter_tupleiter f h
theorem yw{K:lD}(it:Uu)(lo:Int)(n:Nat):Turn T w K tg (R8 lo n) [it] it (λi h=>IsRangeIter h it (lo+(i:Nat)*1) ((n:Int) - (i:Nat)) 1) where
 mem:=by simp
 obj:=λi h a b g=>by
  let e:b=it:=by simpa using g
  subst e;show#[_,a,λv z=>by let L:=z;ext L]
 keep:=λi h y a k=>k it (by simp) _ a
 item:=by intro X r m u q i f s J H E I l a p;subst r m u;let(G,F,Q,C,B,A):=l it (by simp);let W:=Walks.range (prog:=X.prog) (w:=X.w) (I.ok.hd q) it lo 1 n;show W.item i s _ _ p a λv y M O j N=>?_;let(t,rfl):=O;let S:Inv X f J H {s with heap:=y,toks:=M}:=I.turned (λb o g e=>N b o (by simpa using g) e) G F C B A;show#[_,rfl,GC j rfl rfl () #[.int (lo+i),H,S,#[t,?_],#[rfl,rfl],j,λb g=>(l b g).1]];rw[Int.mul_one]
 done:=by intro X r m u q i f s J H E I l a p;subst r m u;let(G,F,Q,C,B,A):=l it (by simp);show wpAny_pyNext_range_end (I.ok.hd q) a (by let:n<=i:=p;ext) λy R=>#[rfl,I.turned (λb o g e=>R b o g e) G F C B A]
 self:=λ_ _ _ _ _ a h=>wpAny_pyIter_rangeiter a h
section
variable{X:Cx}{Z:UW}
def Cj{a:G (M×Obj)}{f:St}{H:Hp}{s:Uw}{R:It->Hp->Prop}{E:U->Uw->Prop}{lo c:Int}{t u v:Tok}{g:Nat}(I:Inv X a f H s)(n: -(2^62)<=lo)(m:lo<2^62)(l: -(2^62)<=c)(j:c<2^62)
  (q:R (R8 lo (c - lo).toNat) H):wpAny (model X.prog X.w) X.A (pyIter (.ref s.heap.objs.size)) (S8 X a f Z R) E {s with heap:=s.heap.push {cls:=.type "range",data:=.fields #v[.int lo t,.int c u,.int 1 v]},toks:=g}:=by
 show wpAny_pyIter_range (IsRange.new ..) (small_one n m l j) ?_;let h:Inv X a f H {s with heap:=s.heap.push {cls:=.type "range",data:=.fields #v[.int lo t,.int c u,.int 1 v]},toks:=g}:=I.kept λb o e=>ck _ e;show#[(s.heap.push {cls:=.type "range",data:=.fields #v[.int lo t,.int c u,.int 1 v]}).objs.size,[(s.heap.push {cls:=.type "range",data:=.fields #v[.int lo t,.int c u,.int 1 v]}).objs.size],_,_,H,W,
  h.kept (t':=g) λb o e=>ck _ e,yw _ lo (c - lo).toNat,?_,λb i=>?_,q]
 .let e1:lo+((0:Nat):Int)*1=lo:=by simp
  let e2:(((c - lo).toNat:Nat):Int) - ((0:Nat):Int)=Vx.Range.rangeSize lo c 1:=by rw[rangeSize_one];split<;>ext
  show IsRangeIter _ _ (lo+((0:Nat):Int)*1) ((((c - lo).toNat:Nat):Int) - ((0:Nat):Int)) 1;rw[e1,e2];show cv _ W
 .let e:b=(s.heap.push {cls:=.type "range",data:=.fields #v[.int lo t,.int c u,.int 1 v]}).objs.size:=by simpa using i
  subst e;show h.aaK (UC _) (h.VF.fresh (UC _))
def LH(c:TA):TI:=λa H R=>c a H λe b=>∃j:Int,e=[.int j]/\ -(2^62)<=j/\j<2^62/\R (R8 0 j.toNat) b
def A3(o:Gl X "range")(hm:X.mg "range"=P)(c:PA X [a] C)(n:UO [a] X.env=[(A,eval a X.env)]:=by rfl):PI X Z (.Call (.Name "range" p) [a] [] pos) (LH C):=by
 intro b s g H R I h;show Call_ (lV I o hm boot_range (Xx (bW (c pos b s g H _ I h) λv w #[B,y,u,l,f]=>?_) n W));let(j,e,f,m,q):=f;subst e;cases l with
 |cons r i=>ext i;let(t,rfl):=r;show call_range_1 (Cj u () () f m (by simpa using q))
def KM(e:TI)(g:TG)(c:TS):TS:=λD a H=>e a H λJ h=>∃W:Nat->Nat->St->Hp->Prop,(∃m,W 0 m a h)/\∀i m a H,W i m a H->
 (J.stop i H/\D.nx a H)\/(J.go i H/\∃N:St->Hp->Prop,(∀j l,N j l->∃n,n<m/\W (i+1) n j l)/\∀x l,J.yld i H x l->g x a l λb f=>c {D with nx:=N,ct:=N,bk:=D.nx} b f)
def ot(a:G M)(h:Heap):G (M×Obj):=a.filterMap λb=>(h.get? b).map λo=>(b,o)
theorem iL(a:b∈C)(e:h.get? b=S o):(b,o)∈ot C h:=X9.mpr #[b,a,by rw[e];rfl]
def BO(a:p∈ot C h):p.1∈C/\h.get? p.1=S p.2:=by
 let(b,f,e):=X9.mp a;cases q:h.get? b with
 |none=>rw[q]at e;ext e
 |some o=>rw[q]at e;let g:=UI e;subst g;show#[f,q]
theorem Inv.pinned(I:Inv X pins σ H s)(i:∀b∈fp,lO X pins H b)(h:∀b∈fp,∃o,s.heap.get? b=S o/\∀v,o.data≠.cell v):Inv X (pins++ot fp s.heap) σ H s:=
 I.aaH λp g=>(VD.mp g).elim (λz=>I.pin p (Vw _ z)) λz=>by let(a,e):=BO z;let(m,l,j,_):=i p.1 a;let(o,f,d):=h p.1 a;rw[e]at f;ext f;show#[e,m,l,j,d]
theorem Inv.Zk(I:Inv X (pins++pl) σ H s):Inv X pins σ H s:=I.aaH λp a=>I.pin p (Vw _ (XS _ a))
def M3(L:aas (model X.prog X.w) X.A X.env X.xe)(c:X.calm=Uq)(V:PI X Z iter wi)(hg:PG X Z g)(p:Z9 X body tb)
  (k:∀x,foldedSetIterable iter X.env x=pure x:=by intro _;rfl):PS X (.For Z iter body [] pos) (KM wi g tb):=by
 intro j s σ H D I h;show wpAny_For (bW (V j s σ H _ I h) λv s1 h1=>bW h1 λitv s2 h2=>?_) k;let(it,O,tn,J,H2,e,I2,T,R,f2,W,(m0,w0),turn):=h2;subst e;let E:∀{z:Hp},(∀b∈O,z b=Uo)->∀b∈O,lO X j z b:=λhn b p=>#[hn b p,(f2 b p).2];show codeAny_forLoop_any (λn s'=>∃i σ' z,Inv X j σ' z s'/\tn i s'.heap/\(∀b∈O,z b=Uo)/\W i n σ' z) ?_ m0 #[0,σ,H2,I2,R,λb p=>(f2 b p).1,w0];rintro n s3 ⟨i,l,P,I3,G,M,w3⟩;rcases turn i n l P w3 with⟨F,qn⟩|⟨go,N,hN,step⟩
 .show W3 L (bW (T.done X rfl rfl rfl c i j s3 l P X.xe I3 (E M) G F) λr s4 #[w,I4]=>?_);subst w;show Xo #[l,P,I4,qn]
 .show W3 L (bW (T.item X rfl rfl rfl c i j s3 l P X.xe I3 (E M) G go) λr s4 #[u,w,h4]=>?_)
  subst w;show W3 L (bW h4 λ_ s5 a=>?_);let(x,H5,I5,r5,y5,C,Y):=a;let I5':=I5.pinned (E Y) (T.obj _ _ C);show W3 L (bW (hg _ s5 l H5 x u _ I5' r5 (step x H5 y5)) λ_ s6 a=>?_);let(Q,H6,I6,q6):=a;show W3 L (bW (p _ s6 Q H6 _ I6 q6) λf S B=>?_);let q:∀{a:St} {y:Hp},Inv X (j++ot O s5.heap) a y S->N a y->∃m,m<n/\∃i σ' z,Inv X j σ' z S/\tn i S.heap/\(∀b∈O,z b=Uo)/\W i m σ' z:=λ{a y} t K=>by let(m',hm,w7):=hN a y K;show#[m',hm,i+1,a,y,t.Zk,T.keep _ _ _ C λb p o e=>(t.pin (b,o) (Vw _ (Vw _ (iL p e)))).1,λb p=>?_,w7];let(o,e,d):=T.obj _ _ C b p;show(t.pin (b,o) (Vw _ (Vw _ (iL p e)))).2.1
  cases f with
  |next=>let(a,y,t,K):=B;show q t K
  |cont=>let(a,y,t,K):=B;show q t K
  |brk=>let(a,y,t,B):=B;show#[a,y,t.Zk,B]
  |ret v=>let(x7,a,y,t,r7,B):=B;show#[x7,a,y,t.Zk,r7,B]
end
abbrev R2:=V->V->Hp->VK->Prop
def OpR(X:Cx)(f:U->U->Sem U)(r:R2):Prop:=
 ∀(a:G (M×Obj)) (s:Uw) (b:St) (H:Hp) (x y:V) (v u:U) (Q:VK),Inv X a b H s->RelV x v->RelV y u->r x y H Q->
  wpAny (model X.prog X.w) X.A (f v u) (EP X a b Q) X.xe s
def WM(X:Cx)(f:U)(r:G V->Hp->VK->Prop):Prop:=
 ∀(a:G (M×Obj)) (s:Uw) (b:St) (H:Hp) (xs:G V) (e:G U) (Q:VK),Inv X a b H s->Vals xs e->r xs H Q->
  wpAny (model X.prog X.w) X.A (call f e) (EP X a b Q) X.xe s
def D7(r:R2)(d c:TE):TE:=λa H Q=>d a H λx e=>c a e λy b=>r x y b Q
def rI(C:Int->Int->Prop)(g:Int->Int->V):R2:=λx y H Q=>∃i j,x=.int i/\y=.int j/\C i j/\Q (g i j) H
def wY(g:Int->Int->V):R2:=λx y H Q=>∃i j,x=.int i/\y=.int j/\Q (g i j) H
section
variable{X:Cx}{a b c:UW}{Y Z O:TE}{T:Pos}
def Pq(r:PE X a Y)(n:PE X b Z){R:V->V->Hp->Prop}(I:Inv X pins σ H s)
  (h:Y σ H λx H1=>Z σ H1 λy d=>R x y d) {f:U->U->Sem U}
  (m:∀v u s2 x y d,Inv X pins σ d s2->RelV x v->RelV y u->R x y d->wpAny (model X.prog X.w) X.A (f v u) Q X.xe s2):
  wpAny (model X.prog X.w) X.A (eval a X.env) (λv q=>wpAny (model X.prog X.w) X.A (eval b X.env) (λu k=>wpAny (model X.prog X.w) X.A (f v u) Q X.xe k) X.xe q) X.xe s:=by
 show bW (r pins s σ H _ I h) λv e a=>?_;let(x,H1,p,i,l):=a;show bW (n pins e σ H1 _ p l) λu s2 a=>?_;let(y,d,o,g,j):=a;show m v u s2 x y d o i g j
def QV(l:OpR X (Wa op) r)(d:PE X a Y)(m:PE X b Z):PE X (.BinOp a op b T) (D7 r Y Z):=by intro e s f H Q I h;show wpAny_BinOp (Pq d m I h λv u g x y o n j i q=>l e g f o x y v u Q n j i q)
def PP{g:Int->Int->Int}
  (e:∀(i j:Int) (t u:Tok) (s:Uw) (Q:U->Uw->Prop) (E:U->Uw->Prop),C i j->Q (.int (g i j) s.toks) {s with toks:=s.toks+1}->wpAny (model X.prog X.w) X.A (f (.int i t) (.int j u)) Q E s):
  OpR X f (rI C λi j=>.int (g i j)):=by
 intro l s r H x y v u Q I o n h;let(i,j,rfl,rfl,p,q):=h;let(t,rfl):=o;let(m,rfl):=n;show e i j t m s _ _ p #[.int (g i j),H,I.tok _,#[_,W],q]
def Ou{g:Int->Int->Int}
  (e:∀(i j:Int) (t u:Tok) (s:Uw) (Q:U->Uw->Prop) (E:U->Uw->Prop),Q (.int (g i j) s.toks) {s with toks:=s.toks+1}->wpAny (model X.prog X.w) X.A (f (.int i t) (.int j u)) Q E s):
  OpR X f (wY λi j=>.int (g i j)):=by
 intro l s p H x y v u Q I o n h;let(i,j,rfl,rfl,q):=h;let(t,rfl):=o;let(m,rfl):=n;show e i j t m s _ _ #[.int (g i j),H,I.tok _,#[_,W],q]
def Pu{g:Int->Int->Bool}
  (e:∀(i j:Int) (t u:Tok) (s:Uw) (Q:U->Uw->Prop) (E:U->Uw->Prop),Q (.bool (g i j)) s->wpAny (model X.prog X.w) X.A (f (.int i t) (.int j u)) Q E s):
  OpR X f (wY λi j=>.bl (g i j)):=by
 intro l s p H x y v u Q I o n h;let(i,j,rfl,rfl,q):=h;let(t,rfl):=o;let(m,rfl):=n;show e i j t m s _ _ #[.bl (g i j),H,I,W,q]
def ED(i j:Int):Prop:=0<=j/\j<=1000000/\i.natAbs<2^64
def adJ(i j:Int):Prop:=(-(2^64)<i/\i<2^64)\/(-(2^64)<j/\j<2^64)
def adJ.ok(h:adJ i j):IntMulOk i j:=by
 rcases h with⟨f,e⟩|⟨f,e⟩
 .show .of_left (aj0 f e)
 .show .of_right (aj0 f e)
def two_pow_nn(k:Nat):(0:Int)<=2^k:=by rw[two_pow_cast];show Int.natCast_nonneg _
theorem Pt:OpR X (Wa .Add) (wY λi j=>.int (i+j)):=Ou λ_ _ _ _ _ _ _ q=>add_int q
theorem Pn:OpR X (Wa .Sub) (wY λi j=>.int (i - j)):=Ou λ_ _ _ _ _ _ _ q=>sub_int q
theorem PH:OpR X (Wa .Mult) (rI adJ λi j=>.int (i*j)):=PP λ_ _ _ _ _ _ _ e q=>mul_int q e.ok
theorem My:OpR X (Wa .Mod) (rI (λ_ j=>0<j) λi j=>.int (i % j)):=PP λi j _ _ _ _ _ e q=>by let f:(0:Int)<j:=e;show mod_int' () (by rw[Int.fmod_eq_emod_of_nonneg i ()];show q)
theorem MD:OpR X (Wa .Pow) (rI ED λi j=>.int (i^j.toNat)):=PP λ_ _ _ _ _ _ _ e q=>pow_int_small e.1 e.2.1 e.2.2 q
theorem MH:OpR X (Wa .LShift) (rI ED λi j=>.int (i*2^j.toNat)):=PP λ_ _ _ _ _ _ _ e q=>lshift_int_small e.1 e.2.1 e.2.2 q
theorem Nu:OpR X (Wa .RShift) (rI (λ_ j=>0<=j) λi j=>.int (i/2^j.toNat)):=PP λi j _ _ _ _ _ e q=>
 rshift_int e (by rw[aat i (two_pow_nn _)];show q)
theorem O0:OpR X (Wa .BitAnd) (wY λi j=>.int (Vx.bitAnd i j)):=Ou λ_ _ _ _ _ _ _ q=>and_int q
end
def yr:V->V->Bool
 |.Wu,.Wu=>R|.Wu,.int _=>R|.int _,.Wu=>R|.Wu,.bl _=>R|.bl _,.Wu=>R|.Wu,.str _=>R|.str _,.Wu=>R
 |.int _,.int _=>R|.bl _,.bl _=>R|.str _,.str _=>R|.byt _,.byt _=>R
 |.int _,.str _=>R|.str _,.int _=>R|.bl _,.str _=>R|.str _,.bl _=>R
 |_,_=>A
def Tq:R2:=λx y H Q=>yr x y=R/\Q (.bl (decide (x=y))) H
def JE:decide (V.int i=V.int j)=(i==j):=by rw[Xd];rw[decide_eq_true_iff,beq_iff_eq];show#[λh=>by ext h;rfl,λh=>by rw[h]]
def Oe:decide (V.bl i=V.bl j)=(i==j):=by rw[Xd];rw[decide_eq_true_iff,beq_iff_eq];show#[λh=>by ext h;rfl,λh=>by rw[h]]
def Ih:decide (V.str i=V.str j)=(i==j):=by rw[Xd];rw[decide_eq_true_iff,beq_iff_eq];show#[λh=>by ext h;rfl,λh=>by rw[h]]
def Ij:decide (V.byt i=V.byt j)=(i.toList==j.toList):=by rw[Xd];rw[decide_eq_true_iff,beq_iff_eq];show#[λh=>by ext h;rfl,λh=>by rw[Array.toList_inj.mp h]]
section
variable{X:Cx}{a b c:UW}{Y Z O:TE}{T:Pos}
def dh(I:Inv X pins σ H s)(q:Q (.bl k) H)(e:k=o):EP X pins σ Q (.bool o) s:=by subst e;show#[.bl k,H,I,W,q]
def QB:OpR X (V5 .Eq) Tq:=by
 intro m s n H x y v u Q I l e h;let(g,q):=h;cases x with
 |Wu=>
  ext l;cases y with
  |Wu=>ext e;show agT (dh I q (by simp))
  |bl j=>ext e;show agU (dh I q (by simp))
  |int j=>let(f,rfl):=e;show agV (dh I q (by simp))
  |str j=>let(f,rfl):=e;show agW (dh I q (by simp))
  |_=>show bg (show A=R from g) UH
 |bl i=>
  ext l;cases y with
  |Wu=>ext e;show agX (dh I q (by simp))
  |bl j=>ext e;show eq_bool (dh I q Oe)
  |str j=>let(f,rfl):=e;show afO (dh I q (by simp))
  |_=>show bg (show A=R from g) UH
 |int i=>
  let(t,rfl):=l;cases y with
  |Wu=>ext e;show agY (dh I q (by simp))
  |int j=>let(f,rfl):=e;show eq_int (dh I q JE)
  |str j=>let(f,rfl):=e;show afP (dh I q (by simp))
  |_=>show bg (show A=R from g) UH
 |str i=>
  let(t,rfl):=l;cases y with
  |Wu=>ext e;show agZ (dh I q (by simp))
  |bl j=>ext e;show afQ (dh I q (by simp))
  |int j=>let(f,rfl):=e;show afR (dh I q (by simp))
  |str j=>let(f,rfl):=e;show eq_str (dh I q Ih)
  |_=>show bg (show A=R from g) UH
 |byt i=>
  let(t,rfl):=l;cases y with
  |byt j=>let(f,rfl):=e;show PySem.W.eq_bytes (dh I q Ij)
  |_=>show bg (show A=R from g) UH
 |_=>ext y<;>show bg (show A=R from g) UH
theorem Rz:OpR X (V5 .Lt) (wY λi j=>.bl (decide (i<j))):=Pu λ_ _ _ _ _ _ _ q=>lt_int q
theorem QE:OpR X (V5 .Gt) (wY λi j=>.bl (decide (j<i))):=Pu λ_ _ _ _ _ _ _ q=>gt_int q
theorem Rq:OpR X (V5 .GtE) (wY λi j=>.bl (decide (j<=i))):=Pu λ_ _ _ _ _ _ _ q=>ge_int q
def M9:OpR X (V5 .Is) (λx y H Q=>y=.Wu/\Q (.bl (decide (x=.Wu))) H):=by
 intro f s i H x y v u Q I e g h;let(rfl,q):=h;ext g;show is_none_gen (dh I q ?_);ext x<;>first
  |(ext e;rfl)
  |(let(t,rfl):=e;rfl)
def zT:OpR X (V5 .IsNot) (λx y H Q=>y=.Wu/\Q (.bl (!decide (x=.Wu))) H):=by
 intro f s i H x y v u Q I e g h;let(rfl,q):=h;ext g;show isnot_none_gen (dh I q ?_);ext x<;>first
  |(ext e;rfl)
  |(let(t,rfl):=e;rfl)
def Cg(b:UW)(h:op≠.In:=by decide)(e:op≠.NotIn:=by decide):behindInMarks op b=A:=by
 let e1:(op==aaO.In)=A:=by ext op<;>first|rfl|show bg W h
 let e2:(op==aaO.NotIn)=A:=by ext op<;>first|rfl|show bg W e
 ext b<;>simp[behindInMarks,e1,e2]
def uU{op:aaO}{r:R2}(l:OpR X (V5 op) r)(d:PE X a Y)(m:PE X b Z)(hm:behindInMarks op b=A):PE X (.Compare a [op] [b] T) (D7 r Y Z):=by intro e s f H Q I h;show ah2 (Pq d m I h λv u g x y o n j i q=>l e g f o x y v u Q n j i q) hm
def AI(t:TE):TT:=λe H Q=>t e H λx f=>∃k,x=.bl k/\Q k f
def Kj(t:OpR X (V5 op) r)(d:PE X a Y)(w:PE X b Z)(hm:behindInMarks op b=Ut):PT X (.Compare a [op] [b] T) (AI (D7 r Y Z)):=by
 intro f s g H Q I h;show adm (bW (d f s g H _ I h) λv j #[x,G,C,n,q]=>bW (w f j g G _ C q) λu i #[y,F,B,m,p]=>
  bW (t f i g F x y v u _ B n m p) λc J a=>?_) hm;let(z,E,K,l,k,e,o):=a
 subst e;ext l;show WA #[E,K,o]
def t9:(UD:Nat)<2^63:=by rw[WB];decide
def j4(r:Vals [x] us):∃u,us=[u]/\RelV x u:=by
 cases r with
 |cons f e=>ext e;show#[_,W,f]
def mQ(r:Vals [x,y] us):∃u d,us=[u,d]/\RelV x u/\RelV y d:=by
 cases r with
 |cons h g=>
  cases g with
  |cons f e=>ext e;show#[_,_,W,h,f]
def Ba(g:X.calm=R):WM X (.builtin "max") (λxs H Q=>∃i j,xs=[.int i,.int j]/\Q (.int (if j>i then j else i)) H):=by
 intro f s l H xs n Q I r h;let(i,j,rfl,q):=h;let(u,m,rfl,(t,rfl),(p,rfl)):=mQ r;show max_two_ints (I.ok.hd g) λv o k=>#[_,H,I.kept k,?_,q];by_cases e:j>i
 .rw[ax e,ax e];show#[_,W]
 .rw[a4 e,a4 e];show#[_,W]
def QK(K:lD)(x:V)(H:Hp)(n:Nat):Prop:=
 match x with
 |.str y=>y.length<=UD/\n=y.length
 |.byt y=>y.size<=UD/\n=y.size
 |.ref p=>(∃xs,Ys K H p xs/\n=xs.length)\/∃xs,Yt K H p xs/\n=xs.length
 |_=>False
def CP:WM X (.builtin "len") (λxs H Q=>∃x n,xs=[x]/\QK X.K x H n/\Q (.int n) H):=by
 intro m s z H xs A Q I r h;let(x,n,rfl,e,q):=h;let(u,rfl,i):=j4 r;let C:=t9;let B:=WB;cases x with
 |str y=>let(t,rfl):=i;let(v,g):=e;subst g;show len_str () #[.int _,H,I.tok _,#[_,W],q]
 |byt y=>let(t,rfl):=i;let(v,g):=e;subst g;show PySem.W.len_bytes () #[.int _,H,I.tok _,#[_,W],q]
 |ref p=>
  ext i;let g:=e;rcases g with⟨xs,l,g⟩|⟨xs,l,g⟩
  .subst g;let(w,j,pl,o):=I.list l;let f:=j.length;show Calls.call_len_list pl.isList (by simp only[US];ext) #[.int xs.length,H,I.tok _,#[_,by simp only[US];rw[f]],q]
  .subst g;let(w,j,pl,o):=I.tuple l;let f:=j.length;show len_tuple pl (by simp only[US];ext) #[.int xs.length,H,I.tok _,#[_,by simp only[US];rw[f]],q]
 |_=>show(show False from e).elim
end
structure abC(h:Heap)(x dx C:M)(mA:Str->z U):Prop where
 obj:h.get? x=S (Wn C dx)
 ns:h.Ns1 dx mA
 ne:dx≠x
def rR{h:Heap}(n:h.Ns1 I C):∃c,h.get? I=S c/\∀name,YE name c=S (C name):=by
 let(o,es,m,g,j,i,_,hm):=n;show#[o,g,λname=>?_];let e:=hm name;unfold nsFind findBy at e;rw[<-ab4]at e;ext YE;rw[j];dsimp only;split
 .rename_i y q;rw[q]at e;show en S e
 .rename_i q
  rw[q]at e;let a:es.toList.any (·.refKey)=A:=by rw[List.any_eq_false];intro y f;let(z,t,b):=i y (Array.mem_toList_iff.mp f);simp[Xy.refKey,b]
  let l:¬es.toList.any (·.refKey)=R:=by rw[a];show UH
  rw[a4 l];show en S e
theorem abC.look(I:abC h x dx C mA):∃a,WX h x (Wn C dx) C (S a)/\∀name,YE name a=S (mA name):=
 let#[a,b,e]:=rR I.ns
 #[a,#[I.obj,W,W,b],e]
section
variable{T:UR}{w:Va}{A:U4}{E:CL->Uw->Prop}{s:Uw}{K:lD}{x O C f:Uu}{Z:Str->b4 CL}{Y:Str}{v:CL}
def KB(X:K.In s.heap)(I:abC s.heap x O C Z)(i:Xu K C Y=R)(g:WT K C=R)
  (c:U7 K (.ref C) Y=S P) (b:Z Y=S v) (a:ab5 v=R) (h:Q v {s with toks:=s.toks+1}):
  wpAny (model T w) A (getAttr (.ref x) Y expr) Q E s:=by
 let(j,J,e):=I.look;show PySem.W.get_value X J (YY i).1 (PySem.W.findObj_own g c W (by rw[e,b])) a h
def FY(X:K.In s.heap)(I:abC s.heap x O C Z)(a:Xu K C Y=R)
  (j:U7 K (.ref C) Y=S (S (.ref f))) (g:WH K (.ref f)=R) (e:Z Y=P) (h:Q (.ref f,[.ref x]) s):
  wpAny (model T w) A (getMethod (.ref x) Y pl) Q E s:=by
 let(b,J,i):=I.look;show PySem.W.method_fn X J (YY a).1 (YY a).2 j (beq_iff_eq.mp g) (by show(YE Y b).map (·.isSome)=S Ut;rw[i,e];rfl) h
def JN(X:K.In s.heap)(I:abC s.heap x O C Z)
  (p:U7 K (.ref C) "__setattr__"=S (S (.builtin "object.__setattr__"))) (q:Ze K C=R) (o:ZE K C Y=S P) (r:WT K C=R)
  (n:aaV Z ns) (d:ns.length<=UD)
  (h:∀c,abC c x O C (λy=>if y=Y then S v else Z y)->Heap.SameBut O s.heap c->Q ⟨⟩ {s with heap:=c,toks:=s.toks+2}):
  wpAny (model T w) A (setAttr (.ref x) Y v) Q E s:=by
 let(B,J,G):=I.look;show PySem.W.set_plain X J p (PySem.W.osa_open X J q o λb=>?_);let(H,t,i):=PySem.W.any_some r;let m:=I.obj;show Ld (UB (Ld (Ld (abo m (Ld (afS (PySem.W.looks_clsIn X t) ?_))))));rw[i];show UB (Ld (UB (Ld ?_)));show wpAny_nsSet1 I.ns λc a l=>?_;let(F,u,z,e,g,j):=a.count (ag0 Y v n);show Ld (afT e (by rw[g];show afU (Vb j (by rw[UJ];ext))) ?_);show UB (h _ #[(l.2 _ (eg I.ne)).trans I.obj,a,I.ne] l)
def EU{R:aau->Uw->Prop}{c:G U}{b:G (Str×U)}(X:K.In s.heap)(hm:ZF K C=Uq)
  (k:U7 K (.ref C) "__init__"=S (S (.ref f))) (e:Wz K (.ref f)=S (.type "function"))
  (h:codeAny (model T w) (A.under (.builtin "type.__call__" #[.ref C::c,b])) (.call (.ref f) #[.ref (s.heap.objs.size+1)::c,b]) (PySem.W.InitBack (s.heap.objs.size+1) R)
   {s with heap:=(s.heap.push VU).push (Wn C s.heap.objs.size)}):
  codeAny (model T w) A (.call (.ref C) #[c,b]) R s:=by
 let(j,g,d,t,i):=s;show PySem.W.make_core (PySem.W.makes_of X hm) (PySem.W.looks_findIn X k) (λa=>PySem.W.bind_fn X a e) (.inl W) h
end
def gX(f:Str)(v:V):G (Str×V)->G (Str×V)
 |[]=>[(f,v)]
 |(g,x)::r=>if g=f then(g,v)::r else(g,x)::gX f v r
theorem mX(f g:Str)(v:V):∀fs:G (Str×V),(gX f v fs).lookup g=if g=f then S v else fs.lookup g
 |[]=>by
  show Wv g [(f,v)]=_;by_cases h:g=f
  .let a:=beq_iff_eq.mpr h;simp only[Wv,a,ax h]
  .let a:=beq_eq_false_iff_ne.mpr h;simp only[Wv,a,a4 h]
 |(k,x)::r=>by
  let i:=mX f g v r;rw[show gX f v ((k,x)::r)=(if k=f then(k,v)::r else(k,x)::gX f v r)from rfl];by_cases b:k=f
  .rw[ax b]
   by_cases h:g=k
   .let a:=beq_iff_eq.mpr h;simp only[Wv,a,ax (h.trans b)]
   .let a:=beq_eq_false_iff_ne.mpr h;simp only[Wv,a,a4 (λe:g=f=>h (e.trans b.symm))]
  .rw[a4 b]
   by_cases h:g=k
   .let a:=beq_iff_eq.mpr h;simp only[Wv,a,a4 (λe:g=f=>b (h.symm.trans e))]
   .let a:=beq_eq_false_iff_ne.mpr h;simp only[Wv,a];show i
theorem my(f:Str)(v:V):∀fs:G (Str×V),f∈(gX f v fs).map (·.1)/\∀g,g∈fs.map (·.1)->g∈(gX f v fs).map (·.1)
 |[]=>#[by simp[gX],λg h=>by simp at h]
 |(k,x)::r=>by
  let(i,b):=my f v r;rw[show gX f v ((k,x)::r)=(if k=f then(k,v)::r else(k,x)::gX f v r)from rfl];by_cases a:k=f
  .rw[ax a];subst a;show#[by simp,λg h=>by simpa using h]
  .rw[a4 a]
   show#[?_,λg h=>?_]
   .rw[UK];show UN _ i
   .rw[UK]at h⊢
    rcases U5.mp h with e|e
    .show U5.mpr (.inl e)
    .show UN _ (b g e)
theorem mV(f:Str)(v:V):∀fs:G (Str×V),(gX f v fs).length<=fs.length+1
 |[]=>by simp[gX]
 |(k,x)::r=>by
  let b:=mV f v r;rw[show gX f v ((k,x)::r)=(if k=f then(k,v)::r else(k,x)::gX f v r)from rfl];by_cases a:k=f
  .rw[ax a,UJ,UJ];ext
  .rw[a4 a,UJ,UJ];ext
def Ye.some_of(r:Ye (S v) o):∃u,o=S u/\RelV v u:=by
 cases o with
 |none=>show(show False from r).elim
 |some u=>show#[u,W,r]
def Ye.none_of(r:Ye P o):o=P:=by
 cases o with
 |none=>rfl
 |some u=>show(show False from r).elim
def sI(r:RelV v u):ab5 u=R:=by
 cases v with
 |Wu=>cases(show u=CL.none from r);rfl
 |bl b=>cases(show u=CL.bool b from r);rfl
 |int i=>let(t,e):=(show∃t,u=CL.int i t from r);ext e;rfl
 |str x=>let(t,e):=(show∃t,u=CL.str x t from r);ext e;rfl
 |byt b=>let(t,e):=(show∃t,u=CL.bytes b t from r);ext e;rfl
 |flt b=>let(t,e):=(show∃t,u=CL.float b t from r);ext e;rfl
 |ref a=>cases(show u=CL.ref a from r);rfl
 |ty n=>cases(show u=CL.type n from r);rfl
section
variable{P:UR}{w:Va}{H X:Hp}{h T:Heap}{a C Z:Uu}{fs Y:b3 (Str×V)}
def nQ(VF:YU P w H h)(e:H a=S (.ins C Z fs)):∃c,abC h a Z C c/\(∀f,Ye (fs.lookup f) (c f))/\aaV c (fs.map (·.1))/\fs.length<=1000/\H Z=S (.own a):=by let(d,z,ne,b,c,n,r,q):=(show ObjOk P w H h a (.ins C Z fs)from VF a _ e);show#[c,#[b,n,ne],r,q,z,d]
end
structure Cls(K:lD)(C:M):Prop where
 pg:Xu K C Str.empty=R
 hd:WT K C=R
 po:Ze K C=R
 sa:U7 K (.ref C) "__setattr__"=S (S (.builtin "object.__setattr__"))
theorem Cls.get{K:lD}(c:Cls K C)(f:Str):Xu K C f=R:=c.pg
def Yf(K:lD)(C:M)(f:Str):Prop:=U7 K (.ref C) f=S P
def Yf.agM{K:lD}(n:Yf K C f):ZE K C f=S P:=by ext ZE;rw[show U7 K (.ref C) f=S P from n];rfl
structure Con(K:lD)(C:M)(f:Str)(v:V)(u:U):Prop where
 at_:U7 K (.ref C) f=S (S u)
 rel:RelV v u
 get:Xh K u "__get__"=S P
 cp:PySem.W.copiedNames.contains f=A
structure Meth(K:lD)(C:M)(m:Str)(f:M):Prop where
 at_:U7 K (.ref C) m=S (S (.ref f))
 fn:WH K (.ref f)=R
 kp:V4 K (.ref f)=R
section
variable{X:Cx}{Z:b3 (Uu×Obj)}{Y:St}{H:Hp}{s:Uw}{a C T:Uu}{fs:b3 (Str×V)}{f:Str}{v:V}{A:U4}{E:CL->Uw->Prop}
def yF(I:Inv X Z Y H s)(e:H a=S (.ins C T fs))(c:Cls X.K C)(n:Yf X.K C f)(l:fs.lookup f=S v)
  (h:∀u d,Inv X Z Y H d->RelV v u->Q u d):wpAny (model X.prog X.w) A (getAttr (.ref a) f b) Q E s:=by
 let(j,O,r,_,_,_):=nQ I.VF e;let(u,i,g):=Ye.some_of (by rw[<-l];show r f);show KB I.XU O (c.get f) c.hd n i (sI g) (h u _ (I.tok _) g)
def pZ(I:Inv X Z Y H s)(e:H a=S (.ins C T fs))(c:Cls X.K C)(k:Meth X.K C m g)(l:fs.lookup m=P)
  (h:Q (.ref g,[.ref a]) s):wpAny (model X.prog X.w) A (getMethod (.ref a) m pl) Q E s:=by
 let(b,O,r,_,_,_):=nQ I.VF e;let i:=Ye.none_of (by rw[<-l];show r m);show FY I.XU O (c.get m) k.at_ k.fn i h
def xM(I:Inv X Z Y H s)(e:H a=S (.ins C T fs))(c:Cls X.K C)(n:Yf X.K C f)(M:fs.length<1000)(t:RelV y u)
  (h:∀d,Inv X Z Y (aW H a (.ins C T (gX f y fs))) d->Q ⟨⟩ d):wpAny (model X.prog X.w) A (setAttr (.ref a) f u) Q E s:=by
 let(l,O,r,j,_,m):=nQ I.VF e;let B:(fs.map (·.1)).length<=UD:=by rw[Us,WB];ext
 show JN I.XU O c.sa c.po n.agM c.hd j B λL i p=>h _ ?_;let G:∃o,L.get? T=S o:=let#[o,_,_,w,_]:=i.ns;#[o,w]
 show I.write (by rw[e];show True.intro) (.inr m) (λb q J z=>(p.2 b J).trans z) G ?_;show#[by rw[ar O.ne];show m,?_,O.ne,i.obj,_,i.ns,λg=>?_,λg F=>?_]
 .let:=mV f y fs;ext
 .show Ye ((gX f y fs).lookup g) (if g=f then S u else l g)
  rw[mX];by_cases q:g=f
  .rw[ax q,ax q];show t
  .rw[a4 q,a4 q];show r g
 .by_cases q:g=f
  .rw[q];show(my f y fs).1
  .show(my f y fs).2 g (j g λz=>F ?_);show(if g=f then S u else l g)=P;rw[a4 q];show z
def Inv.made(I:Inv X Z Y H s):Inv X Z Y (aW (aW H s.heap.objs.size (.own (s.heap.objs.size+1))) (s.heap.objs.size+1) (.ins C s.heap.objs.size []))
  {s with heap:=(s.heap.push VU).push (Wn C s.heap.objs.size)}:=by
 let e1:(s.heap.push VU).get? s.heap.objs.size=S VU:=cv s.heap W;let e2:((s.heap.push VU).push (Wn C s.heap.objs.size)).get? (s.heap.objs.size+1)=S (Wn C s.heap.objs.size):=by let:=cv (s.heap.push VU) (o:=Wn C s.heap.objs.size) W;rwa [dN]at this
 let e3:(s.heap.push VU).Ns s.heap.objs.size (λ_=>P):=#[VU,#v[],_,e1,W,(λe h=>bg h (by simp)),λ_=>W];let i:=I.laid (a:=s.heap.objs.size) (o:=.own (s.heap.objs.size+1)) (h':=s.heap.push VU) (t':=s.toks) (λb u q=>ck _ q) (UC _) #[_,e1];show i.laid (a:=s.heap.objs.size+1) (o:=.ins C s.heap.objs.size []) (t':=s.toks) (λb u q=>ck _ q) (X6 (dN _ _)) ?_;let ne:s.heap.objs.size≠s.heap.objs.size+1:=UY (XI _);show#[by rw[ar ne,av],Vm _,ne,e2,λ_=>P,(Heap.Ns1.of_empty e3).at λo q=>ck _ q,λ_=>True.intro,λy g=>bg W g]
theorem y1{prog:UR}{w:Va}{env:Env}{e:UW}{f:Str}{b:Pos}{s:Uw}{Q:U->Uw->Prop}(g:attributeBase e f env (eval e env)=eval e env)
  (h:wpAny (model prog w) A (eval e env) (λo c=>wpAny (model prog w) A (getAttr o f R) Q E c) E s):wpAny (model prog w) A (eval (.Attribute e f b) env) Q E s:=
 Attribute_any_ h (by rw[arm_eval_Attribute,g])
end
def Oi(K:lD)(c:TE)(f:Str):TE:=λe H Q=>c e H λx b=>∃a C g fs v,x=.ref a/\b a=S (.ins C g fs)/\Cls K C/\Yf K C f/\fs.lookup f=S v/\Q v b
def MR(K:lD)(c g:TE)(f:Str):TS:=λD b H=>g b H λy h=>c b h λx e=>∃a C i fs,x=.ref a/\e a=S (.ins C i fs)/\Cls K C/\Yf K C f/\fs.length<1000/\
 D.nx b (aW e a (.ins C i (gX f y fs)))
section
variable{X:Cx}{o e Z:UW}{f:Str}{T Y N:Pos}{U O:TE}
def Oc(m:PE X e U)(p:attributeBase e f X.env (eval e X.env)=eval e X.env):PE X (.Attribute e f T) (Oi X.K U f):=by intro b s g H Q I h;show y1 p (bW (m b s g H _ I h) λu E a=>?_);let(x,z,y,i,a,C,J,fs,v,r,t,c,n,l,q):=a;subst r;obtain rfl:=i;show yF y t c n l λA B w j=>#[v,z,w,j,q]
def MP(d:PE X o U)(r:PE X Z O)(t:WO Z (S (.Attribute o f Y)) T.line X.env=pure Ut):PS X (.Assign [.Attribute o f Y] Z T) (MR X.K U O f):=by intro b s g H D I h;show aal (bW (r b s g H _ I h) λu i #[y,E,B,j,q]=>bW (d b i g E _ B q) λJ G a=>?_) t;let(x,L,K,m,a,C,Q,fs,v,w,c,n,l,p):=a;subst v;obtain rfl:=m;show xM K w c n l j λF z=>#[g,_,z,p]
end
section
variable{X:Cx}{Z:b3 (Uu×Obj)}{Y:St}{H:Hp}{s:Uw}{A:U4}{E:CL->Uw->Prop}{Q:CL->Uw->Prop}{c:CL}{b:Bool}
inductive ZA(K:lD)(H:Hp):V->U->Prop where
 |Wu:ZA K H .Wu (.type "NoneType")
 |bl (x:Bool):ZA K H (.bl x) (.type "bool")
 |int (i:Int):ZA K H (.int i) (.type "int")
 |str (x:Str):ZA K H (.str x) (.type "str")
 |flt (x:UInt64):ZA K H (.flt x) (.type "float")
 |lst {a:M} {xs:G V} (e:H a=S (.lst xs)):ZA K H (.ref a) (.type "list")
 |frz {a:M} {o:Obj} {xs:G V} (e:H a=S (.frz o (.lst xs))):ZA K H (.ref a) (.type "list")
 |tup {a:M} {xs:G V} (e:H a=S (.tup xs)):ZA K H (.ref a) (.type "tuple")
 |dK {a:M} {UZ:G (b5×V)} (e:H a=S (.dK UZ)):ZA K H (.ref a) (.type "dict")
 |dT {a:M} {UZ:G (G b5×V)} (e:H a=S (.dT UZ)):ZA K H (.ref a) (.type "dict")
 |ins {a C dx:M} {fs:G (Str×V)} (e:H a=S (.ins C dx fs)) (cl:Cls K C) (ha:U7 K (.ref C) "__class__"=S (S (.builtin "object.__class__")))
   (hn:Xh K (.builtin "object.__class__") "__get__"=S (S (.builtin "getset_descriptor.__get__"))) (htk:PySem.W.takesIn K (.builtin "object.__class__")=S R)
   (hm:adn K C (.type "object")=S R):ZA K H (.ref a) (.ref C)
def A7{x:V}{u t:U}(I:Inv X Z Y H s)(f:RelV x u)(ty:ZA X.K H x t)(e:Vr X.K t c=S b)(h:∀d,Q (.bool b) {s with toks:=d}):
  wpAny (model X.prog X.w) A (call (.builtin "isinstance") [u,c]) Q E s:=by
 cases ty with
 |Wu=>cases(show u=CL.none from f);show Vn abW I.XU True.intro e (λz=>nomatch z) h
 |bl y=>cases(show u=CL.bool y from f);show Vn abX I.XU True.intro e (λz=>nomatch z) h
 |int i=>let(t,q):=(show∃t,u=CL.int i t from f);ext q;show Vn ab6 I.XU True.intro e (λz=>nomatch z) h
 |str y=>let(t,q):=(show∃t,u=CL.str y t from f);ext q;show Vn ab7 I.XU True.intro e (λz=>nomatch z) h
 |flt y=>let(t,q):=(show∃t,u=CL.float y t from f);ext q;show Vn PySem.W.kitx_float I.XU True.intro e (λz=>nomatch z) h
 | @lst a xs v=>cases(show u=CL.ref a from f);let(_,_,n,_,g):=(show ObjOk X.prog X.w H s.heap a (.lst xs)from I.VF a _ v);show Vn Zf I.XU #[_,g,W] e (λz=>nomatch z) h
 | @frz a K xs v=>cases(show u=CL.ref a from f);let(_,_,_,n,_,g):=(show ObjOk X.prog X.w H s.heap a (.frz K (.lst xs))from I.VF a _ v);show Vn Zf I.XU #[_,g,W] e (λz=>nomatch z) h
 | @tup a xs v=>cases(show u=CL.ref a from f);let(_,_,_,p):=(show ObjOk X.prog X.w H s.heap a (.tup xs)from I.VF a _ v);let(o,g,(j,_),_):=p;show Vn abp I.XU #[o,g,j] e (λz=>nomatch z) h
 | @dK a B v=>cases(show u=CL.ref a from f);let(_,_,T,_,p):=(show ObjOk X.prog X.w H s.heap a (.dK B)from I.VF a _ v);let(o,es,l,g,j,_):=p;show Vn abY I.XU #[o,g,j.1] e (λz=>nomatch z) h
 | @dT a B v=>cases(show u=CL.ref a from f);let(_,_,xs,_,o,es,l,g,j,_):=(show ObjOk X.prog X.w H s.heap a (.dT B)from I.VF a _ v);show Vn abY I.XU #[o,g,j.1] e (λz=>nomatch z) h
 | @ins a C dx fs v cl N L w hm=>cases(show u=CL.ref a from f);let(r,O,_):=nQ I.VF v;let(m,J,_):=O.look;show Vn (PySem.W.kitx_own (cl.get _) cl.hd N L w hm) I.XU J e (λz=>nomatch z) h
end
structure Wl(k:Nat)(A:U4):Prop where
 hd:A.handled=P
 dp:A.depth+3*k+5<recursionLimit
 un:A.units+16*k+200<cLine
theorem Wl.mono(r:Wl k a)(h:j<=k):Wl j a:=#[r.hd,by let:=r.dp;ext,by let:=r.un;ext]
theorem Wl.deeper(r:Wl (k+1) a)(env:Env):Wl k (a.deeper env):=
 #[r.hd,by let:=r.dp;show a.depth+1+3*k+5<_;ext,by let:=r.un;show a.units+3+16*k+200<_;ext]
def xX{A:U4}:(A.under (.builtin "type.__call__" #[.ref C::us,kw])).depth=A.depth+1:=by
 first|rfl|simp[U4.under,abq.weight,abq.isCreation,abq.isGuard,abq.isCaller,abq.frames,abq.isFrame,guardIds]
def yE{A:U4}:(A.under (.builtin "type.__call__" #[.ref C::us,kw])).units=A.units+1:=by
 first|rfl|simp[U4.under,abq.cUnits,abq.frames,abq.isFrame]
theorem Wl.make(r:Wl (k+1) b)(C:M)(us:G U)(a:G (Str×U)):Wl k (b.under (.builtin "type.__call__" #[.ref C::us,a])):=
 #[r.hd,by let:=r.dp;rw[xX];ext,by let:=r.un;rw[yE];ext]
def Wl.depth(r:Wl k a):a.depth<recursionLimit:=by let:=r.dp;ext
def Wl.units(r:Wl k a):a.units+64<cLine:=by let:=r.un;ext
def iq:TA:=λ_ H Q=>Q [] H
def eO(c:TE)(b:TA):TA:=λa H Q=>c a H λx f=>b a f λxs e=>Q (x::xs) e
section
variable{X:Cx}{e:UW}{es:b3 UW}{Y:TE}{t:TA}{Z:Pos}
theorem dr:PA X [] iq:=λ_ _ _ _ H Q I h=>Calls.spliced_nil #[[],H,I,.nil,h]
def aY(c:PE X e Y)(n:PA X es t)(m:UO (e::es) X.env=(A,eval e X.env)::UO es X.env:=by rfl):PA X (e::es) (eO Y t):=by intro Z a s b H Q I h;rw[m];show Calls.spliced_cons (bW (c a s b H _ I h) λu f a=>?_);let(x,r,p,i,l):=a;show bW (n Z a f b r _ p l) λv w #[xs,q,o,g,j]=>#[x::xs,q,o,.cons i g,j]
def Gz(t:TA):TE:=λb H Q=>t b H λxs a=>xs.length<=UD/\∀p,a p=P->Q (.ref p) (aW a p (.tup xs))
def Os(t:TA):TE:=λb H Q=>t b H λxs a=>xs.length<=UD/\∀p,a p=P->Q (.ref p) (aW a p (.lst xs))
def Ds{c}(h:PA X es t):PE X (.Tuple es c Z) (Gz t):=by intro a s i H Q I l;show wpAny_Tuple_spliced (bW (h Z a s i H _ I l) λj f #[xs,n,g,r,z,q]=>#[by rw[<-r.length];show z,?_]);let m:=g.VF.fresh (UC _);show#[.ref f.heap.objs.size,aW n f.heap.objs.size (.tup xs),g.laid (λb u e=>ck _ e) (UC _) ?_,W,q _ m];show#[z,j,r,#[_,cv _ W,#[W,_,W],W]]
def MW(h:PA X es t):PE X (.List es Z) (Os t):=by intro a s i H Q I l;show wpAny_List_spliced (bW (h Z a s i H _ I l) λj f #[xs,n,g,r,z,q]=>#[by rw[<-r.length];show z,?_]);let m:=g.VF.fresh (UC _);show#[.ref f.heap.objs.size,aW n f.heap.objs.size (.lst xs),g.laid (λb u e=>ck _ e) (UC _) ?_,W,q _ m];show#[z,j,0,r,cv _ W]
end
abbrev Sp:=G V->Hp->VK->XK->Prop
abbrev uN:=G Env->Hp->Uw->XK->U->Uw->Prop
structure Env0(P:UR)(w:Va)(K:lD)(mg:Str->z U)(base:Heap)(A:U4)(outer:G Env)(s:Uw)(H:Hp):Prop where
 frames:A.frames=S outer
 mod:Mod K mg base
 bs:∀b o,base.get? b=S o->s.heap.get? b=S o/\H b=Uo
 bsz:base.objs.size<=s.heap.objs.size
 Y7:s.heap.FunFrames base outer
 frf:∀b∈uW outer,H b=Uo
 VF:YU P w H s.heap
 bare:AllBare s.gens
def CE(outer:G Env)(P:UR)(w:Va)(H:Hp)(s:Uw)(Q:VK)(u:U)(a:Uw):Prop:=
 ∃v b,a.os=s.os/\AllBare a.gens/\Un (uW outer) [] H b s.heap a.heap/\YU P w b a.heap/\RelV v u/\Q v b
def CR(b:uN)(outer:G Env)(P:UR)(w:Va)(H:Hp)(s:Uw)(Q:VK)(E:XK)(r:aau)(a:Uw):Prop:=
 match r with
 |.ok (.ret u)=>CE outer P w H s Q u a
 |.ok _=>False
 |.error e=>b outer H s E e a
structure FnOk(P:UR)(w:Va)(K:lD)(mg:Str->z U)(base:Heap)(CX:uN)(k:Nat)(f:M)(fd:Vv)(ps:G Str)(sp:Sp):Prop where
 len:∀vs H Q E,sp vs H Q E->vs.length=ps.length
 run:∀(A:U4) (outer:G Env) (s:Uw) (H:Hp) (args:Args) (us:G U) (vs:G V) (Q:VK) (E:XK),Wl k A->Env0 P w K mg base A outer s H->Y4 s fd args (ps.zip us)->Vals vs us->sp vs H Q E->
  codeAny (model P w) A (.call (.ref f) args) (CR CX outer P w H s Q E) s
theorem FnOk.imp{P:UR}{w:Va}{K:lD}{p:Str->z U}{base:Heap}{g:uN}{k:Nat}{f:M}{fd:Vv}{d:G Str}{sp b:Sp}(F:FnOk P w K p base g k f fd d sp)
  (h:∀c H Q E,b c H Q E->sp c H Q E):FnOk P w K p base g k f fd d b:=
 #[λc H Q E q=>F.len c H Q E (h _ _ _ _ q),λA a s H e i c Q E m n o j l=>F.run A a s H e i c Q E m n o j (h _ _ _ _ l)]
theorem Env0.make{K:lD}(e:Env0 f w K mg base b outer s H)(C:M)(us:G U)(a:G (Str×U)):
  Env0 f w K mg base (b.under (.builtin "type.__call__" #[.ref C::us,a])) outer s H:=#[by first|show e.frames|(simpa [U4.under,abq.envs,abq.isFrame,pushEnvs]using e.frames),e.mod,e.bs,e.bsz,e.Y7,e.frf,e.VF,e.bare]
section
variable{X:Cx}{Z:b3 (Uu×Obj)}{Y:St}{H:Hp}{s U:Uw}
theorem Inv.adN(I:Inv X Z Y H s):Env0 X.prog X.w X.K X.mg X.base X.A X.stack s H:=
 #[I.ok.frames,I.ok.mod,I.bs,Vb I.ok.bsz I.sz,I.stack,I.Zl,I.VF,I.bare]
def Inv.after{Q:VK}{u:CL}(I:Inv X Z Y H s)(h:CE X.stack X.prog X.w H s Q u U):EP X Z Y Q u U:=by let(v,j,f,a,un,VF,r,q):=h;let(i,g,d,t,e):=U;obtain rfl:e=s.os:=f;show#[v,j,I.call (h':=i) (g':=g) (d':=d) (t':=t) (ch:=[]) un VF a (λb z=>bg z (by simp)),r,q]
end
def jp(sp:Sp)(b:G V)(E:XK)(t:TA):TE:=λa H Q=>t a H λf e=>sp (f++b) e Q E
def rQ(C:M)(m:Str)(sp:Sp)(f:G V)(E:XK)(c:TE)(t:TA):TE:=λb H Q=>c b H λx e=>∃a i fs,x=.ref a/\e a=S (.ins C i fs)/\fs.lookup m=P/\
 t b e λh g=>sp (x::(h++f)) g Q E
def wG(C:M)(sp:Sp)(e:G V)(E:XK)(t:TA):TE:=λb H Q=>t b H λh a=>∀x g,a x=P->a g=P->g≠x->
 sp (.ref x::(h++e)) (aW (aW a g (.own x)) x (.ins C g [])) (λv f=>v=.Wu/\Q (.ref x) f) E
def Binds(K:lD)(fd:Vv)(b:G Str)(ds:G U):Prop:=
 ∀(s:Uw) (a:G U),K.In s.heap->(a++ds).length=b.length->Y4 s fd #[a,[]] (b.zip (a++ds))
theorem Binds.all{K:lD}{fd:Vv}{b:G Str}(h:∀us:G U,us.length=b.length->bindArgs fd #[us,[]]=pure (b.zip us)):Binds K fd b []:=λs us _ a=>by rw[U9]at a⊢;show .of_eq (h us a)
def dj(g:uN)(X:Cx)(E:XK):Prop:=∀(a:G (M×Obj)) (f:St) (H:Hp) (s:Uw) (e:U) (b:Uw),Inv X a f H s->g X.stack H s E e b->X.xe e b
section
variable{X:Cx}{U:uN}{k:Nat}{f C:Uu}{fd:Vv}{ps:b3 Str}{sp:Sp}{Y:b3 V}{ds:b3 CL}{E:XK}{x m:Str}{p pos Z:Pos}{e o:UW}{es:b3 UW}{T:TE}{t:TA}
def yk{a:G (M×Obj)}{g:St}{H:Hp}{s:Uw}{Q:VK}{us:G CL}{vs:G V}(F:FnOk X.prog X.w X.K X.mg X.base U k f fd ps sp)(n:Wl k X.A)(v:Binds X.K fd ps ds)(hd:Vals Y ds)(l:dj U X E)
  (I:Inv X a g H s) (r:Vals vs us) (h:sp (vs++Y) H Q E):wpAny (model X.prog X.w) X.A (call (.ref f) us) (EP X a g Q) X.xe s:=by
 let i:Vals (vs++Y) (us++ds):=r.append hd;let q:(us++ds).length=ps.length:=by rw[<-i.length];show F.len _ _ _ _ h
 show Yp (Yh (F.run X.A X.stack s H #[us,[]] (us++ds) (vs++Y) Q E n I.adN (v s us I.XU q) i h) λr j b=>?_);cases r with
 |error e=>show l a g H s e j I b
 |ok y=>
  cases y with
  |ret u=>show I.after b
  |next=>show False.elim b
  |brk=>show False.elim b
  |cont=>show False.elim b
def zV(F:FnOk X.prog X.w X.K X.mg X.base U k f fd ps sp)(l:Wl k X.A)(u:Gl X x)(hm:X.mg x=S (.ref f))(n:V4 X.K (.ref f)=R)(y:Binds X.K fd ps ds)(hd:Vals Y ds)(j:dj U X E)
  (c:PA X (e::es) t) (b:(x==("__debug__":Str))=A:=by decide) (v:UO (e::es) X.env=(A,eval e X.env)::UO es X.env:=by rfl) (z:(backTo pos (UO es X.env)).any (·.1)=A:=by rfl):
  PE X (.Call (.Name x p) (e::es) [] pos) (jp sp Y E t):=by
 intro a s i H Q I h;show WY (iP I u hm ?_ b);show XY I.ok.mod.kin n (bW (c pos a s i H _ I h) λB G #[w,J,g,r,q]=>#[g.XU,?_]) v z;show yk F l y hd j g r q
def Iw{pl:Sem Bool}(J:PE X o T)(c:Cls X.K C)(hm:Meth X.K C m f)(F:FnOk X.prog X.w X.K X.mg X.base U k f fd ps sp)(G:Wl k X.A)(L:Binds X.K fd ps ds)(hd:Vals Y ds)(z:dj U X E)(d:PA X (e::es) t)
  (cH:UO (e::es) X.env=(A,eval e X.env)::UO es X.env:=by rfl) (O:(backTo pos (UO es X.env)).any (·.1)=A:=by rfl)
  (B:eval (.Call (.Attribute o m Z) (e::es) [] pos) X.env=(do
   let ov<-eval o X.env
   standAt Z.atName
   let(f,first)<-holding [ov] (getMethod ov m pl)
   callWith pos f first (backTo pos (UO (e::es) X.env)) (backToKw pos (keywordEach [] X.env))):=by rfl):
  PE X (.Call (.Attribute o m Z) (e::es) [] pos) (rQ C m sp Y E T t):=by
 intro b s g H Q I h;show Yz (pl:=pl) (bW (J b s g H _ I h) λu n a=>?_) B;let(x,K,j,v,a,dx,fs,w,N,l,q):=a;subst w;obtain rfl:u=CL.ref a:=v;show pZ j N c hm l ?_;show XY (first:=[.ref a]) (h₀:=X.base) I.ok.mod.kin hm.kp (bW (d pos b n g K _ j q) λus R #[vs,S1,i,r,y]=>#[i.XU,?_]) cH O;show yk (us:=.ref a::us) (vs:=.ref a::vs) F G L hd z i (.cons W r) y
def GR{pl:Sem Bool}(y:PE X o T)(c:Cls X.K C)(hm:Meth X.K C m f)(F:FnOk X.prog X.w X.K X.mg X.base U k f fd ps sp)(v:Wl k X.A)(z:Binds X.K fd ps ds)(hd:Vals Y ds)(n:dj U X E)
  (r:eval (.Call (.Attribute o m Z) [] [] pos) X.env=(do
   let ov<-eval o X.env
   standAt Z.atName
   let(f,first)<-holding [ov] (getMethod ov m pl)
   callWith pos f first (backTo pos (UO [] X.env)) (backToKw pos (keywordEach [] X.env))):=by rfl):
  PE X (.Call (.Attribute o m Z) [] [] pos) (rQ C m sp Y E T iq):=by
 intro b s i H Q I h;show Yz (pl:=pl) (bW (y b s i H _ I h) λu J a=>?_) r;let(x,L,g,j,a,w,fs,B,G,l,q):=a;subst B;obtain rfl:u=CL.ref a:=j;show pZ g G c hm l ?_;show PySem.W.callWith_K0 (first:=[.ref a]) g.XU hm.kp (yk (us:=[.ref a]) (vs:=[.ref a]) F v z hd n g (.cons W .nil) q)
structure Mk(K:lD)(C f:M):Prop where
 makes:ZF K C=R
 init:U7 K (.ref C) "__init__"=S (S (.ref f))
 fn:WH K (.ref f)=R
 kp:V4 K (.ref C)=R
def FP(M:Mk X.K C f)(F:FnOk X.prog X.w X.K X.mg X.base U k f fd ps sp)(q:Wl (k+1) X.A)(z:Binds X.K fd ps ds)(hd:Vals Y ds)
  (n:dj U X E) (I:Inv X pins σ H s) (r:Vals vs us)
  (h:∀x c,H x=P->H c=P->c≠x->sp (.ref x::(vs++Y)) (aW (aW H c (.own x)) x (.ins C c [])) (λv d=>v=.Wu/\Q (.ref x) d) E):
  wpAny (model X.prog X.w) X.A (call (.ref C) us) (EP X pins σ Q) X.xe s:=by
 let i:=h (s.heap.objs.size+1) s.heap.objs.size (I.VF.fresh (Z5 _)) (I.VF.fresh (UC _)) (UY (XI _));let b:=Inv.made (C:=C) I;let g:Vals (V.ref (s.heap.objs.size+1)::(vs++Y)) (CL.ref (s.heap.objs.size+1)::(us++ds)):=.cons W (r.append hd);let y:(CL.ref (s.heap.objs.size+1)::us++ds).length=ps.length:=by let e:=g.length;rw[F.len _ _ _ _ i]at e;show e.symm
 show Yp (EU I.XU M.makes M.init (beq_iff_eq.mp M.fn) (Yh (F.run _ X.stack _ _ #[CL.ref (s.heap.objs.size+1)::us,[]] (CL.ref (s.heap.objs.size+1)::(us++ds)) _ _ E (q.make C us [])
  (b.adN.make C us []) (z _ (CL.ref (s.heap.objs.size+1)::us) b.XU y) g i) λr j a=>?_))
 cases r with
 |error e=>show n pins σ _ _ e j b a
 |ok B=>
  cases B with
  |ret u=>let(v,J,G,w,ev,l):=b.after a;subst ev;show#[w,#[V.ref (s.heap.objs.size+1),J,G,W,l]]
  |next=>show False.elim a
  |brk=>show False.elim a
  |cont=>show False.elim a
def GZ(M:Mk X.K C f)(F:FnOk X.prog X.w X.K X.mg X.base U k f fd ps sp)(l:Wl (k+1) X.A)(n:Gl X x)(hm:X.mg x=S (.ref C))(v:Binds X.K fd ps ds)(hd:Vals Y ds)(j:dj U X E)
  (c:PA X (e::es) t) (b:(x==("__debug__":Str))=A:=by decide) (u:UO (e::es) X.env=(A,eval e X.env)::UO es X.env:=by rfl) (y:(backTo pos (UO es X.env)).any (·.1)=A:=by rfl):
  PE X (.Call (.Name x p) (e::es) [] pos) (wG C sp Y E t):=by
 intro a s i H Q I h;show WY (iP I n hm ?_ b);show XY I.ok.mod.kin M.kp (bW (c pos a s i H _ I h) λz B #[w,G,g,r,q]=>#[g.XU,?_]) u y;show FP M F l v hd j g r q
end
section
variable{X:Cx}{O:uN}{k:Nat}{f C:Uu}{fd:Vv}{ps ks:b3 Str}{N:Sp}{E:XK}{x m:Str}{p Y Z T:Pos}{e o:UW}{es:b3 UW}{Q:b3 YB}{L J:TE}{t I:TA}{H:b4 Str}
structure aja(K:lD)(fd:Vv)(ps ks:G Str)(g:G U->G U->G U)(gV:G V->G V->G V):Prop where
 to:∀(s:Uw) (us ws:G U),K.In s.heap->(g us ws).length=ps.length->Y4 s fd #[us,ks.zip ws] (ps.zip (g us ws))
 rel:∀{vs:G V} {us:G U} {zs:G V} {ws:G U},Vals vs us->Vals zs ws->Vals (gV vs zs) (g us ws)
variable{g:b3 CL->b3 CL->b3 CL}{K:b3 V->b3 V->b3 V}
end
structure Wy(N P:G Str)(sc:Wd):Prop where
 kind:sc.kind=.function
 co:sc.isCoroutine=A
 gen:sc.isGenerator=A
 nd:N.Nodup
 pre:N.take P.length=P
 par:∀x∈P,sc.names.lookup x=S .local\/sc.names.lookup x=S .cell
 aeH:∀y∈sc.names,y.2≠.free
theorem rD{a:Str->z UQ}:∀{binds:G (Str×U)} {m:Str->z U},(∀v,(x,v)∉binds)->bindL a binds m x=m x
 |[],_,_=>rfl
 |(n,v)::r,m,h=>by
  ext bindL;rw[rD λw b=>h w (UN _ b)];split
  .let:x≠n:=by rintro rfl;show h v UX
   simp[this]
  .rfl
theorem rV{a:Str->z UQ}:∀{binds:G (Str×U)} {m:Str->z U},(∀v,(x,v)∉binds)->bindC a binds m x=m x
 |[],_,_=>rfl
 |(n,v)::r,m,h=>by
  ext bindC;rw[rV λw b=>h w (UN _ b)];split
  .rfl
  .let:x≠n:=by rintro rfl;show h v UX
   simp[this]
theorem rX{kindOf:Str->z UQ}:∀{a:G Str} {b:G U} {i:Nat} {m:Str->z U},a.Nodup->a[i]?=S x->b[i]?=S v->kindOf x=S .local->
  bindL kindOf (a.zip b) m x=S v
 |[],_,_,_,_,h,_,_=>by simp at h
 |_::_,[],_,_,_,_,h,_=>by simp at h
 |p::a,w::b,0,m,nd,h1,e,f=>by simp at h1 e;subst h1;subst e;show bindL kindOf ((p,w)::a.zip b) m p=_;ext bindL;rw[rD λv g=>(V8.mp nd).1 (XW g).1,ax f];simp
 |p::a,w::b,i+1,m,nd,h1,e,f=>by ext bindL;show rX (V8.mp nd).2 (by simpa using h1) (by simpa using e) f
theorem rM{kindOf:Str->z UQ}:∀{a:G Str} {b:G U} {i:Nat} {m:Str->z U},a.Nodup->a[i]?=S x->b[i]?=S v->kindOf x≠S .local->
  bindC kindOf (a.zip b) m x=S v
 |[],_,_,_,_,h,_,_=>by simp at h
 |_::_,[],_,_,_,_,h,_=>by simp at h
 |p::a,w::b,0,m,nd,h1,e,f=>by simp at h1 e;subst h1;subst e;show bindC kindOf ((p,w)::a.zip b) m p=_;ext bindC;rw[rV λv g=>(V8.mp nd).1 (XW g).1,a4 f];simp
 |p::a,w::b,i+1,m,nd,h1,e,f=>by ext bindC;show rM (V8.mp nd).2 (by simpa using h1) (by simpa using e) f
def start(N:G Str)(a:G V):St:=a.map S++UA (N.length - a.length) P
def dR(i:uN)(P:UR)(w:Va)(K:lD)(c:Str->z U)(base:Heap)(N:G Str)(b:Str)(a:Wd)(f:M)(h:U)(A:U4)(outer:G Env)(s:Uw)(H:Hp)(E:XK):Cx where
 prog:=P
 w:=w
 K:=K
 mg:=c
 base:=base
 A:=A.deeper (envOfC b a s.heap.objs.size f h)
 N:=N
 s₀:=s
 H₀:=H
 env:=envOfC b a s.heap.objs.size f h
 outer:=outer
 stack:=envOfC b a s.heap.objs.size f h::outer
 ex:=[]
 calm:=R
 fn:=λ_=>R
 pn:=[]
 xe:=λe j=>wpAny (model P w) (A.deeper (envOfC b a s.heap.objs.size f h)) (leaving (envOfC b a s.heap.objs.size f h) e) (λ_ g=>i outer H s E e g) (λl g=>i outer H s E l g) j
def wu{sc:Wd}(h:sc.names.lookup x=S .cell):∃c,(Wo n sc.names []).lookup x=S c:=by let q:=Xi sc.names n [] (.inl h);show V0.mp q
def Bk{K:lD}
  (S:Wy N ps scope) (hd:J.handled=Uo) (e0:Env0 L w K mg base J outer s H) (F:vs.length=ps.length) (r:Vals vs us)
  (x:InCallC s s.heap.objs.size (bindL (envOfC qual scope s.heap.objs.size f cd).kindOf (ps.zip us) λ_=>Uo) (Wo (s.heap.objs.size+1) scope.names []) (bindC (envOfC qual scope s.heap.objs.size f cd).kindOf (ps.zip us) λ_=>Uo) s1):
  Inv (dR CX L w K mg base N qual scope f cd J outer s H E) [] (start N vs) H s1:=by
 let I:ps.length<=N.length:=by let:=en Y0 S.pre;rw[V1]at this;ext
 let(o,C,rfl,B):=x.done;let j:∀b:M,b∉(dR CX L w K mg base N qual scope f cd J outer s H E).ex:=λb z=>bg (show b∈([]:b3 M)from z) (by simp);show#[#[e0.mod,S.kind,W,W,UC _,λy z c o g=>?_,λy l=>?_,λy c _ h=>?_,λ_=>hd,U4.frames_deeper e0.frames,.inr #[W,W],λb z=>bg z (j b),e0.bs,e0.bsz,λb _ _=>j b,λb z=>bg z (j b),e0.Y7,e0.frf],
  W,e0.bare,Un.kept B,#[_,x.toInCall.ns,λi y v o g G=>?_],λy c h=>#[_,x.cell y c h],e0.VF.fresh (UC _),λy c h=>?_,λp n=>bg (show p∈([]:b3 (M×Obj))from n) (by simp),e0.VF.kept B,?_]
 .show name_of_addr x.apart (Wb o) (Wb g)
 .let l:=l
  rcases l with l|l
  .show wu l
  .show bg W (S.aeH _ (Wb l))
 .show X5 (x.above y c (Wb h))
 .let O:i<vs.length:=by
   unfold start at g;by_cases O:i<vs.length
   .show O
   .rw[U8 (by simpa using O)]at g;rw[WG]at g;split at g<;>ext g
  let T:vs[i]?=cL v:=by
   unfold start at g;rw[U0 (by simpa using O),UG]at g;cases e:vs[i]? with
   |none=>rw[e]at g;ext g
   |some a=>rw[e]at g;ext g;rfl
  let(u,t,Q):=r.get T;let n:ps[i]?=cL y:=by rw[<-S.pre,List.getElem?_take_of_lt ()];show o
  let m:ps.Nodup:=by rw[<-S.pre];show S.nd.sublist (List.take_sublist _ _)
  show#[u,Q,?_];rcases S.par y (Vj n)with k|k
  .show .inl #[k,rX m n t k]
  .let(c,e):=wu k;show .inr #[.inl k,c,e,?_];let q:=x.cell y c e;rw[rM m n t (by show scope.names.lookup y≠_;rw[k];decide)]at q;show q
 .show e0.VF.fresh (X5 (x.above y c (Wb h)))
 .ext start;show _=N.length;rw[Uz,Us,VS];ext
def FB{m:uN}{P:UR}{w:Va}{K:lD}{l:Str->z U}{base:Heap}{k:Nat}{f:M}{name qual:Str}{params:Arguments}{body:G Wm}{scope:Wd}{F kV doc pm g ct X:U}{an T:z M}
  {C:Array (z U)} {N j:G Str} {sp:Sp} (Y:K.lookup f=cL #[X,T,.func (VV name qual params body scope F kV doc pm an g ct),C]) (D:XZ K g qual=R) (S:Wy N j scope)
  (len:∀c H Q E,sp c H Q E->c.length=j.length)
  (XH:∀(A:U4) (outer:G Env) (s:Uw) (H:Hp) (c:G V) (Q:VK) (E:XK),Wl k (A.deeper (envOfC qual scope s.heap.objs.size f g))->sp c H Q E->
   ∃t,Z9 (dR m P w K l base N qual scope f g A outer s H E) body t/\t {nx:=λ_ d=>Q .Wu d,rt:=Q} (start N c) H):
  FnOk P w K l base m (k+1) f (VV name qual params body scope F kV doc pm an g ct) j sp:=by
 show#[len,λA outer s H args us c Q E L e0 hb r i=>?_];let hl:=len _ _ _ _ i;let O:K.In s.heap:=e0.mod.kin.keeps λb o e=>(e0.bs b o e).1;let lim:s.heap.NoLimit:=e0.mod.nolimit.keeps λb o e=>(e0.bs b o e).1;let XG:∀y∈j.zip us,scope.names.lookup y.1=cL .local\/(scope.names.lookup y.1=cL .cell/\((Wo (s.heap.objs.size+1) scope.names []).lookup y.1).isSome=R):=λ#[n,v] Z=>by
  rcases S.par n (XW Z).1 with q|q
  .show .inl q
  .show .inr #[q,Xi _ _ _ (.inl q)]
 show codeAny_call_function L.depth (O _ _ Y) W S.co S.gen W (PySem.W.codeRec_of O D) (hb _ _ _ _ ?_);show wpAny_newFunctionEnv_cells S.kind XG λenv he s1 x=>?_;subst he;show#[lim.keeps x.toInCall.keep,codeAny_func ?_];let(t,ht,hq):=XH A outer s H c Q E (L.deeper _) i;let I:Inv (dR m P w K l base N qual scope f g A outer s H E) [] (start N c) H s1:=Bk S L.hd e0 hl r x;show wpAny_mono (ht [] s1 (start N c) H _ I hq) (λfl p h=>?_) λe p h=>h
 let fin:∀{a:St} {d:Hp} {v:V} {u:U},Inv (dR m P w K l base N qual scope f g A outer s H E) [] a d p->RelV v u->Q v d->CE outer P w H s Q u p:=
  λ{a d v u} J B q=>#[v,d,J.os,J.bare,J.base,J.VF,B,q]
 cases fl with
 |ret u=>let(v,a,d,J,B,q):=h;show fin J B q
 |next=>let(a,d,J,q):=h;show fin (v:=V.Wu) (u:=CL.none) J W q
 |brk=>let(_,_,_,q):=h;show False.elim q
 |cont=>let(_,_,_,q):=h;show False.elim q
section
variable{X:Cx}{x:Str}{p Z:Pos}{e:UW}{es:b3 UW}{t:TA}{Y T:String}{r:b3 V->Hp->VK->Prop}
def zP(r:G V->Hp->VK->Prop)(t:TA):TE:=λa H Q=>t a H λf b=>r f b Q
def g9(q:WM X (.builtin Y) r)(n:Gl X x)(hm:X.mg x=P)(m:Vl x=S (.builtin Y))(d:PA X (e::es) t)(c:x≠ "__name__":=by decide)(b:(x==("__debug__":Str))=A:=by decide)
  (o:UO (e::es) X.env=(A,eval e X.env)::UO es X.env:=by rfl) (u:(backTo Z (UO es X.env)).any (·.1)=A:=by rfl):PE X (.Call (.Name x p) (e::es) [] Z) (zP r t):=by
 intro a s f H Q I h;show WY (lV I n hm m ?_ c b);show ag1 (bW (d Z a s f H _ I h) λg i #[y,w,v,j,l]=>q a i f w y g Q v j l) o u
def BP(q:WM X (.type T) r)(n:Gl X x)(hm:X.mg x=P)(m:Vl x=S (.type T))(d:PA X (e::es) t)(c:x≠ "__name__":=by decide)(b:(x==("__debug__":Str))=A:=by decide)
  (o:UO (e::es) X.env=(A,eval e X.env)::UO es X.env:=by rfl) (u:(backTo Z (UO es X.env)).any (·.1)=A:=by rfl):PE X (.Call (.Name x p) (e::es) [] Z) (zP r t):=by
 intro a s f H Q I h;show WY (lV I n hm m ?_ c b);show Xx (bW (d Z a s f H _ I h) λg i #[y,w,v,j,l]=>q a i f w y g Q v j l) o u
end
end L2
namespace HT
open PySem PyProof.Rows
section
open PySem.SeqAt
open PySem.AutoSeq1 (wpAny_loadPart')
open PySem.MeetsSeq PySem.MeetsSeq2 PySem.MeetsSeq3
end
section
variable{Z:UR}{w:Va}{A:U4}{E:CL->Uw->Prop}{s:Uw}
def cat_tup{t b:M}{c ws:G U}{Q:U->Uw->Prop}(v:IsTup s.heap t c.toArray)(y:IsTup s.heap b ws.toArray)(q:c≠[])
  (B:ws=[]->Q (.ref t) s) (z:ws≠[]->Q (.ref s.heap.objs.size) {s with heap:=s.heap.push {cls:=.type "tuple",data:=.seq (c++ws).toArray}})
  (d:c.length+ws.length<=UD):wpAny (model Z w) A (Wa .Add (.ref t) (.ref b)) Q E s:=by
 let((cls,dd,data,o),l,u,n,r):=id v;let((C,i,m,f),a,h,p,g):=id y;simp only at u r h g;subst u r h g;let e:c.toArray++ws.toArray=(c++ws).toArray:=by simp
 by_cases j:ws=[]
 .show concat_meets #[_,l,W] #[_,a,W] afV aj1 aav aam (aab _ _)
   (tuple_addW1 t b c.toArray ws.toArray n p dd i o f (by simpa using q) (by simp[j])) #[l,a,B j]
 .show concat_meets #[_,l,W] #[_,a,W] afV aj1 aav aam (aab _ _)
   (tuple_addW2 t b c.toArray ws.toArray n p dd i o f (by simpa using q) (by simpa using j) (by rw[US,US];show d)) #[l,a,?_]
  rw[e];show z j
end
end HT
namespace L2
open PySem PySem.Spec PyProof.Rows
def kH:∀{us:G U},Vals (ns.map V.int) us->IntsAre us ns:=by
 induction ns with
 |nil=>intro us r;rw[W6]at r;ext r;show .nil
 |cons n ns f=>
  intro us r;rw[UK]at r;cases r with
  |cons b a=>let(t,e):=b;subst e;show .cons n t (f a)
section
variable{X:Cx}{e:UW}{L:TE}{Z Y:b4 UW}{J th:TO}{N O:Pos}
def Uh(X:Cx)(r:V->z Int->z Int->Hp->VK->Prop):Prop:=
 ∀(a:G (M×Obj)) (s:Uw) (b:St) (H:Hp) (x:V) (v g f:U) (Z Y:z Int) (h:M) (Q:VK),Inv X a b H s->RelV x v->s.heap.IsSliceOf h g f .none->IsPart g Z->IsPart f Y->r x Z Y H Q->
  ∃T id,typeLookup (.type T) "__getitem__"=pure (S (.builtin id))/\s.TypeIs v T/\wpAny (model X.prog X.w) X.A (getItem v (.ref h)) (EP X a b Q) X.xe s
def Ll(K:lD):R2:=λx y H Q=>∃a b xs ys,x=.ref a/\y=.ref b/\Yt K H a xs/\Yt K H b ys/\xs≠[]/\xs.length+ys.length<=UD/\
 (ys=[]->Q (.ref a) H)/\(ys≠[]->∀p,H p=P->Q (.ref p) (aW H p (.tup (xs++ys))))
def Vals.aaD(r:Vals xs us):us=[]↔xs=[]:=by
 cases r with
 |nil=>simp
 |cons _ _=>simp
def JT:OpR X (Wa .Add) (Ll X.K):=by intro i s B H x y v u Q I m l h;let(a,b,xs,C,rfl,rfl,K,t,r,j,o,n):=h;ext m;ext l;let(F,g,p,_):=I.tuple K;let(A,f,O,_):=I.tuple t;show HT.cat_tup p O (λz=>r (g.aaD.mp z)) (λz=>#[.ref a,H,I,W,o (f.aaD.mp z)]) (λz=>?_) (by rw[<-g.length,<-f.length];show j);show#[.ref s.heap.objs.size,_,I.laid (λb E q=>ck _ q) (UC _) ?_,W,n (λw=>z (f.aaD.mpr w)) _ (I.VF.fresh (UC _))];show#[by rw[Uz];show j,_,g.append f,ZZ.new _ _]
end
def LJ(n:Nat)(i:Int):z Nat:=if 0<=i then(if i<n then S i.toNat else P)else if -(n:Int)<=i then S (i+n).toNat else P
def jS(xs:G α)(i:Int):z α:=(LJ xs.length i).bind λj=>xs[j]?
def KU(h:LJ n i=S j):seqIndex? i n=S j/\j<n/\ -(n:Int)<=i/\i<n:=by
 unfold LJ at h;by_cases b:0<=i
 .rw[ax b]at h
  by_cases a:i<n
  .rw[ax a]at h;let e:=UI h;show#[by rw[seqIndex_of b a,e],by ext,by ext,a]
  .rw[a4 a]at h;ext h
 .rw[a4 b]at h
  by_cases a: -(n:Int)<=i
  .rw[ax a]at h;let e:=UI h;show#[by rw[seqIndex_neg () a,e],by ext,a,by ext]
  .rw[a4 a]at h;ext h
def uM(h:jS xs i=S v):∃j,seqIndex? i xs.length=S j/\xs[j]?=S v/\j<xs.length/\ -(xs.length:Int)<=i/\i<xs.length:=by
 unfold jS at h;cases e:LJ xs.length i with
 |none=>rw[e]at h;ext h
 |some j=>rw[e]at h;let(g,f,b,a):=KU e;show#[j,g,h,f,b,a]
def AE{j:Nat}(h:xs[j]?=S v):jS xs (j:Int)=S v:=by
 let a:=(Ux.mp h).1;let e:LJ xs.length (j:Int)=S j:=by ext LJ;rw[ax (),ax ()];simp
 ext jS;rw[e];show h
def Aw(b:UW):Prop:=∀o i,subscripted b A o i=operate [o,i] (getItem o i)
def IxR(X:Cx)(r:R2):Prop:=
 ∀(e a:UW) (b:G (M×Obj)) (s:Uw) (f:St) (H:Hp) (x y:V) (v u:U) (Q:VK),Inv X b f H s->RelV x v->RelV y u->r x y H Q->
  subscripted a A v u=operate [v,u] (getItem v u)->wpAny (model X.prog X.w) X.A (subscriptTail e a v u) (EP X b f Q) X.xe s
def RM(X:Cx)(id:String)(r:V->G V->Hp->VK->Prop):Prop:=
 ∀(a:G (M×Obj)) (s:Uw) (b:St) (H:Hp) (x:V) (xs:G V) (v:U) (e:G U) (Q:VK),Inv X a b H s->RelV x v->Vals xs e->r x xs H Q->
  wpAny (model X.prog X.w) X.A (call (.builtin id) (v::e)) (EP X a b Q) X.xe s
section
variable{X:Cx}{a b:UW}{ta tb:TE}{pos:Pos}
def IxR.or(h:IxR X r)(c:IxR X r'):IxR X (λx y H Q=>r x y H Q\/r' x y H Q):=by
 intro e f g s i H x y v u Q I l j q m;rcases q with q|q
 .show h e f g s i H x y v u Q I l j q m
 .show c e f g s i H x y v u Q I l j q m
def KZ{r:R2}(m:IxR X r)(c:PE X a ta)(n:PE X b tb)(l:Aw b):PE X (.Subscript a b pos) (D7 r ta tb):=by intro e s f H Q I h;show Subscript_ (Pq c n I h λv u g x y p o j i q=>m a b e g f p x y v u Q o j i q (l _ _))
def QF(K:lD):R2:=λx y H Q=>∃p xs i v,x=.ref p/\y=.int i/\Ys K H p xs/\jS xs i=S v/\Q v H
def Rp(K:lD):R2:=λx y H Q=>∃p xs i v,x=.ref p/\y=.int i/\Yt K H p xs/\jS xs i=S v/\Q v H
def Ql:R2:=λx y H Q=>∃z i c,x=.str z/\y=.int i/\z.length<=UD/\jS z.cps.toList i=S c/\Q (.str #[#v[c]]) H
def Hs:IxR X (QF X.K):=by
 intro l m e s E H x y v u Q I G F h A;let(p,xs,i,z,rfl,rfl,J,M,q):=h;ext G;let(t,rfl):=F;let(R,r,pl,S):=I.list J;let(j,g,P,T,O,N):=uM M;let(w,C,n):=r.get P;let L:=r.length;let K:=t9;let f:EP X e E Q w s:=#[z,H,I,n,q];by_cases B:0<=i
 .let o:i.toNat=j:=by
   rw[seqIndex_of B N]at g;show UI g
  show item_listR pl.isList B () (by rw[o];simpa using C) f A
 .let o:(i+(R.toArray.size:Int)).toNat=j:=by
   rw[seqIndex_neg () O]at g;rw[US,<-L];show UI g
  show subscriptTail_builtinR pl.isList.typeIs slot_list_getitem.lookup
   (wpAny_getItem_list_neg pl.isList () (by rw[US]<;>ext) () (by rw[o];simpa using C) #[W,f]) A
def PF:IxR X (Rp X.K):=by
 intro f g e s n H x y v u Q I A o h B;let(p,xs,i,z,rfl,rfl,C,F,q):=h;ext A;let(t,rfl):=o;let(R,r,pl,M):=I.tuple C;let(j,J,G,P,O,N):=uM F;let(w,L,l):=r.get G;let E:=r.length;let K:=t9;let m:EP X e n Q w s:=#[z,H,I,l,q];show subscriptTail_builtinR pl.typeIs slot_tuple_getitem.lookup
  (getItem_tuple pl () () (by rw[US,<-E];show J) (by simpa using L) #[W,m]) B
def OA:IxR X Ql:=by
 intro e f g s C H x y v u Q I n m h o;let(z,i,c,rfl,rfl,F,r,q):=h;let(t,rfl):=n;let(E,rfl):=m;let(j,l,B,G,A,w):=uM r;let p:z.cps.toList.length=z.length:=by simp[Str.length]
 rw[p]at l A w;let J:=t9;show tail_any (typeIs_str s z t) slot_str_getitem.lookup (getItem_str (by let e1:decide (i< -(2^63:Int))=Ut:=a6 ();let e2:decide (i≥2^63)=Ut:=a6 ();rw[e1,e2,aez]) (by rw[l];simpa using B) #[.str #[#v[c]],H,I.tok _,#[_,W],q]) o
def RD(K:lD):R2:=λx y H Q=>QF K x y H Q\/Rp K x y H Q\/Ql x y H Q
theorem GH:IxR X (RD X.K):=Hs.or (PF.or OA)
def WM.or(h:WM X f r)(c:WM X f r'):WM X f (λxs H Q=>r xs H Q\/r' xs H Q):=by
 intro e s g H xs i Q I j q;rcases q with q|q
 .show h e s g H xs i Q I j q
 .show c e s g H xs i Q I j q
def tN:WM X (.type "list") (λxs H Q=>∃p ys,xs=[.ref p]/\(Ys X.K H p ys\/Yt X.K H p ys)/\∀l,H l=P->Q (.ref l) (aW H l (.lst ys))):=by
 intro m s F H xs J Q I r h;let(p,ys,rfl,y,q):=h;let(u,rfl,G):=j4 r;ext G
 let A:∀(g:b3 U),Vals ys g->ys.length<=UD->∀(f:Heap) (j:Nat),(∀b w,s.heap.get? b=S w->f.get? b=S w)->
   f.get? s.heap.objs.size=S {cls:=.type "list",dict:=P,data:=.seq g.toArray j,slots:= #v[]}->EP X m F Q (.ref s.heap.objs.size) {s with heap:=f}:=λg i v f j t e=>
  #[.ref s.heap.objs.size,_,I.laid t (UC _) (show ObjOk X.prog X.w _ f _ (.lst ys)from#[v,g,j,i,e]),W,q _ (I.VF.fresh (UC _))]
 rcases y with y|y
 .let(g,i,pl,v):=I.list y;let z:=i.length;let(o,B,E,n,C):=pl.isList;show aj2 p (.inl W) B E C (λf j t e=>A g i v f j t e) (by simp only[US]<;>ext)
 .let(g,i,pl,v):=I.tuple y;let z:=i.length;let(o,B,E,n,C):=pl;show aj2 p (.inr W) B E C (λf j t e=>A g i v f j t e) (by simp only[US]<;>ext)
def qZ:WM X (.type "tuple") (λxs H Q=>∃p ys,xs=[.ref p]/\((Ys X.K H p ys/\∀l,H l=P->Q (.ref l) (aW H l (.tup ys)))\/(Yt X.K H p ys/\Q (.ref p) H))):=by
 intro i s B H xs C Q I r h;let(p,ys,rfl,h):=h;let(u,rfl,v):=j4 r;ext v;rcases h with⟨g,q⟩|⟨g,q⟩
 .let(n,f,pl,j):=I.list g
  let m:=f.length;show call_tuple_list pl.isList (λz y=>?_) (by simp only[US]<;>ext);let t:=I.kept (t':=s.toks) y
  let A:=
   t.laid (t':=s.toks) (λb o e=>ck _ e) (UC _) (show ObjOk X.prog X.w _ _ _ (.tup ys)from#[j,n,f,ZZ.new _ _])
  show#[.ref z.objs.size,_,A,W,q _ (t.VF.fresh (UC _))]
 .let(n,f,pl,j):=I.tuple g;show call_tuple_same pl #[.ref p,H,I,W,q]
def Sq(K:lD)(T:String)(x:V)(H:Hp):Prop:=match x with
 |.str _=>T= "str"
 |.int _=>T= "int"
 |.ref p=>(T= "list"/\∃xs,Ys K H p xs)\/(T= "tuple"/\∃o,K.lookup p=cL o/\o.cls=.type "tuple"/\o.dict=P)\/
   (T= "dict"/\((∃e,H p=cL (.dK e))\/∃e,H p=cL (.dT e)))\/(T= "set"/\∃S n,H p=cL (.set S n))
 |_=>False
def D5(I:Inv X pins σ H s)(r:RelV x v)(ty:Sq X.K T x H):
  s.TypeIs v T/\∀a,v=.ref a->∃d,s.heap.get? a=cL d/\d.dict=P:=by
 cases x with
 |str z=>let(t,rfl):=r;cases(show T= "str" from ty);show#[typeIs_str s z t,λ_ e=>nomatch e]
 |int i=>let(t,rfl):=r;cases(show T= "int" from ty);show#[ZR s i t,λ_ e=>nomatch e]
 |ref p=>
  ext r;rcases ty with⟨rfl,xs,j⟩|⟨rfl,o,f,l,h⟩|⟨rfl,f⟩|⟨rfl,S,n,f⟩
  .let(m,_,pl,_):=I.list j;show#[pl.isList.typeIs,λa e=>?_];ext e;let(o,n,e,c,h,_):=pl;show#[o,e,h]
  .show#[#[o,I.XU p o f,l],λa e=>?_];ext e;show#[o,I.XU _ o f,h]
  .let z:∃o,s.heap.get? p=cL o/\o.ExactDict:=by
    rcases f with⟨q,f⟩|⟨q,f⟩
    .let(_,_,_,_,o,_,_,e,g,_):=I.VF p _ f;show#[o,e,g]
    .let(_,_,_,_,o,_,_,e,g,_):=I.VF p _ f;show#[o,e,g]
   let(o,e,g):=z;show#[#[o,e,g.1],λa e2=>?_];ext e2;show#[o,e,g.2.1]
  .let(o,_,_,_,e,g,_):=I.VF p _ f;show#[#[o,e,g.1],λa e2=>?_];ext e2;show#[o,e,g.2.1]
 |_=>show False.elim ty
def DR(K:lD)(T:String)(r:V->G V->Hp->VK->Prop)(to:TE):TE:=λf H Q=>to f H λx e=>Sq K T x e/\r x [] e Q
def Q7(K:lD)(T:String)(r:V->G V->Hp->VK->Prop)(to:TE)(t:TA):TE:=λe H Q=>to e H λx f=>Sq K T x f/\t e f λxs g=>r x xs g Q
variable{o e:UW}{es:b3 UW}{to:TE}{t:TA}{name:Str}{Z Y:Pos}{T U:String}{r:V->b3 V->Hp->VK->Prop}
def DS(c:PlainAttrs T)(slot:Slot T name U)(g:typeOf (.builtin U)=pure (.type "method_descriptor"))(hm:RM X U r)(q:PE X o to)
  (y:attributeBase o name X.env (eval o X.env)=eval o X.env:=by rfl) (i:(Z.endLine==Y.line)=R:=by rfl):PE X (.Call (.Attribute o name Z) [] [] Y) (DR X.K T r to):=by
 intro f s j H Q I h;show wpAny_Call_method0_late y i (bW (q f s j H _ I h) λv n a=>?_);let(x,z,m,l,ty,p):=a;let(w,u):=D5 m l ty;show#[T,U,c,slot,g,w,u,Calls.callWith_builtin W (PySem.evalArgs_none (hm f n j z x [] v [] Q m l .nil p))]
def RF(c:PlainAttrs T)(slot:Slot T name U)(i:typeOf (.builtin U)=pure (.type "method_descriptor"))(hm:RM X U r)(E:PE X o to)(d:PA X (e::es) t)
  (J:attributeBase o name X.env (eval o X.env)=eval o X.env:=by rfl)
  (j:((backTo Y (UO (e::es) X.env)).all (λx=> !x.1)&&(backToKw Y (keywordEach [] X.env)).all (λx=>x.1.isSome)
   &&decide ((e::es).length+([]:b3 YB).length+(if([]:b3 YB).isEmpty then 0 else 1)<30))=R:=by rfl)
  (l:(Z.endLine==Y.line)=R:=by rfl) (C:UO (e::es) X.env=(Ut,eval e X.env)::UO es X.env:=by rfl) (m:(backTo Y (UO es X.env)).any (·.1)=Ut:=by rfl):
  PE X (.Call (.Attribute o name Z) (e::es) [] Y) (Q7 X.K T r to t):=by
 intro f s g H Q I h;show wpAny_Call_method_late J j l W (bW (E f s g H _ I h) λv y a=>?_);let(x,N,q,n,ty,B):=a;let(G,F):=D5 q n ty;show#[T,U,c,slot,i,G,F,?_];let p:=d Y f y g N _ q B;rw[C]at p⊢;show Calls.callWith_builtin (by show(Ut||(backTo Y (UO es X.env)).any (·.1))=Ut;rw[m]<;>rfl) (Calls.evalArgs_plain ?_);show bW p λu w #[vs,O,L,z,K]=>hm f w g O x vs v u Q L n z K
end
def S9(X:Cx)(id:String)(r:V->G V->Hp->VK->Prop):Prop:=
 ∀(a:G (M×Obj)) (s:Uw) (b:St) (H:Hp) (x:V) (xs:G V) (v:U) (e:G U) (Q:VK),Inv X a b H s->RelV x v->Vals xs e->r x xs H Q->
  wpAny (model X.prog X.w) X.A (call (.builtin id) (v::e)) (EP X a b Q) X.xe s
theorem Vals.one:∀{x:V} {us:G U},Vals [x] us->∃u,us=[u]/\RelV x u
 |_,_,.cons r .nil=>#[_,W,r]
theorem Vals.zero:∀{us:G U},Vals [] us->us=[]
 |_,.nil=>rfl
def Vals.dropLast(h:Vals xs us):Vals xs.dropLast us.dropLast:=by
 induction h with
 |nil=>show .nil
 |cons r t a=>
  cases t with
  |nil=>show .nil
  |cons q b=>show .cons r a
theorem Vals.rep(h:Vals xs us):∀k:Nat,Vals (UA k xs).flatten (UA k us).flatten
 |0=>.nil
 |k+1=>by rw[VG,VG,Ww,Ww];show Vals.append h (Vals.rep h k)
def xQ(l:G α):l.eraseIdx (l.length - 1)=l.dropLast:=by
 induction l with
 |nil=>rfl
 |cons a r f=>
  cases r with
  |nil=>rfl
  |cons b r=>
   let e:(a::b::r).length - 1=((b::r).length - 1)+1:=by let h:(a::b::r).length=r.length+2:=W;let g:(b::r).length=r.length+1:=W;ext
   rw[e,List.eraseIdx_cons_succ,f]
   all_goals rfl
theorem mo(a:G U):∀(k:Nat) (acc:G U),
  YC (λc b=>c++b) acc.toArray (UA k a.toArray)=(acc++(UA k a).flatten).toArray
 |0,acc=>by simp
 |k+1,acc=>by
  let e:acc.toArray++a.toArray=(acc++a).toArray:=by simp
  let e2:(acc++a)++(UA k a).flatten=acc++(UA (k+1) a).flatten:=by rw[VG,Ww,U3]
  rw[<-e2,<-mo a k (acc++a),<-e,VG,YF]
section
variable{X:Cx}{Z:b3 (Uu×Obj)}{Y:St}{H:Hp}{s:Uw}{l b:Uu}{T U Q:b3 V}
def Inv.agF{g a:G CL}(I:Inv X Z Y H s)(o:H l=S (.lst T))
  (e:s.heap.get? l=S {cls:=.type "list",data:=.seq g.toArray n}) (j:f g.toArray=a.toArray) (h:Vals U a) (c:U.length<=UD):
  Inv X Z Y (aW H l (.lst U)) {s with heap:=s.heap.update l (Obj.mapSeq f),toks:=t'}:=by
 let q:=alQ e f;rw[j]at q;show I.write (by rw[o];show trivial) (.inl W) (λp u m i=>(da s.heap (Obj.mapSeq f) (eg m)).trans i) #[_,q] ?_;show#[c,a,_,h,q]
theorem Inv.agr(I:Inv X Z Y H s)(a:Vals U Vk)(c:U.length<=UD):
  Inv X Z Y (aW H s.heap.objs.size (.lst U)) {s with heap:=s.heap.push {cls:=.type "list",data:=.seq Vk.toArray},toks:=t'}:=
 I.laid (λ_ _ q=>ck _ q) (UC _) #[c,Vk,0,a,cv _ W]
theorem Inv.fresh(I:Inv X Z Y H s):H s.heap.objs.size=P:=I.VF.fresh (UC _)
def Inv.afe(I:Inv X Z Y H s)(f:H l=S (.lst T)):T.length<=UD/\∃(a:G CL) (n:Nat),Vals T a/\T.length=a.length/\s.heap.get? l=S {cls:=.type "list",data:=.seq a.toArray n}:=by let(z,a,n,r,e):=I.VF l _ f;show#[z,a,n,r,r.length,e]
def Gr(h:n<=UD):Vx.List.listTooLong n=A:=by ext Vx.List.listTooLong;show a6 ()
end
section
variable{X:Cx}
def uv:V->G V->Hp->VK->Prop:=λx a H Q=>∃l xs y,x=.ref l/\a=[y]/\H l=S (.lst xs)/\xs.length<UD/\Q .Wu (aW H l (.lst (xs++[y])))
def lU:S9 X "list.append" uv:=by intro a s j H x w v m Q I f t h;let(l,xs,y,rfl,rfl,b,o,q):=h;ext f;let(u,rfl,g):=t.one;let(z,i,n,r,p,e):=I.afe b;show Yq F.slot_list_append #[_,e,W] F.entry_list_append (F.args_list_append_2 _ _) (PySem.list_append l i.toArray n u (by rw[US];ext)) #[e,?_];show#[.Wu,_,I.agF b e (by simp) (r.append (.cons g .nil)) ?_,W,q];rw[Uz,YR];ext
def Qm:V->G V->Hp->VK->Prop:=λx a H Q=>∃l xs y,x=.ref l/\a=[]/\H l=S (.lst xs)/\xs[xs.length - 1]?=S y/\Q y (aW H l (.lst xs.dropLast))
def Ot:S9 X "list.pop" Qm:=by
 intro g s w H x C v A Q I j B h;let(l,xs,y,rfl,rfl,i,o,q):=h;ext j;let f:=B.zero;subst f;let(z,a,n,r,t,e):=I.afe i;let(u,p,m):=r.get o;let b:a.toArray[a.toArray.size - 1]?=S u:=by show a.toArray[a.length - 1]?=S u;rw[<-YG,<-t];show p
 show Yq F.slot_list_pop #[_,e,W] F.entry_list_pop (F.args_list_pop_1 _) (MeetsSeq.list_pop_last l a.toArray n u b (by rw[US];ext)) #[e,?_];show#[y,_,I.agF i e ?_ r.dropLast ?_,m,q]
 .show a.toArray.eraseIdxIfInBounds (a.toArray.size - 1)=a.dropLast.toArray;rw[US,List.eraseIdxIfInBounds_toArray,xQ]
 .rw[List.length_dropLast];ext
def zY(xs:G α)(k:Nat):(UA k xs).flatten.length=k*xs.length:=by
 induction k with
 |zero=>simp
 |succ k a=>rw[VG,Ww,Uz,a,afW,ZG]
end
section
variable{Z:UR}{w:Va}{A:U4}{E:CL->Uw->Prop}{s:Uw}
set_option maxRecDepth 100000 in
end
end L2
namespace Att
open PySem PySem.W PySem.Calls PyProof.Rows
def nr:∀(e:G Int) (c:G U),WellAll g h c (e.map WData.int)->IntsAre c e:=by
 intro e
 induction e with
 |nil=>intro c w;rw[W6]at w;ext w;show .nil
 |cons n e f=>
  intro c w;rw[UK]at w;cases w with
  |cons a b=>ext a;show .cons _ _ (f _ b)
def AW{l:OpenLaw}(k:l.most=S n)
  (e:l.row.toRowW.claim.pre args=R) (i:WellAll B h vals args):
  ∃a c ns,vals=[CL.ref a]/\args=[WData.list (ns.map WData.int)]/\h.get? a=S {cls:=.type "list",data:=.seq c.toArray}/\IntsAre c ns/\ns.length<=n:=by
 let j:=(pre_splitW e).1;let o:l.pre.holds [] {args:=args}=R:=(pre_splitW e).2;let(d,r,rfl,z,y):=hasAllW_cons j;obtain rfl:=hasAllW_nil y;let(xs,rfl,w):=hasW_list z;let(ns,rfl):=items_int w;let b:ns.length<=n:=by
  unfold OpenLaw.pre at o;let g:(WTm.not (.lt (.lit (.int (n:Int))) (.len (.arg 0)))).holds [] {args:=[.list (ns.map .int)]}=R:=by let g:=(holds_andW o).1;rw[k]at g;show g
  let f:=condW_of g (w_not (w_lt w_lit (w_len_list (w_arg W))));rw[Us]at f;show Nat.le_of_not_lt λq=>?_;let u:(n:Int)<((ns.length:Nat):Int):=by ext
  first
   |(rw[a5 u]at f;show bg f ())
   |(simp at f;ext)
 cases i with
 |cons t p=>
  ext p;cases t with
  |list v m=>show#[_,_,ns,W,W,v,nr ns _ m,b]
theorem A5(l:OpenLaw)(args:G WData):l.row.toRowW.claim.post args (.bool R) args=R:=
 postW_of
  (show WShape.has [] (.bool R) .bool=R by first|rfl|decide|simp[WShape.has,WShape.arms,WShape.armsAll])
  (show(WTm.eq .res (.lit (.bool R))).value [] {args:=args,res:=S (.bool R),after:=args}=S (.bool (R==R))from w_eq_bool (w_res W) w_lit) W
def attach_call{l:OpenLaw}{n:Nat}{q:UR}{e:b3 Str}{I:(Str->b4 U)->Heap->Prop}{H:Va->Heap->Prop}{d:DefRec}
  (V:l.most=cL n) (y:d.params.defaults=[])
  (call:∀(w:Va) (c b:Uw) (D t:Str->b4 U) (s:Uu) (o:Obj) (p m h:U) (a:Uu) (k:b3 U) (j:b3 Int),
   Ground q e [] I w c D t b.heap->H w b.heap->
   b.heap.get? s=cL o->o.data=.func (docDef d.name d.params d.body d.scope p m h)->b.heap.CodeRec m d.name->D d.name=cL (.ref s)->
   b.heap.get? a=cL {cls:=.type "list",data:=.seq k.toArray}->IntsAre k j->j.length<=n->b.gens= #v[]->
   codeAny (model l.prog w) callerA (.call (.ref s) #[[.ref a],[]]) (λr x=>r=.ok (.ret (.bool Uq))/\OldK b.heap x.heap/\x.os=b.os/\AllBare x.gens) b):
  WalkO q e I H l.row.toRowW d [] (λf k=>afX f k):=by
 intro w c b D t G Y s o p m h S kV L O z E v N F C as B T J u M;obtain rfl:S=.none:=Dflts.none E y;obtain rfl:kV=.none:=Dflts.noKw E;let(a,k,j,rfl,rfl,A,g,i):=AW V B u;show enter_call (Yh (call w c b D t s o p m h a k j G Y L (fd_plain O) z v A g i N) λr x K=>?_);let(rfl,R,Q,P):=K;show#[.inl #[.bool Uq,.bool Uq,[],W,λ_=>W,.bool Uq,A5 l _,λ_=>#[YH,λ_ hm=>(nomatch hm)]],R,Q,P]
end Att
namespace L2
open PySem PySem.Spec PyProof.Rows
theorem ib:∀{b:G U} {a:G Int},IntsAre b a->Vals (a.map V.int) b
 |_,_,.nil=>.nil
 |_,_,.cons n t h=>.cons #[t,W] (ib h)
def RJ(H:Hp):Prop:=∀b,H b=P\/∃o xs,H b=S (.frz o (.lst xs))
def FJ{P:UR}{w:Va}{K:lD}{mg E:Str->b4 CL}{X:uN}{k:Nat}{fa a:Uu}{fd:Vv}{x:Str}{sp:Sp}{f:Uw}{D:b3 CL}{p:b3 Int}
  (U:K.In f.heap) (t:f.heap.Ns UL mg) (g:f.heap.Ns builtinsNs E) (I:∀x:Str,x≠ "__name__"->E x=Vl x) (O:f.heap.NoLimit) (hg:f.gens= #v[])
  (ha:f.heap.get? a=cL {cls:=.type "list",data:=.seq D.toArray}) (hi:IntsAre D p) (R:p.length<=UD) (hr:Wl k callerA)
  (F:∀base:Heap,K.In base->base.Ns UL mg->FnOk P w K mg base X k fa fd [x] sp) (Q:∀(s:Uw) (u:CL),Y4 s fd #[[u],[]] [(x,u)])
  (G:∀H:Hp,RJ H->Ys K H a (p.map V.int)->sp [.ref a] H (λv _=>v=.bl Uq) λ_ _ _=>False)
  (J:∀H e c,X [] H f (λ_ _ _=>False) e c->False):
  codeAny (model P w) callerA (.call (.ref fa) #[[.ref a],[]]) (λr c=>r=.ok (.ret (.bool Uq))/\OldK f.heap c.heap/\c.os=f.os/\AllBare c.gens) f:=by
 let rv:=ib hi;let M:=hi.length
 let j:∀H:Hp,RJ H->Ys K H a (p.map V.int)->YU P w H f.heap->(∀b,H b≠Uo->b=a)->(H a≠Uo->K.lookup a=Uo)->
   codeAny (model P w) callerA (.call (.ref fa) #[[.ref a],[]]) (λr c=>r=.ok (.ret (.bool Uq))/\OldK f.heap c.heap/\c.os=f.os/\AllBare c.gens) f:=by
  intro H S hS VF T hK;let fZ:∀{b:Uu} {o:Obj},f.heap.get? b=cL o->H b=Uo->(uw f.heap H).get? b=cL o:=λe n=>C5 e n;let C:∀{b:Uu} {o:Obj} {es:Array Xy} {Az0:Nat},f.heap.get? b=cL o->o.data=.dict es Az0->H b=Uo:=λ{b o es Az0} e d=>by
   cases q:H b with
   |none=>rfl
   |some u=>let L:b=a:=T b (by rw[q];simp);subst L;rw[ha]at e;ext e;let d':Data.seq D.toArray _=Data.dict es Az0:=d;ext d'
  let i:∀{b:Uu} {m:Str->b4 CL},f.heap.Ns b m->(uw f.heap H).Ns b m:=λ{b m} #[o,es,Az0,e,d,r]=>#[o,es,Az0,fZ e (C e d),d,r];let y:K.In (uw f.heap H):=λb o e=>fZ (U b o e) (by
   cases q:H b with
   |none=>rfl
   |some u=>let L:b=a:=T b (by rw[q];simp);subst L;rw[hK (by rw[q];simp)]at e;ext e)
  let hM:Mod K mg (uw f.heap H):=#[y,i t,#[E,i g,I],let#[mc,h1,h2]:=O;#[mc,i h1,h2]];let e0:Env0 P w K mg (uw f.heap H) callerA [] f H:=#[W,hM,λb o e=>JG e,X6 (AY _ _),trivial,λb g=>bg (show b∈([]:b3 Uu)from g) (by simp),VF,.of_eq hg];show Yh ((F _ y (i t)).run callerA [] f H #[[.ref a],[]] [.ref a] [.ref a] _ _ hr e0 (Q f (.ref a)) (.cons W .nil) (G H S hS)) λr c h=>?_;cases r with
  |error e=>show(J H e c h).elim
  |ok fl=>
   cases fl with
   |next=>show False.elim h
   |brk=>show False.elim h
   |cont=>show False.elim h
   |ret u=>
    let(v,H',os,B,un,N,Z,q):=h;let q':v=.bl Uq:=q;subst q';obtain rfl:u=CL.bool Uq:=Z;show#[W,OldK.of_keep λb o e=>?_,os,B];cases q:H b with
    |none=>show un.keep b o e q (by intro z;show bg (show b∈([]:b3 Uu)from z) (by simp)) (by simp)
    |some u=>
     rcases S b with z|⟨ob,xs,z⟩
     .rw[q]at z;ext z
     .let Y:=un.Zn b ob _ z;let(e1,_):=VF b _ z;let(e2,_):=N b _ Y;rw[e]at e1;ext e1;show e2
 cases hk:K.lookup a with
 |some o=>let e:=U a o hk;rw[ha]at e;ext e;show j (λ_=>Uo) (λ_=>.inl W) (.inr #[_,D.toArray,_,hk,W,W,W,by rw[US,M];show R,by simpa using rv]) (λb u z=>by let l:(Uo:b4 HO)=cL u:=z;ext l) (λb z=>bg W z) λz=>bg W z
 |none=>
  show j (λb=>if b=a then cL (.frz {cls:=.type "list",data:=.seq D.toArray} (.lst (p.map V.int)))else Uo) (λb=>?_) (.inl (.inr #[{cls:=.type "list",data:=.seq D.toArray},ax W])) (λb u z=>?_) (λb z=>?_) λ_=>hk
  .by_cases g:b=a
   .show .inr #[_,_,ax g]
   .show .inl (a4 g)
  .by_cases g:b=a
   .let l:=(ax g).symm.trans z;ext l;subst g;show#[ha,by rw[Us];show R,D,_,rv,ha]
   .let l:=(a4 g).symm.trans z;ext l
  .by_cases g:b=a
   .show g
   .show bg (a4 g) z
def aM(s:Wm)(j:Nat):Wm:=match s with
 |.ClassDef _ _ _ body _ _ _ _ _ _ _=>body.getD j (.Pass #[0,0,0,0])
 |_=>.Pass #[0,0,0,0]
def eC(s:Wm):Arguments:=match s with
 |.FunctionDef _ a _ _ _ _ _ _ _ _=>a
 |_=>{posonlyargs:=[],args:=[],vararg:=P,kwonlyargs:=[],kw_defaults:=[],kwarg:=P,defaults:=[]}
def bQ(s:Wm):G Wm:=match s with
 |.FunctionDef _ _ b _ _ _ _ _ _ _=>b
 |_=>[]
def au(s:Wm):Wd:=match s with
 |.FunctionDef _ _ _ _ _ _ sc _ _ _=>sc
 |_=>{kind:=.function,names:=[],isGenerator:=A,isCoroutine:=A}
abbrev jD:uN:=λ_ _ _ _ _ _=>False
abbrev E0:XK:=λ_ _ _=>False
theorem Dn:dj jD X E0:=λ_ _ _ _ _ _ _ h=>h.elim
structure Zo(K:lD)(x qual:Str)(st:Wm)(f:M)(fd:Vv):Prop where
 ex:∃(oc:U) (od:z M) (kV doc pm:U) (an:z M) (Wj ct:U) (osl:Array (z U)),
  fd=VV x qual (eC st) (bQ st) (au st) .none kV doc pm an Wj ct/\K.lookup f=S #[oc,od,.func fd,osl]/\XZ K Wj qual=R
 kp:V4 K (.ref f)=R
section
variable{P:UR}{w:Va}{K:lD}{Z:Str->b4 CL}{base:Heap}
def Zo.ok{x a:Str}{b:Wm}{f:M}{fd:Vv}{N d:G Str}{k:Nat}{sp:Sp}(F:Zo K x a b f fd)(S:Wy N d (au b))(len:∀c H Q E,sp c H Q E->c.length=d.length)
  (o:∀(e:U) (A:U4) (outer:G Env) (s:Uw) (H:Hp) (c:G V) (Q:VK) (E:XK),Wl k (A.deeper (envOfC a (au b) s.heap.objs.size f e))->sp c H Q E->
   ∃t,Z9 (dR jD P w K Z base N a (au b) f e A outer s H E).nox (bQ b) t/\t {nx:=λ_ y=>Q .Wu y,rt:=Q} (start N c) H):FnOk P w K Z base jD (k+1) f fd d sp:=by
 let(u,r,kV,n,p,v,e,ct,j,rfl,l,i):=F.ex;show FB l i S len λA outer s H c Q E m g=>?_;let(t,h,q):=o e A outer s H c Q E m g;show#[t,h.nox,q]
def Zo.binds{x a:Str}{e:Wm}{f:M}{fd:Vv}{ps:G Str}(F:Zo K x a e f fd)
  (h:∀(kV b g:U) (i:z M) (j ct:U) (us:G U),us.length=ps.length->bindArgs (VV x a (eC e) (bQ e) (au e) .none kV b g i j ct) #[us,[]]=pure (ps.zip us)):Binds K fd ps []:=by
 let(o,n,kV,b,g,i,j,ct,l,rfl,p,m):=F.ex;show .all (h kV b g i j ct)
theorem GG{a:Wm}{kV b g e ct:U}(l:K.lookup f=S #[I,C,.func (VV x qual (eC a) (bQ a) (au a) .none kV b g an e ct),o])
  (c:XZ K e qual=R) (k:V4 K (.ref f)=R):Zo K x qual a f (VV x qual (eC a) (bQ a) (au a) .none kV b g an e ct):=#[#[I,C,kV,b,g,an,e,ct,o,W,l,c],k]
end
theorem Gv(a:Wl k b):b.units+1<cLine:=Zp (Nat.add_le_add_left (by decide:1<=64) _) a.units
section
variable{X:Cx}
theorem pv(i:Nat)(e:X.N[i]?=S x:=by rfl)(b:R9 X.env.scope x:=by first|show Or.inl W|show Or.inr (Or.inl W)|show Or.inr (Or.inr W))(hd:(x==("__debug__":Str))=A:=by decide)
  (a:(x==("__classdict__":Str))=A:=by decide):PE X (.Name x pos) (oK i):=E6 e b hd a
end
def VZ(H a:Hp):Prop:=∀b o,H b=S o->a b=S o
theorem VZ.refl(H:Hp):VZ H H:=λ_ _ h=>h
theorem VZ.trans(a:VZ H H1)(b:VZ H1 H2):VZ H H2:=λc o h=>b c o (a c o h)
def VZ.free(e:VZ H H')(h:H' l=P):H l=P:=by
 cases q:H l with
 |none=>rfl
 |some o=>rw[e l o q]at h;ext h
end L2
set_option maxHeartbeats 4000000
namespace L2
open PySem PySem.Spec PyProof.Rows
section
variable{X:Cx}{Z:b3 (Uu×Obj)}{T:St}{H:Hp}{s:Uw}{Y:Heap}
def Inv.abK{ch:G M}(I:Inv X Z T H s)(i:∀b∈ch,lO X Z H b)
  (k:∀b u,b∉ch->s.heap.get? b=S u->Y.get? b=S u) (l:s.heap.objs.size<=p)
  (new:ObjOk X.prog X.w (aW H p o) Y p o):Inv X Z T (aW H p o) {s with heap:=Y,toks:=t'}:=by
 let w:=I.VF.fresh l;let f:∀b u,H b=S u->b∉ch:=λb u e z=>by rw[(i b z).1]at e;ext e
 let h:∀b u,s.heap.get? b=S u->b≠p:=λb u e=>UY (UT (cn e) l);show I.step (λb g=>?_) (λb u _ _ a e _=>k b u a e) (λb u _ _ a e _=>#[u.slots,k b u a e])
  (λb u _ e n=>by rw[ar (h b u e)];show n) (λb u a e=>#[u,k b u a e]) (λb xs e=>by rw[ar (bC e w)];show e)
  (λb u xs e=>by rw[ar (bC e w)];show e) (λb J e=>#[#v[],by rw[ar (bC e w),e];simp]) (λm hm=>?_) (λb u e=>?_) I.bare
 .let(_,C,_,B,A,y):=i b g;show#[B,C,A,y]
 .let(j,es,E,t,r):=hm;show#[j,es,E,k _ j (λz=>(i _ z).2.1 W) t,r]
 .by_cases g:b=p
  .subst g;rw[av]at e;ext e;show new
  .rw[ar g]at e
   show(I.VF b u e).X8 (λc v a q=>k c v ?_ q) (λc q=>by rw[ar (bC q w)];show q) λc xs q=>by rw[ar (bC q w)];show q
   rcases a with z|z
   .rw[z];show f b u e
   .show f c _ z
end
mutual
inductive DV(K:lD)(H:Hp):V->Uv->Prop
 |Wu:DV K H .Wu .none
 |bl (b:Bool):DV K H (.bl b) (.bool b)
 |int (i:Int):DV K H (.int i) (.int i)
 |str (x:Str):DV K H (.str x) (.str x)
 |tup {a:Uu} {xs:b3 V} {ds:b3 Uv}:Yt K H a xs->Wg K H xs ds->DV K H (.ref a) (.tuple ds)
 |lst {a:Uu} {xs:b3 V} {ds:b3 Uv}:Ys K H a xs->Wg K H xs ds->DV K H (.ref a) (.list ds)
inductive Wg(K:lD)(H:Hp):b3 V->b3 Uv->Prop
 |nil:Wg K H [] []
 |cons {v:V} {vs:b3 V} {d:Uv} {ds:b3 Uv}:DV K H v d->Wg K H vs ds->Wg K H (v::vs) (d::ds)
end
section
variable{X:Cx}{Z:b3 (Uu×Obj)}{σ:St}{H:Hp}{s:Uw}
mutual
theorem DV.reads(I:Inv X Z σ H s):∀{v:V} {d:Uv} {u:CL},DV X.K H v d->RelV v u->∃as,abr s.heap u d as
 |_,_,_,.Wu,r=>by cases r;exact⟨_,.none⟩
 |_,_,_,.bl b,r=>by cases r;exact⟨_,.bool b⟩
 |_,_,_,.int i,r=>by obtain⟨t,rfl⟩:=r;exact⟨_,.int i t⟩
 |_,_,_,.str x,r=>by obtain⟨t,rfl⟩:=r;exact⟨_,.str x t⟩
 |_,_,_,.tup h hs,r=>by cases r;obtain⟨a,rv,⟨o,e,c,n,d⟩,_⟩:=I.tuple h;obtain⟨as,q⟩:=Wg.reads I hs rv;exact⟨_,.tuple e c d (by simpa using q)⟩
 |_,_,_,.lst h hs,r=>by cases r;obtain⟨a,rv,⟨o,n,e,c,_,d⟩,_⟩:=I.list h;obtain⟨as,q⟩:=Wg.reads I hs rv;exact⟨_,.list e c d (by simpa using q)⟩
theorem Wg.reads(I:Inv X Z σ H s):∀{vs:b3 V} {ds:b3 Uv} {us:b3 CL},Wg X.K H vs ds->Vals vs us->∃as,Zq s.heap us ds as
 |_,_,_,.nil,r=>by cases r;exact⟨_,.nil⟩
 |_,_,_,.cons h hs,r=>by
  cases r with
  |cons b a=>obtain⟨as,q⟩:=DV.reads I h b;obtain⟨bs,e⟩:=Wg.reads I hs a;exact⟨_,.cons q e⟩
end
end
def JJ(K:lD)(neg:Bool):R2:=λx y H Q=>∃a b,DV K H x a/\DV K H y b/\a.canLay0=R/\b.canLay0=R/\a.depth<=64/\Q (.bl (if neg then !Uv.eqv a b else Uv.eqv a b)) H
section
variable{X:Cx}
def MQ(o:X.A.units+64<cLine):OpR X (V5 .Eq) (JJ X.K A):=by intro a s n H x y v u Q I e b h;let(t,r,m,l,j,i,p,q):=h;let(as,g):=m.reads I e;let(bs,f):=l.reads I b;show ah4 g f j i () #[.bl _,H,I,W,q]
def MJ(o:X.A.units+64<cLine):OpR X (V5 .NotEq) (JJ X.K R):=by intro a s n H x y v u Q I e b h;let(t,r,m,l,j,i,p,q):=h;let(as,g):=m.reads I e;let(bs,f):=l.reads I b;show ah5 g f j i () #[.bl _,H,I,W,q]
def Sr(K:lD):G V->Hp->VK->Prop:=λxs H Q=>∃x n t b,xs=[x,.ty n]/\ZA K H x t/\Vr K t (.type n)=S b/\Q (.bl b) H
def v3:WM X (.builtin "isinstance") (Sr X.K):=by intro a s j H xs m Q I r h;let(x,n,t,b,rfl,ty,e,q):=h;let(u,l,rfl,g,i):=mQ r;obtain rfl:=i;show A7 I g ty e λf=>#[.bl b,H,I.tok f,W,q]
theorem DF:OpR X (Wa .FloorDiv) (rI (λ_ j=>0<j/\j.natAbs.log2<9000) λi j=>.int (i/j)):=PP λi j _ _ _ _ _ a q=>by let b:(0:Int)<j:=a.1;show floordiv_int () (by rw[aat i ()];show q) (.inl (PyProof.noPylong_of_log2 a.2))
end
def fL(env:Env):G (Str×UQ)->G (Str×M)->G (Str×M)
 |[],acc=>acc
 |(n,k)::r,acc=>if(k==UQ.free)=R then(match env.cells.lookup n with|some c=>fL env r ((n,c)::acc)|none=>fL env r acc)else fL env r acc
theorem kK{f:Str×UQ->G (Str×M)->Sem (ForInStep (G (Str×M)))}
  (g:∀n k acc,(k==UQ.free)=A->f (n,k) acc=pure (.yield acc)) (b:∀n c acc,env.cells.lookup n=S c->f (n,.free) acc=pure (.yield ((n,c)::acc))):
  ∀(names:G (Str×UQ)) (acc:G (Str×M)),(∀y∈names,y.2=.free->∃c,env.cells.lookup y.1=S c)->forIn names acc f=pure (fL env names acc)
 |[],acc,_=>rfl
 |(n,k)::r,acc,h=>by
  let i:=λy l=>h y (UN _ l);rw[XX];cases m:(k==UQ.free)with
  |false=>rw[g n k acc m,pure_bind];show forIn r acc f=_;rw[kK g b r acc i];simp only[fL,m,Xf,if_false]
  |true=>
   let e:k=.free:=by simpa using m
   subst e;let(c,j):=h _ UX W;rw[b n c acc j,pure_bind];show forIn r ((n,c)::acc) f=_;rw[kK g b r _ i];let a:=j;simp only[fL,m,if_true,a]
def km(h:∀y∈scope.names,y.2=.free->∃c,env.cells.lookup y.1=S c):closureFor scope env=pure (fL env scope.names []):=by simp only[closureFor];rw[kK (λn k a b=>by simp only[b,Xf,if_false]) (λn c a e=>by simp only[eu,if_true,cellOf,e,pure_bind]) scope.names [] h,pure_bind]
theorem jv:∀(names:G (Str×UQ)) (acc:G (Str×M)),(∀x c,acc.lookup x=S c->env.cells.lookup x=S c)->∀x c,(fL env names acc).lookup x=S c->env.cells.lookup x=S c
 |[],_,h,x,c,e=>h x c e
 |(n,k)::r,acc,h,x,c,e=>by
  unfold fL at e;split at e
  .split at e
   .rename_i f a
    show jv r _ (λy d q=>?_) x c e;rw[Vi]at q;split at q
    .rename_i b;ext q;rw[eq_of_beq b];show a
    .show h y d q
   .show jv r acc h x c e
  .show jv r acc h x c e
theorem jB:∀(names:G (Str×UQ)) (acc:G (Str×M)) (x:Str),(acc.lookup x).isSome=R->((fL env names acc).lookup x).isSome=R
 |[],_,_,h=>h
 |(n,k)::r,acc,x,h=>by
  ext fL;split
  .split
   .show jB r _ x ?_
    rw[Vi];split
    .rfl
    .show h
   .show jB r acc x h
  .show jB r acc x h
theorem lH:∀(names:G (Str×UQ)) (acc:G (Str×M)) (x:Str) (c:M),(x,UQ.free)∈names->env.cells.lookup x=S c->((fL env names acc).lookup x).isSome=R
 |[],_,_,_,h,_=>by ext h
 |(n,k)::r,acc,x,c,h,a=>by
  rcases U5.mp h with z|h
  .ext z;simp only[fL,eu,if_true,a];show jB r _ _ (by simp[Vi])
  .ext fL
   split
   .split
    .show lH r _ x c h a
    .show lH r acc x c h a
   .show lH r acc x c h a
def wT(h:(x,UQ.free)∈names)(a:env.cells.lookup x=S c):(fL env names []).lookup x=S c:=by
 let q:=lH names [] x c h a;cases e:(fL env names []).lookup x with
 |none=>rw[e]at q;ext q
 |some d=>let z:=jv names [] (λy d q=>by ext q) x d e;rw[a]at z;show z.symm
def vU{env:Env}{a:Wd}{x:Str}{k:UQ}(h:(relabel a env).names.lookup x=S k):∃c,(x,c)∈a.names/\(k=c\/(c=.free/\k=.cell)):=by
 let((n,c),hm,e):=Vt.mp (Wb h);simp only at e;split at e
 .rename_i b
  ext e;let f:(c==UQ.free)=R:=by rw[Ur,Ur]at b;show b.1.1
  show#[c,hm,.inr #[by simpa using f,W]]
 .ext e;show#[_,hm,.inl W]
theorem iO{env:Env}:∀{names:G (Str×UQ)} {x:Str},names.lookup x=S .free->
  (names.map λ(n,k)=>if(k==UQ.free&&env.scope.kind==.function&&env.kindOf n==S .cell)then(n,UQ.cell)else(n,k)).lookup x=S .cell\/
  (names.map λ(n,k)=>if(k==UQ.free&&env.scope.kind==.function&&env.kindOf n==S .cell)then(n,UQ.cell)else(n,k)).lookup x=S .free
 |[],_,h=>by ext h
 |(n,k)::r,x,h=>by
  rw[Vi]at h;rw[UK];dsimp only;by_cases a:(k==UQ.free&&env.scope.kind==.function&&env.kindOf n==S .cell)=R
  .rw[ax a,Vi]
   cases b:x==n with
   |true=>show .inl W
   |false=>rw[b]at h;show iO h
  .rw[a4 a,Vi]
   cases b:x==n with
   |true=>rw[b]at h;show .inr h
   |false=>rw[b]at h;show iO h
def cj(own:G Str)(a:G (Str×Nat)):G Str:=own++a.map (·.1)
def gU(own:G Str)(b:G (Str×Nat))(a:St):St:=own.map (λ_=>P)++b.map λp=>(a[p.2]?).join
def aaj(X:Cx)(a:Wd):G (Str×Nat)->Prop
 |[]=>True
 |p::r=>(X.N[p.2]?=S p.1/\a.names.lookup p.1=S .free/\(X.env.scope.names.lookup p.1=S .cell\/X.env.scope.names.lookup p.1=S .free))/\aaj X a r
theorem aaj.mem:∀{b:G (Str×Nat)},aaj X scope b->∀p∈b,X.N[p.2]?=S p.1/\scope.names.lookup p.1=S .free/\(X.env.scope.names.lookup p.1=S .cell\/X.env.scope.names.lookup p.1=S .free)
 |[],_,p,a=>by ext a
 |q::r,h,p,a=>by
  rcases U5.mp a with z|a
  .rw[z];show h.1
  .show h.2.mem p a
def ud(X:Cx)(a:Wd)(C:M):G (Str×M):=Wo (C+1) a.names (fL X.env a.names [])
theorem oz:∀(names:G (Str×UQ)) (n:Nat) (acc:G (Str×M)) (x:Str) (c:M),(Wo n names acc).lookup x=S c->(n<=c/\(x,UQ.cell)∈names)\/acc.lookup x=S c
 |[],_,_,_,_,h=>.inr h
 |(y,k)::r,n,acc,x,c,h=>by
  unfold Wo at h;by_cases b:(k==UQ.cell)=R
  .rw[ax b]at h
   let e:k=.cell:=by simpa using b
   rcases oz r _ _ x c h with⟨a,f⟩|a
   .show .inl #[Yl a,UN _ f]
   .rw[Vi]at a
    split at a
    .rename_i g;ext a;show .inl #[UC _,by rw[eq_of_beq g,e];show UX]
    .show .inr a
  .rw[a4 b]at h
   rcases oz r _ _ x c h with⟨a,f⟩|a
   .show .inl #[a,UN _ f]
   .show .inr a
theorem EB:∀(names:G (Str×UQ)) (n:Nat) (acc:G (Str×M)) (x:Str),(x,UQ.cell)∉names->(Wo n names acc).lookup x=acc.lookup x
 |[],_,_,_,_=>rfl
 |(y,k)::r,n,acc,x,h=>by
  let b:=λz=>h (UN _ z);ext Wo;by_cases a:(k==UQ.cell)=R
  .let e:k=.cell:=by simpa using a
   rw[ax a,EB r _ _ x b,Vi];let f:(x==y)=A:=by show beq_eq_false_iff_ne.mpr λz=>h ?_;rw[z,e];show UX
   rw[f]
  .rw[a4 a];show EB r _ _ x b
theorem oy:∀(names:G (Str×UQ)) (h:Heap) (acc:G (Str×M)) (x:Str) (c:M),(Wo h.objs.size names acc).lookup x=S c->(h.objs.size<=c/\(pushCells h names).IsCell c P)\/acc.lookup x=S c
 |[],_,_,_,_,e=>.inr e
 |(y,k)::r,h,acc,x,c,e=>by
  unfold Wo at e;ext pushCells;by_cases b:(k==UQ.cell)=R
  .rw[ax b]at e⊢
   rw[<-dN h {cls:=.type "cell",data:=.cell P}]at e;rcases oy r _ _ x c e with⟨a,f⟩|a
   .rw[dN]at a;show .inl #[Yl a,f]
   .rw[Vi]at a
    split at a
    .ext a;show .inl #[UC _,_,aaW _ _ _ _ (cv _ W),W]
    .show .inr a
  .rw[a4 b]at e⊢;show oy r _ _ x c e
theorem xG:∀(names:G (Str×UQ)) (n:Nat) (acc:G (Str×M)),(∀x c,acc.lookup x=S c->c<n)->(∀x y c,acc.lookup x=S c->acc.lookup y=S c->x=y)->∀x y c,(Wo n names acc).lookup x=S c->(Wo n names acc).lookup y=S c->x=y
 |[],_,_,_,i,x,y,c,e1,e2=>i x y c e1 e2
 |(z,k)::r,n,acc,h1,i,x,y,c,e1,e2=>by
  unfold Wo at e1 e2;by_cases g:(k==UQ.cell)=R
  .rw[ax g]at e1 e2
   show xG r (n+1) ((z,n)::acc) (λa d q=>?_) (λa b d f e=>?_) x y c e1 e2
   .rw[Vi]at q
    split at q
    .ext q;show XI _
    .show Ym (h1 a d q)
   .rw[Vi]at f e
    split at f
    .rename_i j
     split at e
     .rename_i h;rw[eq_of_beq j,eq_of_beq h]
     .ext f;show bg (h1 b _ e) (VN _)
    .split at e
     .ext e;show bg (h1 a _ f) (VN _)
     .show i a b d f e
  .rw[a4 g]at e1 e2;show xG r n acc h1 i x y c e1 e2
theorem xK:∀{names:G (Str×UQ)} {x:Str} {k a:UQ},(names.map (·.1)).Nodup->names.lookup x=S k->(x,a)∈names->k=a
 |[],_,_,_,_,h,_=>by ext h
 |(y,j)::r,x,k,a,f,h,hm=>by
  rw[UK,V8]at f;rw[Vi]at h;rcases U5.mp hm with e|b
  .ext e;rw[eu]at h;show(UI h).symm
  .cases g:x==y with
   |true=>rw[eq_of_beq g]at b;show bg (Vt.mpr #[_,b,W]) f.1
   |false=>rw[g]at h;show xK f.2 h b
def bh(X:Cx)(s:Uw)(H:Hp)(a:Wd)(C:M)(N:G Str)(b:G M):Cx:=
 {X with N:=N,s₀:=s,H₀:=H,env:=compEnvC a (ud X a C) C X.env,outer:=X.stack,stack:=X.stack,ex:=b,fn:=λx=>((fL X.env a.names []).lookup x).isNone,pn:=[],xe:=λ_ _=>False}
section
variable{X:Cx}{Z:b3 (Uu×Obj)}{Y:St}{H:Hp}{s:Uw}
def si{a:Wd}(I:Inv X Z Y H s)(e:(fL X.env a.names []).lookup x=S c):X.env.cells.lookup x=S c/\c<s.heap.objs.size:=by let h:=jv _ _ (λ_ _ q=>by ext q) x c e;let(v,o,z,_):=I.cell x c h;show#[h,cn z]
theorem Af(I:Inv X Z Y H s)(M:scope.kind=.function)(n:(scope.names.map (·.1)).Nodup)
  (v:∀y∈scope.names,y.2=.free->∃c,X.env.cells.lookup y.1=S c) (g:s.heap.objs.size<=C) (j:∀b∈fp,lO X Z H b) (f:∀b∈fp,b<s.heap.objs.size):(bh X s H scope C N fp).Ok where
 mod:=I.ok.mod
 kind:=M
 glob:=I.ok.glob
 blt:=I.ok.blt
 above:=g
 inj:=xG _ _ _ (λx c e=>Ym (UT (si I e).2 g)) λx y c B A=>I.ok.inj x y c (si I B).1 (si I A).1
 has:=λx G=>by
  let m:∃k,(relabel scope X.env).names.lookup x=S k/\(k=.cell\/k=.free):=by
   rcases G with z|z
   .show#[_,z,.inl W]
   .show#[_,z,.inr W]
  let(k,K,t):=m;let(E,hm,u):=vU K;let e:E=.free\/E=.cell:=by
   rcases u with z|⟨z,_⟩
   .subst z
    rcases t with z|z
    .show .inr z
    .show .inl z
   .show .inl z
  let q:((ud X scope C).lookup x).isSome=R:=by
   rcases e with e|e
   .subst e;let(c,L):=v _ hm W;show Xi _ _ _ (.inr (by rw[wT hm L];rfl))
   .subst e
    show Xi _ _ _ (.inl ?_);cases z:scope.names.lookup x with
    |none=>show bg hm (λhm=>by
      let:∀{l:b3 (Str×UQ)},l.lookup x=P->(x,UQ.cell)∉l:=λ{l}=>by
       induction l with
       |nil=>show λ_=>by simp
       |cons p r F=>
        intro h q;rw[Vi]at h;rcases U5.mp q with q|q
        .rw[<-q,eu]at h;ext h
        .split at h
         .ext h
         .show F h q
      show this z hm)
    |some O=>rw[xK n z hm]
  show V0.mp q
 cab:=λx c B A=>by
  let i:((fL X.env scope.names []).lookup x).isNone=R:=B;let w:=A;rcases oz _ _ _ x c w with⟨z,_⟩|z
  .show Vb g (Yl z)
  .rw[z]at i;ext i
 hd:=I.ok.hd
 frames:=I.ok.frames
 stk:=.inl W
 exf:=λb a=>#[UY (UT (f b a) g),λx c e=>by
  rcases oz _ _ _ x c e with⟨z,_⟩|z
  .show VI (UT (UT (f b a) g) (Yl z))
  .show(j b a).2.2.2.2.1 x c (si I z).1]
 bs:=I.bs
 bsz:=Vb I.ok.bsz I.sz
 aba:=λb o e a=>by
  rcases(j b a).2.2.2.1 with z|z
  .show I.ok.aba b o e z
  .show bg (UT (cn e) (Vb I.ok.bsz z)) (VN _)
 aa1:=λb a J=>by
  rcases U5.mp (I.Y8 b J)with z|z
  .show(j b a).2.1 z
  .show(j b a).2.2.1 z
 Y7:=I.stack
 frf:=I.Zl
def Ed(I:Inv X Z Y H s)(XG:scope.kind=.function)(d:(scope.names.map (·.1)).Nodup)
  (O:∀y∈scope.names,y.2=.free->∃c,X.env.cells.lookup y.1=S c) (N:aaj X scope J) (E:s.heap.objs.size<=D) (j:D<C) (hC:s.heap.objs.size<=C) (hf:∀b∈fp,lO X Z H b) (Q:∀b∈fp,b<s.heap.objs.size)
  (L:h1.Ns C m) (F:∀x c,(ud X scope C).lookup x=S c->C<c->∃v,h1.IsCell c v) (w:∀b o,s.heap.get? b=S o->h1.get? b=S o) (hd:∃n,h1.get? D=S {cls:=.type "list",data:=.seq #v[] n}):
  Inv (bh X s H scope C (cj own J) fp) [] (gU own J Y) (aW H D (.lst [])) {s with heap:=h1,toks:=t1}:=by
 let hn:=I.VF.fresh E;let(n,hd):=hd;let T:=VI j;let h:∀x c,(ud X scope C).lookup x=S c->C<c\/(X.env.cells.lookup x=S c/\c<s.heap.objs.size):=λx c e=>by
  rcases oz _ _ _ x c e with⟨z,_⟩|z
  .show .inl z
  .show .inr (si I z)
 show#[Af I XG d O hC hf Q,W,I.bare,Un.laid w E hn,#[m,L,λi x v e1 e2 e3=>?_],λx c e=>?_,?_,λx c e=>?_,λp hp=>bg (show p∈([]:G (M×Obj))from hp) (by simp),?_,?_]
 .
  let f:(own++J.map (·.1))[i]?=S x:=e1;let a:(own.map (λ_=>(P:b4 V))++J.map λp=>(Y[p.2]?).join)[i]?=S (S v):=e2;let B:own.length<=i:=by
   by_cases B:i<own.length
   .rw[U0 (by simpa using B),UG]at a
    cases q:own[i]? with
    |none=>rw[q]at a;ext a
    |some _=>rw[q]at a;ext a
   .omega
  rw[U8 B,UG]at f;rw[U8 (by simpa using B),UG,Us]at a;cases q:J[i - own.length]? with
  |none=>rw[q]at f;ext f
  |some p=>
   rw[q]at f a;let ex:=UI f;subst ex;let ev:(Y[p.2]?).join=S v:=UI a;let(g1,g2,g3):=N.mem p (Vj q);let ev2:Y[p.2]?=S (S v):=by
    cases z:Y[p.2]? with
    |none=>rw[z]at ev;ext ev
    |some y=>rw[z]at ev;show en S ev
   let(m0,_,hl):=I.loc;let(u,r,l):=hl p.2 p.1 v g1 ev2 (.inr g3);show#[u,r,?_];let l2:∃c,X.env.cells.lookup p.1=S c/\s.heap.IsCell c (S u):=by
    rcases l with⟨k,_⟩|⟨_,c,e,z⟩
    .let t:X.env.scope.names.lookup p.1=S .local:=k
     rcases g3 with z|z
     .rw[z]at t;ext t
     .rw[z]at t;ext t
    .show#[c,e,z]
   let(c,e,o,K,g):=l2;show .inr #[?_,c,?_,o,w c o K,g]
   .show iO g2
   .show(ud X scope C).lookup p.1=S c;ext ud;rw[EB _ _ _ _ λz=>by cases xK d g2 z];show wT (Wb g2) e
 .rcases h x c e with z|⟨z,_⟩
  .show F x c e z
  .let(v,o,K,g):=I.cell x c z;show#[v,o,w c o K,g]
 .show aW H D (.lst []) C=P;rw[ar T];show I.VF.fresh hC
 .show aW H D (.lst []) c=P
  rcases h x c e with z|⟨z1,z2⟩
  .rw[ar (VI (Xv j z))];show I.VF.fresh (Vb hC (X5 z))
  .rw[ar (UY (UT z2 E))];show I.Xt x c z1
 .show I.VF.laid w E #[by show 0<=UD;show Vm _,[],n,.nil,hd]
 .show(own.map (λ_=>(P:b4 V))++J.map λp=>(Y[p.2]?).join).length=(own++J.map (·.1)).length;simp
end
def v5(X:Cx)(e:G UW)(t:TT):Prop:=
 ∀(a:G (M×Obj)) (s:Uw) (b:St) (H:Hp) (Q:Bool->Hp->Prop),Inv X a b H s->t b H Q->
  wpAny (model X.prog X.w) X.A (forIn e R λc r=>if r=R then do let ok<-isTrue c X.env (eval c X.env);pure (ForInStep.yield ok)else pure (ForInStep.yield r)) (TP X a b Q) X.xe s
def Fo:TT:=λ_ H Q=>Q R H
theorem wQ:v5 X [] Fo:=λ_ _ _ H _ I h=>wpAny_tests_nil #[H,I,h]
theorem Cw(h:PT X c o):v5 X [c] o:=λa s b H Q I e=>wpAny_tests_one (h a s b H Q I e)
def C2(J:It)(D:M)(e:St)(g:TG)(j:TT)(c:TE)(n:Hp)(Fin:Hp->Prop):Prop:=
 ∃W:Nat->Nat->St->Hp->Prop,(∃m,W 0 m e (aW n D (.lst [])))/\∀i m σ H,W i m σ H->
  (J.stop i H/\Fin H)\/(J.go i H/\∃N:St->Hp->Prop,(∀o p,N o p->∃q,q<m/\W (i+1) q o p)/\
   ∀x p,J.yld i H x p->g x σ p λa l=>j a l λb h=>if b=R then c a h λy f=>∃ys,f D=S (.lst ys)/\ys.length<UD/\N a (aW f D (.lst (ys++[y])))else N a h)
section
variable{Y:UR}{w:Va}{A:U4}{s:Uw}
def BN{i o f:UW}{g:b3 UW}{b:Wd}{j:Pos}{it acc:U}{env:Env}{R:aau->Uw->Prop}{XE:U->Uw->Prop}(B:∀x s1,XE x s1->notedBy (model Y w) A env (λe s2=>R (.error e) s2) x s1)(I:Nat->Uw->Prop)
  (turn:∀n s,I n s->wpAny (model Y w) A (pyNext it) (λr s1=>match r with
   |none=>R (.ok .next) s1
   |some v=>wpAny (model Y w) A (letOwnedTupleGo o it v) (λ_ s2=>wpAny (model Y w) A (assign o env v) (λ_ s3=>
     wpAny (model Y w) A (forIn g Uq λc r=>if r=Uq then do let ok<-isTrue c env (eval c env);pure (ForInStep.yield ok)else pure (ForInStep.yield r)) (λok s4=>
      if ok=Uq then wpAny (model Y w) A (eval i env) (λx s5=>
       wpAny (model Y w) A (call (.builtin "list.append") [acc,x]) (λ_ d=>∃m,m<n/\I m d) (λ_ _=>False) s5) XE s4
      else∃m,m<n/\I m s4) (λ_ _=>False) s3) (λ_ _=>False) s2) (λ_ _=>False) s1) (λ_ _=>False) s)
  (n:Nat) (h:I n s):codeAny (model Y w) A (.compLoop (.ListComp i [#[o,f,g,0]] b j) 0 it acc env) R s:=by
 show codeAny_loop W I (λn s C=>?_) n h;show wpAny _ A (Sem.onRaise (compTurn (.ListComp i [#[o,f,g,0]] b j) 0 it acc env) (λx=>do noteFrame x env;theTreesLotGoes x)) _ _ s;show wpAny_noted ?_;rw[compTurn_list]
 let l:∀{α:Type} {t:Sem α} {Q y:α->Uw->Prop} {E:U->Uw->Prop} {s:Uw},wpAny (model Y w) A t Q (λ_ _=>False) s->(∀a J,Q a J->y a J)->wpAny (model Y w) A t y E s:=
  λp q=>wpAny_mono p q λ_ _ z=>False.elim z
 show Ld (WI (Ld (l (turn n s C) λr s1 p=>?_)));cases r with
 |none=>show UB p
 |some v=>
  show Ld (l p λ_ s2 q=>Ld (l q λ_ s3 H=>Ld (l H λok s4 u=>?_)));cases ok with
  |false=>show UB #[W,u]
  |true=>show Ld (Ld (wpAny_mono u (λx s5 G=>Ld (l G λ_ d F=>UB (UB #[W,F]))) B))
end
section
variable{X:Cx}{Z:b3 (Uu×Obj)}{Y:St}{H:Hp}{s:Uw}
def uz
  (h:Q (newEnv scope s.heap.objs.size globals (Wo (s.heap.objs.size+1) scope.names closure) qual P .none (S env) builtinsNs) {s with heap:=pushCells (s.heap.push {cls:=.type "dict",data:=.dict #v[]}) scope.names}):
  wpAny g f (newFunctionEnv scope globals closure [] qual P .none (S env)) Q E s:=by
 simp only[newFunctionEnv,abZ,if_true];show Ld (wpAny_alloc ?_);show Ld (wpAny_layCells _ (λe a b=>by cases i:a==UQ.cell<;>simp[i]) _ _ _ _ ?_);rw[show({s with heap:=s.heap.push {cls:=.type "dict",data:=.dict #v[]}}:Uw).heap.objs.size=s.heap.objs.size+1 from dN ..];rw[Y1];show Ld (UB (UB h))
def kF{O tg l:UW}{B:b3 UW}{scope:Wd}{pos:Pos}{own:b3 Str}{fv:b3 (Str×Nat)}{g:TG}{tc:TT}{te:TE}{E:CL->Uw->Prop}{it:Uu}{k:b3 Uu}{U:Nat->Heap->Prop}{J:It}{Fin:Uu->Hp->Prop}
  {RR:CL->Uu->aau->Uw->Prop} (I:Inv X Z Y H s) (hc:X.calm=Uq) (XG:scope.kind=.function) (hnd:(scope.names.map (·.1)).Nodup) (hfr:∀y∈scope.names,y.2=.free->∃c,X.env.cells.lookup y.1=cL c) (hfv:aaj X scope fv)
  (T:Turn X.prog X.w X.K tg J k it U) (st:U 0 s.heap) (G:∀b∈k,lO X Z H b)
  (hg:∀C,PG (bh X s H scope C (cj own fv) k) tg g) (ht:∀C,v5 (bh X s H scope C (cj own fv) k) B tc) {W:Uu->CL->Uw->Prop} (he:∀C,PE ((bh X s H scope C (cj own fv) k).Yb (W C)) O te) (hEE:∀D C x s1,s.heap.objs.size<=C->W C x s1->notedBy (model X.prog X.w) X.A (compEnvC scope (ud X scope C) C X.env) (λe s2=>RR (.ref D) C (.error e) s2) x s1)
  (hR:∀D,H D=Uo->C2 J D (gU own fv Y) g tc te H (Fin D))
  (hRR:∀D C V s',Inv X Z Y V s'->Fin D V->(∃m,s'.heap.Ns C m)->s.heap.objs.size<=C->V C=Uo->RR (.ref D) C (.ok .next) s'):
  wpAny (model X.prog X.w) X.A (newList []) (λacc s3=>wpAny (model X.prog X.w) X.A (newFunctionEnv scope X.env.globals (fL X.env scope.names []) [] X.env.qual Uo .none (cL X.env)) (λabT s4=>
   codeAny (model X.prog X.w) X.A (.compStart (.ListComp O [#[tg,l,B,0]] scope pos) 0 (.ref it) acc {abT with scope:=relabel scope X.env}) (RR acc abT.locals) s4) E s3) E s:=by
 show We ?_;generalize hH2:s.heap.push {cls:=.type "list",dict:=Uo,data:=.seq ([]:b3 CL).toArray}=h2;let hz:h2.objs.size=s.heap.objs.size+1:=by rw[<-hH2,dN]
 show uz (s:={s with heap:=h2}) ?_;let L:s.heap.objs.size<h2.objs.size:=by rw[hz];show XI _
 let hC:s.heap.objs.size<=h2.objs.size:=X5 L;generalize hH1:pushCells (h2.push {cls:=.type "dict",data:=.dict #v[]}) scope.names=h1;let kp2:∀b o,h2.get? b=cL o->h1.get? b=cL o:=λb o e=>by rw[<-hH1];show aaW _ _ b o (ck _ e)
 let kp:∀b o,s.heap.get? b=cL o->h1.get? b=cL o:=λb o e=>kp2 b o (by rw[<-hH2];show ck _ e);let hns:h1.Ns h2.objs.size (λ_=>Uo):=by rw[<-hH1];show(Heap.Ns.new h2 (.type "dict")).keeps (aaW _ _)
 let hoc:∀x c,(ud X scope h2.objs.size).lookup x=cL c->h2.objs.size<c->∃v,h1.IsCell c v:=λx c e X3=>by
  let e':(Wo (h2.push {cls:=.type "dict",data:=.dict #v[]}).objs.size scope.names (fL X.env scope.names [])).lookup x=cL c:=by rw[dN];show e
  rcases oy _ _ _ x c e' with⟨_,z⟩|z
  .show#[Uo,by rw[<-hH1];show z]
  .show bg (Xv (si I z).2 (Xv L X3)) (VN _)
 let hd:∃n,h1.get? s.heap.objs.size=cL {cls:=.type "list",data:=.seq #v[] n}:=#[0,kp2 _ _ (by rw[<-hH2];show cv _ rfl)];let F:∀b∈k,b<s.heap.objs.size:=λb f=>by let(o,e,_):=T.obj 0 _ st b f;show cn e
 let hn:H s.heap.objs.size=Uo:=I.VF.fresh (UC _);let(W,(m0,w0),turn):=hR s.heap.objs.size hn;let M:∀{pl:b3 (Uu×Obj)} {V:Hp},(∀b∈k,V b=Uo)->(∀p∈pl,p.1∉k)->∀b∈k,lO (bh X s H scope h2.objs.size (cj own fv) k) pl V b:=λ{pl V} hn' ZD b f=>by let ok:=Af (C:=h2.objs.size) (N:=cj own fv) I XG hnd hfr hC G F;show#[hn' b f,(ok.exf b f).1,ok.aa1 b f,.inl f,(ok.exf b f).2,λp hp=>by let hp':p∈([]:b3 (Uu×Obj))++pl:=hp;intro z;show ZD p (by simpa using hp') (by rw[z];show f)]
 let j:∀s4:Uw,s4={s with heap:=h1}->
   codeAny (model X.prog X.w) X.A (.compLoop (.ListComp O [#[tg,l,B,0]] scope pos) 0 (.ref it) (.ref s.heap.objs.size) (compEnvC scope (ud X scope h2.objs.size) h2.objs.size X.env)) (RR (.ref s.heap.objs.size) h2.objs.size) s4:=by
  rintro s4 rfl
  let I0:Inv (bh X s H scope h2.objs.size (cj own fv) k) [] (gU own fv Y) (aW H s.heap.objs.size (.lst [])) {s with heap:=h1}:=
   Ed I XG hnd hfr hfv (UC _) L hC G F hns hoc kp hd
  let st0:U 0 h1:=T.keep 0 _ _ st λb _ o e=>kp b o e;let fr0:∀b∈k,(aW H s.heap.objs.size (.lst [])) b=Uo:=λb f=>by rw[ar (UY (F b f))];show(G b f).1
  show BN (λx s1 z=>hEE _ _ x s1 hC z) (λn s'=>∃i σ' V,Inv (bh X s H scope h2.objs.size (cj own fv) k) [] σ' V s'/\U i s'.heap/\(∀b∈k,V b=Uo)/\W i n σ' V) ?_ m0 #[0,_,_,I0,st0,fr0,w0];rintro n s5 ⟨i,h,H5,I5,st5,fr5,w5⟩;rcases turn i n h H5 w5 with⟨stop,fin⟩|⟨go,N,hN,step⟩
  .show bW (T.done (bh X s H scope h2.objs.size (cj own fv) k) rfl rfl rfl hc i [] s5 h H5 (λ_ _=>False) I5 (M fr5 (by simp)) st5 stop) λr s6 #[hr,K]=>?_;subst hr;let(mm,hm,_):=K.loc;show hRR _ _ H5 s6 ?_ fin #[mm,hm] hC K.free;show I.aa8 (ch:=k) K.os K.base K.VF K.bare λb f=>#[(G b f).2.2.2.1,(G b f).2.1,(G b f).2.2.2.2.1,(G b f).2.2.2.2.2]
  .show bW (T.item (bh X s H scope h2.objs.size (cj own fv) k) rfl rfl rfl hc i [] s5 h H5 (λ_ _=>False) I5 (M fr5 (by simp)) st5 go) λr s6 #[u,hr,h6]=>?_
   subst hr;show bW h6 λ_ s7 a=>?_;let(x,H7,I7,r7,y7,t,fr7):=a;let I7':=I7.pinned (fp:=k) (M fr7 (by simp)) (T.obj _ _ t);let q:∀{a:St} {w:Hp} {Q:Uw},Inv (bh X s H scope h2.objs.size (cj own fv) k) ([]++ot k s7.heap) a w Q->N a w->∃m,m<n/\∃i σ' V,Inv (bh X s H scope h2.objs.size (cj own fv) k) [] σ' V Q/\U i Q.heap/\(∀b∈k,V b=Uo)/\W i m σ' V:=λ{a w Q} I8 n8=>by let(m',hm,w8):=hN a w n8;show#[m',hm,i+1,a,w,I8.Zk,T.keep _ _ _ t λb f o e=>(I8.pin (b,o) (Vw _ (Vw _ (iL f e)))).1,λb f=>?_,w8];let(o,e,d):=T.obj _ _ t b f;show(I8.pin (b,o) (Vw _ (Vw _ (iL f e)))).2.1
   show bW (hg _ _ s7 h H7 x u _ I7' r7 (step x H7 y7)) λ_ Q a=>?_;let(a,w,I8,q8):=a;show bW (ht _ _ Q a w _ I8 q8) λok s9 a=>?_;let(H9,I9,q9):=a;cases ok with
   |false=>rw[a4 UH]at q9⊢;show q I9 q9
   |true=>rw[ax rfl]at q9⊢;show bW (he _ _ s9 a H9 _ (I9.Yb _) q9) λy s10 a=>?_;let(S1,H10,aiI,r10,ys,hy,hl,q10):=a;let I10:=aiI.XQ;show bW (lU _ s10 a H10 (.ref s.heap.objs.size) [S1] (.ref s.heap.objs.size) [y] (λ_ H11=>N a H11) I10 rfl (.cons r10 .nil) #[_,ys,S1,rfl,rfl,hy,hl,q10]) λ_ s11 a=>?_;let(v11,H11,I11,_,q11):=a;show q I11 q11
 show codeAny_compStart_list (j _ rfl) (T.self _ 0 _ _ _ (T.keep 0 _ _ st λb _ o e=>kp b o e) (j _ rfl))
def mM(own:G Str)(d:G (Str×Nat))(b:TI)(g:TG)(e:TT)(c:TE):TE:=λY H Q=>b Y H λJ a=>∀D,a D=P->C2 J D (gU own d Y) g e c a λf=>Q (.ref D) f
theorem jz{a:Wd}(ok:X.Ok)(h:∀y∈a.names,y.2=.free->(X.env.scope.names.lookup y.1=S .cell\/X.env.scope.names.lookup y.1=S .free)):∀y∈a.names,y.2=.free->∃c,X.env.cells.lookup y.1=S c:=
 λy b e=>ok.has y.1 (h y b e)
theorem EE{a sc:Wd}(h:(a.names.all λy=> !(y.2==UQ.free)||(sc.names.lookup y.1==S UQ.cell)||(sc.names.lookup y.1==S UQ.free))=R):
  ∀y∈a.names,y.2=.free->(sc.names.lookup y.1=S .cell\/sc.names.lookup y.1=S .free):=λy b e=>by
 let q:=VP.mp h y b;rw[e]at q
 simpa using q
def yU{elt d iter:UW}{ifs:G UW}{scope:Wd}{pos:Pos}(own:G Str)(c:G (Str×Nat)){r:TI}{g:TG}{u:TT}{t:TE}(V:X.calm=Uq)(N:PI X d iter r)
  (O:∀s H C a,PG (bh X s H scope C (cj own c) a) d g) (F:∀s H C a,v5 (bh X s H scope C (cj own c) a) ifs u) (he:∀s H C a,PE (bh X s H scope C (cj own c) a) elt t) (l:aaj X scope c)
  (n:(scope.names.all λy=> !(y.2==UQ.free)||(X.env.scope.names.lookup y.1==S UQ.cell)||(X.env.scope.names.lookup y.1==S UQ.free))=Uq)
  (v:scope.kind=.function:=by rfl) (k:(scope.names.map (·.1)).Nodup:=by left)
  (ZY:∀y∈scope.names,y.2=.local->scope.names.lookup y.1=S .local:=by left) (K:∀x,foldedSetIterable iter X.env x=pure x:=by intro _;rfl):
  PE X (.ListComp elt [#[d,iter,ifs,0]] scope pos) (mM own c r g u t):=by
 intro Z s Y H Q I h;let f:=EE n;rw[aj3];show YI (use:=P) rfl K (km (jz I.ok f)) v ZY (bW (N Z s Y H _ I h) λxv s1 h1=>bW h1 λE s2 h2=>?_);let(it,a,tn,J,H2,e,w,T,i,f2,R):=h2;subst e;show kF w V v k (jz I.ok f) l T i f2 (λC=>O _ _ C _) (λC=>F _ _ C _) (W:=λ_ _ _=>False) (λC=>he _ _ C _) (λ_ _ _ _ _ z=>z.elim) (Fin:=λD p=>Q (.ref D) p) R ?_;intro D C p B I' fin hm hC L;let(m,hm):=hm;show#[m,hm,λh' j=>#[.ref D,p,?_,rfl,fin]];let(f0,f1,_,f3,f4,f5):=w.aaK hC L;show I'.turned (t':=B.toks) (λb o hb q=>(j.2 b hb).trans q) f0 f1 f3 f4 f5
def Ip{elt d iter:UW}{ifs:G UW}{scope:Wd}{pos k py:Pos}{i:Nat}{x:Str}(own:G Str)(j:G (Str×Nat)){O:TI}{g:TG}{tc:TT}{V:TE}(hN:X.N.Nodup)(w:X.N[i]?=S x)(hx:X.env.scope.names.lookup x=S .local)
  (hc:X.calm=Uq) (hi:PI X d iter O)
  (hg:∀s H C c,PG (bh X s H scope C (cj own j) c) d g) (ht:∀s H C c,v5 (bh X s H scope C (cj own j) c) ifs tc) (he:∀s H C c,PE (bh X s H scope C (cj own j) c) elt V) (B:aaj X scope j)
  (F:(scope.names.all λy=> !(y.2==UQ.free)||(X.env.scope.names.lookup y.1==S UQ.cell)||(X.env.scope.names.lookup y.1==S UQ.free))=Uq)
  (r:WO (.ListComp elt [#[d,iter,ifs,0]] scope pos) (S (.Name x py)) k.line X.env=pure Uq:=by rfl)
  (XG:scope.kind=.function:=by rfl) (u:(scope.names.map (·.1)).Nodup:=by left)
  (ZY:∀y∈scope.names,y.2=.local->scope.names.lookup y.1=S .local:=by left) (hs:∀x,foldedSetIterable iter X.env x=pure x:=by intro _;rfl):
  PS X (.Assign [.Name x py] (.ListComp elt [#[d,iter,ifs,0]] scope pos) k) (xt (mM own j O g tc V) (kY i)):=by
 intro Z s Y H D I h;let f:=EE F;rw[exec_Assign_Name_used _ _ _ _ r];show Ld (WI (Ld ?_));show wpAny _ _ (do let _<-comprehension (.ListComp elt [#[d,iter,ifs,0]] scope pos) scope X.env _ (newList []) A (eval iter X.env) (S (assign (.Name x py) X.env))) _ _ s;show Ld (bW (YI (use:=S (assign (.Name x py) X.env)) (Q:=λ_ l=>SP X Z D .next l) rfl hs (km (jz I.ok f)) XG ZY
  (bW (hi Z s Y H _ I h) λxv s1 h1=>bW h1 λitv s2 h2=>?_)) λ_ l q=>UB (UB q))
 let(it,c,tn,J,H2,e,I2,T,n,f2,R):=h2;subst e;show kF I2 hc XG u (jz I.ok f) B T n f2 (λC=>hg _ _ C _) (λC=>ht _ _ C _) (W:=λ_ _ _=>False) (λC=>he _ _ C _) (λ_ _ _ _ _ z=>z.elim) (Fin:=λL N=>D.nx (Y.set i (S (.ref L))) N) R ?_;intro L C N l I' fin hm hC hn;let(m,hm):=hm;let(f0,f1,f2',f3,f4,f5):=I2.aaK hC hn;show wpAny _ _ (assign (.Name x py) X.env (.ref L)) _ _ l;show afh (rL I' hN w (.inl hx) (v:=.ref L) rfl (λp K #[a,sb,ha]=>?_) (.inr hx));let E:C≠a:=by
  rcases ha with z|z
  .rw[z];show f1
  .show λq=>f4 x a z q.symm
 show#[m,hm.sameBut sb E,λh' t=>#[_,N,?_,fin]];show K.turned (t':=p.toks) (λb o hb q=>(t.2 b hb).trans q) f0 f1 f3 f4 f5
end
def oX(P:UR)(w:Va)(K:lD)(c:Str->z U)(base:Heap)(k:Nat)(x:Str)(b:G Str)(sp:Sp):Prop:=
 ∃(f:M) (a:Vv),FnOk P w K c base jD k f a b sp/\Binds K a b []/\V4 K (.ref f)=R/\c x=S (.ref f)
def pd(C:oX X.prog X.w X.K X.mg X.base k x I sp)(i:Wl j X.A)(c:PA X (e::es) t)(a:k<=j:=by decide)(l:Gl X x:=by rfl)
  (g:(x==("__debug__":Str))=A:=by decide) (n:UO (e::es) X.env=(A,eval e X.env)::UO es X.env:=by rfl) (o:(backTo pos (UO es X.env)).any (·.1)=A:=by rfl):
  PE X (.Call (.Name x p) (e::es) [] pos) (jp sp [] E0 t):=by
 let(f,q,F,b,h,m):=C;show zV F (i.mono a) l m h b .nil Dn c g n o
section
variable{Z:St}{H:Hp}{Q:VK}{D:Ends}
theorem MN(h:t {D with nx:=u D} Z H):CD t u D Z H:=h
theorem Oo(h:o Z H λx H1=>g x Z H1 D.nx):xt o g D Z H:=h
theorem IE{Q:St->Hp->Prop}(h:Q (Z.set i (S v)) H):kY i v Z H Q:=h
theorem ST(h:Q v H):tC v Z H Q:=h
theorem RE(h:C Z H λx H1=>o Z H1 λy a=>r x y a Q):D7 r C o Z H Q:=h
theorem Qy(c:yr x y=R)(h:Q (.bl (decide (x=y))) H):Tq x y H Q:=#[c,h]
theorem Pc(h:o Z H D.rt):DJ o D Z H:=h
theorem KJ(h:o Z H λ_ H1=>D.nx Z H1):sg o D Z H:=h
theorem NG(h:c Z H λb H1=>if b=R then t D Z H1 else u D Z H1):Ek c t u D Z H:=h
theorem Iq(h:D.nx Z H):za D Z H:=h
theorem SR{Q:Bool->Hp->Prop}(h:t Z H λx a=>∃k,x=.bl k/\Q k a):tB t Z H Q:=h
theorem Rv{Q:Bool->Prop}(h:Q b):∃k,V.bl b=.bl k/\Q k:=#[b,W,h]
theorem Qi{Q:Bool->Hp->Prop}(h:t Z H λc H1=>if c=R then Q R H1 else u Z H1 Q):RY t u Z H Q:=h
theorem Pr{Q:Bool->Hp->Prop}(h:t Z H λc H1=>Q (!c) H1):HW t Z H Q:=h
theorem JR(h:C Z H λx H1=>∃c,x=.bl c/\if c=R then o Z H1 Q else Q (.bl A) H1):zk C o Z H Q:=h
theorem HA(h:o Z H λx H1=>∃c,x=.bl c/\Q (.bl (!c)) H1):Lm o Z H Q:=h
theorem No{Q:G V->Hp->Prop}(h:Q [] H):iq Z H Q:=h
theorem IM{Q:G V->Hp->Prop}(h:o Z H λx H1=>tr Z H1 λxs a=>Q (x::xs) a):eO o tr Z H Q:=h
theorem Qg(h:t Z H λa H1=>r a H1 Q):zP r t Z H Q:=h
theorem Io(h:t Z H λa H1=>sp (a++[]) H1 Q E):jp sp [] E t Z H Q:=h
theorem Oj(h:t Z H λxs H1=>xs.length<=UD/\∀p,H1 p=P->Q (.ref p) (aW H1 p (.tup xs))):Gz t Z H Q:=h
end
def Ov{α:Type}{xs:G α}{i:Int}{v:α}(a:0<=i)(h:xs[i.toNat]?=S v):jS xs i=S v:=by let q:=AE h;rwa [Zg a]at q
def VZ.tup{K:lD}(e:VZ H H')(h:Yt K H a xs):Yt K H' a xs:=by
 rcases h with(h|⟨o,h⟩)|h
 .show .inl (.inl (e _ _ h))
 .show .inl (.inr #[o,e _ _ h])
 .show .inr h
theorem bj(h:H p=P)(o:HO):VZ H (aW H p o):=λb u q=>by rw[ar (bC q h)];show q
def Ml:Vl "max"=S (.builtin "max"):=by left
def cR:Vl "isinstance"=S (.builtin "isinstance"):=by left
def QO:Vl "len"=S (.builtin "len"):=by left
def vY:Vl "sorted"=S (.builtin "sorted"):=by left
def Rc:Vl "all"=S (.builtin "all"):=by left
def Qh:Vl "int"=S (.type "int"):=by left
def Nc:Vl "bool"=S (.type "bool"):=by left
def D8:Vl "list"=S (.type "list"):=by left
def G4:Vl "tuple"=S (.type "tuple"):=by left
section
variable{X:Cx}
def vZ:WM X (.builtin "sorted") (λxs H Q=>∃(p:M) (g:b3 Int),xs=[.ref p]/\Ys X.K H p (g.map V.int)/\g.length<64/\∀(l:M) (a:b3 Int),H l=P->a.Perm g->a.Pairwise (·<=·)->Q (.ref l) (aW H l (.lst (a.map V.int)))):=by
 intro j s E H xs F Q I r h;let(p,g,rfl,v,A,q):=h;let(u,rfl,n):=j4 r;ext n;let(C,K,pl,J):=I.list v;let w:=K.length;rw[Us]at w;show sorted_ints pl.isList (kH K) () λf a L m t=>?_;let(e,y):=sortedAll_at s.heap C f;let i:a.length=g.length:=m.length_eq;let B:f.toList.length=a.length:=L.length;show#[.ref (s.heap.objs.size+1),_,I.laid (t':=s.toks) (o:=.lst (a.map V.int)) (λb G z=>sortedAll_old z) (Z5 _) ?_,W,q _ a (I.VF.fresh (Z5 _)) m t];show#[?_,f.toList,e,ib L,y];rw[Us,i];let:(64:Nat)<=UD:=by decide
 ext
end
end L2
namespace L3
open PySem L2
abbrev D:=Uv
inductive PV where
 |fz (d:D)
 |ow (ds:G D)
 |pl (i:Nat)
abbrev aL:=G (z PV)
structure Xc where
 cls:Str
 fs:G (Str×D)
inductive Res(α:Type) where
 |ok (a:α)
 |er (x:Xc)
 |bad
namespace Res
def bind(r:Res α)(f:α->Res β):Res β:=match r with
 |.ok a=>f a
 |.er x=>.er x
 |.bad=>.bad
def Vu:z α->Res α
 |some a=>.ok a
 |none=>.bad
theorem bind_ok(a:α)(f:α->Res β):(Res.ok a).bind f=f a:=W
end Res
abbrev ey:=@Res.bind_ok
abbrev bE:=M->Prop
def bF(O:bE)(p:M):bE:=λb=>O b\/b=p
def CZ(O:bE)(p:M):bE:=λb=>O b/\b≠p
def noO:bE:=λ_=>False
def Ev(O:bE)(H:Hp)(a:bE)(c:Hp):Prop:=∀b o,H b=S o->¬O b->c b=S o/\¬a b
theorem Ev.refl:Ev O H O H:=λ_ _ h n=>#[h,n]
theorem Ev.trans(a:Ev O H O1 H1)(b:Ev O1 H1 O2 H2):Ev O H O2 H2:=λp o h n=>let#[h1,e]:=a p o h n;b p o h1 e
theorem Ev.grow(s:VZ H H'):Ev O H O H':=λb o h n=>#[s b o h,n]
theorem Ev.add(s:VZ H H')(a:H p=P):Ev O H (bF O p) H':=λb o h n=>#[s b o h,λz=>z.elim n λe=>by simp_all]
theorem Ev.sub(h:∀b,O' b->O b):Ev O H O' H:=λb o e n=>#[e,λz=>n (h b z)]
theorem Ev.mut(a:O p)(u:HO):Ev O H O (aW H p u):=λb o h n=>#[by rw[ar (λe=>n (by simp_all))];show h,n]
def X7(K:lD)(H:Hp)(a:M)(xs:G V):Prop:=Rd H a (.lst xs)\/∃(b:G U) (n:Nat),K.lookup a=S {cls:=.type "list",data:=.seq b.toArray n}/\xs.length<=UD/\Vals xs b
def X7.sq(h:X7 K H a xs):Ys K H a xs:=by
 rcases h with h|⟨f,n,h1,e,b⟩
 .show .inl h
 .show .inr #[_,f.toArray,n,h1,W,W,W,by rw[US,<-b.length];show e,by ext]
theorem X7.of(h:H a=S (.lst xs)):X7 K H a xs:=.inl (.inl h)
def X7.same(e:VZ H H')(h:X7 K H a xs):X7 K H' a xs:=by
 rcases h with(h|⟨o,h⟩)|h
 .show .inl (.inl (e _ _ h))
 .show .inl (.inr #[o,e _ _ h])
 .show .inr h
theorem jH(H:Hp):VZ (λ_=>P) H:=λ_ _ h=>by ext h
def ZK(O:bE)(K:lD)(H:Hp)(a:M)(xs:G V):Prop:=X7 K H a xs/\(O a->X7 K (λ_=>P) a xs)
def YO(O:bE)(K:lD)(H:Hp)(a:M)(xs:G V):Prop:=Yt K H a xs/\(O a->Yt K (λ_=>P) a xs)
section
variable{O Z:bE}{K:lD}{H Y:Hp}{a:Uu}{X:b3 V}
def ZK.ev(h:ZK O K H a X)(e:Ev O H Z Y):ZK Z K Y a X:=by
 let(h,k):=h;by_cases z:O a
 .show#[X7.same (jH Y) (k z),λ_=>k z]
 .rcases h with(h|⟨o,h⟩)|h
  .let(f,b):=e a _ h z;show#[.inl (.inl f),λy=>bg y b]
  .let(f,b):=e a _ h z;show#[.inl (.inr #[o,f]),λy=>bg y b]
  .show#[.inr h,λ_=>.inr h]
def YO.ev(h:YO O K H a X)(e:Ev O H Z Y):YO Z K Y a X:=by
 let(h,k):=h;by_cases z:O a
 .show#[(jH Y).tup (k z),λ_=>k z]
 .rcases h with(h|⟨o,h⟩)|h
  .let(f,b):=e a _ h z;show#[.inl (.inl f),λy=>bg y b]
  .let(f,b):=e a _ h z;show#[.inl (.inr #[o,f]),λy=>bg y b]
  .show#[.inr h,λ_=>.inr h]
end
mutual
inductive DV(O:bE)(K:lD)(H:Hp):V->D->Prop
 |Wu:DV O K H .Wu .none
 |bl (b:Bool):DV O K H (.bl b) (.bool b)
 |int (i:Int):DV O K H (.int i) (.int i)
 |str (x:Str):DV O K H (.str x) (.str x)
 |tup {a:Uu} {xs:b3 V} {ds:b3 D}:YO O K H a xs->Wg O K H xs ds->DV O K H (.ref a) (.tuple ds)
 |lst {a:Uu} {xs:b3 V} {ds:b3 D}:ZK O K H a xs->Wg O K H xs ds->DV O K H (.ref a) (.list ds)
inductive Wg(O:bE)(K:lD)(H:Hp):b3 V->b3 D->Prop
 |nil:Wg O K H [] []
 |cons {v:V} {vs:b3 V} {d:D} {ds:b3 D}:DV O K H v d->Wg O K H vs ds->Wg O K H (v::vs) (d::ds)
end
section
variable{O Z:bE}{K:lD}{H H':Hp}
mutual
theorem DV.ev(e:Ev O H Z H'):∀{v:V} {d:D},DV O K H v d->DV Z K H' v d
 |_,_,.Wu=>.Wu
 |_,_,.bl b=>.bl b
 |_,_,.int i=>.int i
 |_,_,.str x=>.str x
 |_,_,.tup h hs=>.tup (h.ev e) (Wg.ev e hs)
 |_,_,.lst h hs=>.lst (h.ev e) (Wg.ev e hs)
theorem Wg.ev(e:Ev O H Z H'):∀{vs:b3 V} {ds:b3 D},Wg O K H vs ds->Wg Z K H' vs ds
 |_,_,.nil=>.nil
 |_,_,.cons h hs=>.cons (DV.ev e h) (Wg.ev e hs)
end
theorem Wg.length:∀{a:G V} {ds:G D},Wg O K H a ds->a.length=ds.length
 |_,_,.nil=>rfl
 |_,_,.cons _ t=>by rw[UJ,UJ,t.length]
theorem Wg.get:∀{c:G V} {ds:G D} {i:Nat} {d:D},Wg O K H c ds->ds[i]?=S d->∃v,c[i]?=S v/\DV O K H v d
 |_,_,_,_,.nil,e=>by simp at e
 |_,_,0,_,.cons h _,e=>by simp_all
 |_,_,i+1,d,.cons _ t,e=>by let(v,b,a):=Wg.get t (by simpa using e);simp_all
theorem Wg.adY:∀{c:G V} {ds:G D} {i:Nat} {v:V},Wg O K H c ds->c[i]?=S v->∃d,ds[i]?=S d/\DV O K H v d
 |_,_,_,_,.nil,e=>by simp at e
 |_,_,0,_,.cons h _,e=>by simp_all
 |_,_,i+1,v,.cons _ t,e=>by let(d,b,a):=Wg.adY t (by simpa using e);simp_all
theorem Wg.append:∀{a ws:G V} {ds es:G D},Wg O K H a ds->Wg O K H ws es->Wg O K H (a++ws) (ds++es)
 |_,_,_,_,.nil,h=>h
 |_,_,_,_,.cons h t,g=>.cons h (Wg.append t g)
theorem Wg.flat(h:Wg O K H vs ds):∀n:Nat,Wg O K H (UA n vs).flatten (UA n ds).flatten
 |0=>.nil
 |n+1=>by rw[VG,VG,Ww,Ww];show h.append (Wg.flat h n)
mutual
theorem DV.plain:∀{v:V} {d:D},DV O K H v d->L2.DV K H v d
 |_,_,.Wu=>.Wu
 |_,_,.bl b=>.bl b
 |_,_,.int i=>.int i
 |_,_,.str x=>.str x
 |_,_,.tup h hs=>.tup h.1 (Wg.plain hs)
 |_,_,.lst h hs=>.lst h.1.sq (Wg.plain hs)
theorem Wg.plain:∀{vs:b3 V} {ds:b3 D},Wg O K H vs ds->L2.Wg K H vs ds
 |_,_,.nil=>.nil
 |_,_,.cons h hs=>.cons (DV.plain h) (Wg.plain hs)
end
end
def DX(O:bE)(K:lD)(H:Hp)(v:V):D->Prop
 |.list ds=>∃a xs,v=.ref a/\X7 K H a xs/\Wg O K H xs ds
 |d=>DV O K H v d
def DV.x(h:DV O K H v d):DX O K H v d:=by
 cases h with
 |lst h a=>show#[_,_,W,h.1,a]
 |Wu=>show .Wu
 |bl b=>show .bl b
 |int i=>show .int i
 |str x=>show .str x
 |tup h a=>show .tup h a
def DX.plain(h:DX O K H v d):L2.DV K H v d:=by
 cases d with
 |list ds=>let(a,xs,rfl,f,e):=h;show .lst f.sq e.plain
 |none=>show DV.plain h
 |bool b=>show DV.plain h
 |int i=>show DV.plain h
 |str x=>show DV.plain h
 |tuple ds=>show DV.plain h
 |dict g=>show DV.plain h
def aaF(K:lD)(b:Hp)(O:bE)(H:Hp)(v:V):PV->Prop
 |.fz d=>DV O K H v d
 |.ow ds=>∃a e,v=.ref a/\O a/\b a=P/\H a=S (.lst e)/\Wg O K H e ds
 |.pl _=>False
structure Rl(K:lD)(B:bE)(H0:Hp)(O:bE)(σ:St)(H:Hp)(ρ:aL):Prop where
 same:VZ H0 H
 bo:∀a,B a->O a
 bd:∀a,B a->H0 a≠P
 od:∀a,H a=P->¬O a
 len:σ.length=ρ.length
 slot:∀(i:Nat) (x:PV),ρ[i]?=S (S x)->∃v,σ[i]?=S (S v)/\aaF K H0 O H v x
 one:∀(i j:Nat) (ds es:G D) (v:V),ρ[i]?=S (S (.ow ds))->ρ[j]?=S (S (.ow es))->σ[i]?=S (S v)->σ[j]?=S (S v)->i=j
def YN(K:lD)(e:Hp)(O:bE)(b:St)(H:Hp)(c:aL)(v:V):PV->Prop
 |.fz d=>DV O K H v d
 |.ow ds=>∃a f,v=.ref a/\O a/\e a=P/\H a=S (.lst f)/\Wg O K H f ds/\∀(i:Nat) (es:G D),c[i]?=S (S (.ow es))->b[i]?≠S (S (.ref a))
 |.pl i=>b[i]?=S (S v)
def jC:PV->Prop
 |.ow _=>False
 |_=>True
def dn:PV->PV
 |.ow ds=>.fz (.list ds)
 |p=>p
section
variable{K:lD}{B O X:bE}{Z H H':Hp}{Y:St}{ρ ρ':aL}{v:V}
def aaF.grow(s:VZ H H')(h:aaF K Z O H v x):aaF K Z O H' v x:=by
 cases x with
 |fz d=>show DV.ev (Ev.grow s) h
 |ow ds=>let(a,l,e,j,g,f,b):=h;show#[a,l,e,j,g,s _ _ f,b.ev (Ev.grow s)]
 |pl i=>show h
theorem Rl.grow(R:Rl K B Z O Y H ρ)(s:VZ H H'):Rl K B Z O Y H' ρ:=
 #[R.same.trans s,R.bo,R.bd,λa h=>R.od a (s.free h),R.len,λi x h=>let#[v,h1,b]:=R.slot i x h;#[v,h1,b.grow s],R.one]
theorem Rl.aer(R:Rl K B Z O Y H ρ)(h:H p=P):Z p=P:=R.same.free h
def Rl.add(R:Rl K B Z O Y H ρ)(s:VZ H H')(f:H p=P)(g:H' p≠P):Rl K B Z (bF O p) Y H' ρ:=by
 show#[R.same.trans s,λa h=>.inl (R.bo a h),R.bd,λa h z=>z.elim (R.od a (s.free h)) λe=>g (by simp_all),R.len,λi x h=>?_,R.one];let(v,j,b):=R.slot i x h;show#[v,j,?_];cases x with
 |fz d=>show DV.ev (Ev.add s f) b
 |ow ds=>let(a,q,e,o,n,m,l):=b;show#[a,q,e,.inl o,n,s _ _ m,l.ev (Ev.add s f)]
 |pl i=>show b
theorem Rl.adX(R:Rl K B Z O Y H ρ)(h:Z a=P):¬B a:=λz=>R.bd a z h
def Rl.sub(R:Rl K B Z O Y H ρ){a:M}(m:Z a=P)(h:∀(i:Nat) (es:G D),ρ[i]?=S (S (.ow es))->Y[i]?≠S (S (.ref a))):Rl K B Z (CZ O a) Y H ρ:=by
 show#[R.same,λb f=>#[R.bo b f,λe=>R.adX m (e▸f)],R.bd,λb f z=>R.od b f z.1,R.len,λi x j=>?_,R.one];let(v,l,g):=R.slot i x j;show#[v,l,?_];cases x with
 |fz d=>show DV.ev (Ev.sub λb z=>z.1) g
 |ow ds=>let(b,r,e,q,p,o,n):=g;subst e;show#[b,r,W,#[q,λe=>h i ds j (by rw[l,e])],p,o,n.ev (Ev.sub λb z=>z.1)]
 |pl i=>show g
theorem uD(h:H a=S (.lst o))(n:¬O a)(hd:Wg O K H o ds):DV O K H (.ref a) (.list ds):=.lst #[X7.of h,λz=>bg z n] hd
def jA{pv:PV}(R:Rl K B Z O Y H ρ)(h:YN K Z O Y H ρ v pv):∃X,Ev O H X H/\Rl K B Z X Y H ρ/\YN K Z X Y H ρ v (dn pv):=by
 cases pv with
 |fz d=>show#[O,.refl,R,h]
 |pl i=>show#[O,.refl,R,h]
 |ow ds=>let(a,m,rfl,l,j,g,f,e):=h;show#[CZ O a,Ev.sub λb z=>z.1,R.sub j e,uD g (λz=>z.2 W) (f.ev (Ev.sub λb z=>z.1))]
def sZ(pv:PV):jC (dn pv):=by ext pv<;>trivial
def YN.keep{pv:PV}(a:jC pv)(e:Ev O H X H')(h:YN K Z O Y H ρ v pv):YN K Z X Y H' ρ' v pv:=by
 cases pv with
 |fz d=>show DV.ev e h
 |pl i=>show h
 |ow ds=>show a.elim
def Tb:z (z PV)->z D
 |some (S (.fz d))=>S d
 |some (S (.ow ds))=>S (.list ds)
 |_=>P
def Cd(ρ:aL):PV->z D
 |.fz d=>S d
 |.ow ds=>S (.list ds)
 |.pl i=>Tb ρ[i]?
def sE{pv:PV}(R:Rl K B Z O Y H ρ)(h:YN K Z O Y H ρ v pv)(e:Cd ρ pv=S d):DX O K H v d:=by
 cases pv with
 |fz p=>ext e;show DV.x h
 |ow ds=>ext e;let(a,y,rfl,w,t,m,l,r):=h;show#[a,y,W,X7.of m,l]
 |pl i=>
  let b:Tb ρ[i]?=S d:=e;let n:=h;cases q:ρ[i]? with
  |none=>rw[q]at b;ext b
  |some o=>
   cases o with
   |none=>rw[q]at b;ext b
   |some x=>
    let(u,g,f):=R.slot i x q;rw[n]at g;ext g;rw[q]at b;cases x with
    |fz p=>ext b;show DV.x f
    |ow ds=>ext b;let(a,y,rfl,k1,k2,k3,k4):=f;show#[a,y,W,X7.of k3,k4]
    |pl j=>show f.elim
def S3(ρ:aL)(i:Nat):z (z PV)->z (D×aL)
 |some (S (.fz d))=>S (d,ρ)
 |some (S (.ow ds))=>S (.list ds,ρ.set i (S (.fz (.list ds))))
 |_=>P
def vo(ρ:aL):PV->z (D×aL)
 |.fz d=>S (d,ρ)
 |.ow ds=>S (.list ds,ρ)
 |.pl i=>S3 ρ i ρ[i]?
def bH{l:G α}(h:(l.set i x)[j]?=S y):(j=i/\y=x)\/(j≠i/\l[j]?=S y):=by
 rw[VH]at h;by_cases e:i=j
 .rw[ax e]at h
  split at h
  .ext h;show .inl #[e.symm,W]
  .ext h
 .rw[a4 e]at h;show .inr #[λz=>e z.symm,h]
def sK{pv:PV}(R:Rl K B Z O Y H ρ)(h:YN K Z O Y H ρ v pv)(e:vo ρ pv=cL (d,ρ')):∃X,Ev O H X H/\Rl K B Z X Y H ρ'/\DV X K H v d:=by
 cases pv with
 |fz T=>ext e;show#[O,.refl,R,h]
 |ow ds=>ext e;let(a,vs,rfl,h1,S,Q,P,N):=h;show#[CZ O a,Ev.sub λb z=>z.1,R.sub S N,uD Q (λz=>z.2 W) (P.ev (Ev.sub λb z=>z.1))]
 |pl i=>
  let f:S3 ρ i ρ[i]?=cL (d,ρ'):=e;let t:=h;cases q:ρ[i]? with
  |none=>rw[q]at f;ext f
  |some o=>
   cases o with
   |none=>rw[q]at f;ext f
   |some x=>
    let(u,C,y):=R.slot i x q;rw[t]at C;ext C;rw[q]at f;cases x with
    |fz T=>ext f;show#[O,.refl,R,y]
    |pl j=>show y.elim
    |ow ds=>
     ext f;let(a,vs,rfl,k1,k2,k3,k4):=y;let es:Ev O H (CZ O a) H:=Ev.sub λb z=>z.1;let E:=uD k3 (λz=>z.2 W) (k4.ev es);show#[CZ O a,es,#[R.same,λb m=>#[R.bo b m,λe=>R.adX k2 (e▸m)],R.bd,λb m z=>R.od b m z.1,by rw[Vy];show R.len,λj x l=>?_,λj k xs F w r p=>?_],E]
     .rcases bH l with⟨rfl,g⟩|⟨U,l⟩
      .ext g;show#[_,t,E]
      .let(u,A,n):=R.slot j x l
       show#[u,A,?_];cases x with
       |fz d=>show DV.ev es n
       |pl i=>show n
       |ow xs=>let(b,G,rfl,M,L,J,I):=n;show#[b,G,W,#[M,λz=>U (R.one j i xs ds (.ref a) l q (by rw[A,z]) t)],L,J,I.ev es]
     .rcases bH r with⟨rfl,g⟩|⟨_,r⟩
      .ext g
      .rcases bH p with⟨rfl,g⟩|⟨_,p⟩
       .ext g
       .show R.one j k xs F w r p
end
def XOk(K:lD)(B:bE)(H:Hp)(c:U)(b:z M)(x:Xc):Prop:=
 (∃a,c=.ref a/\UU K UL x.cls=S (S (.ref a)))/\∃fs,(∀p,b=S p->H p=S (.xd fs))/\∀f d,x.fs.lookup f=S d->b≠P/\∃v,fs.lookup f=S v/\DV B K H v d
def XE(K:lD)(B:bE)(a:Hp)(E:XK)(x:Xc):Prop:=∀c b H',VZ a H'->XOk K B H' c b x->E c b H'
def WR(K:lD)(E:XK)(B:bE)(b:Hp)(P:α->Prop):Res α->Prop
 |.ok a=>P a
 |.er x=>XE K B b E x
 |.bad=>False
section
variable{K:lD}{E:XK}{B:bE}{Z:Hp}
def WR.bind(h:WR K E B Z b (r.bind k)):WR K E B Z (λa=>WR K E B Z b (k a)) r:=by ext r<;>show h
def WR.Vu(h:WR K E B Z b ((Res.Vu o).bind k)):∃a,o=S a/\WR K E B Z b (k a):=by
 cases o with
 |none=>show h.elim
 |some a=>show#[a,W,h]
def WR.imp(h:WR K E B Z b r)(g:∀a,b a->P' a):WR K E B Z P' r:=by
 cases r with
 |ok a=>show g a h
 |er x=>show h
 |bad=>show h
end
abbrev FE:=aL->Res (PV×aL)
abbrev FT:=aL->Res (Bool×aL)
abbrev FA:=aL->Res (G PV×aL)
def EO(K:lD)(E:XK)(t:TE)(f:FE):Prop:=
 ∀(B:bE) (b:Hp) (O:bE) (a:St) (H:Hp) (g:aL) (Q:VK),Rl K B b O a H g->WR K E B b (λr=>∀e v H',Ev O H e H'->Rl K B b e a H' r.2->YN K b e a H' r.2 v r.1->Q v H') (f g)->t a H Q
def TTO(K:lD)(E:XK)(t:TT)(f:FT):Prop:=
 ∀(B:bE) (b:Hp) (O:bE) (a:St) (H:Hp) (e:aL) (Q:Bool->Hp->Prop),Rl K B b O a H e->WR K E B b (λr=>∀g H',Ev O H g H'->Rl K B b g a H' r.2->Q r.1 H') (f e)->t a H Q
def AO(K:lD)(E:XK)(t:TA)(f:FA):Prop:=
 ∀(B:bE) (b:Hp) (O:bE) (a:St) (H:Hp) (g:aL) (Q:G V->Hp->Prop),Rl K B b O a H g->WR K E B b (λr=>∀e h H',Ev O H e H'->Rl K B b e a H' r.2->Paired (λv pv=>YN K b e a H' r.2 v pv/\jC pv) h r.1->Q h H') (f g)->t a H Q
inductive RV where
 |fz (d:D)
 |ow (ds:G D)
def RV.pv:RV->PV
 |.fz d=>.fz d
 |.ow ds=>.ow ds
def Fin(O:bE)(K:lD)(H:Hp)(Q:VK):RV->Prop
 |.fz d=>∀v H',VZ H H'->DV O K H' v d->Q v H'
 |.ow ds=>∀p a H',VZ H H'->H p=P->H' p=S (.lst a)->Wg (bF O p) K H' a ds->Q (.ref p) H'
def kR(O:bE)(H:Hp):Prop:=∀a,H a=P->¬O a
section
variable{K:lD}{E:XK}{B O X:bE}{Y H H':Hp}{Z:St}{T ρ':aL}{v:V}
def qG(R:Rl K B Y O Z H T)(h:∀X v H',Ev O H X H'->Rl K B Y X Z H' T->YN K Y X Z H' T v C.pv->Q v H'):Fin O K H Q C:=by
 cases C with
 |fz d=>show λv H' s f=>h O v H' (Ev.grow s) (R.grow s) f
 |ow ds=>intro p q H' s b e f;show h (bF O p) (.ref p) H' (Ev.add s b) (R.add s b (by rw[e];simp)) #[p,q,W,.inr W,R.aer b,e,f,λi es r z=>?_];let(u,g,a,l,e2,o,n,j,m):=R.slot i _ r;rw[z]at g;ext g;ext e2;rw[b]at j;ext j
theorem Fin.new(hd:Wg O K H vs ds)(h:Fin O K H Q (.ow ds)):∀p,H p=P->Q (.ref p) (aW H p (.lst vs)):=λp a=>
 h p vs _ (bj a _) a av (hd.ev (Ev.add (bj a _) a))
theorem Fin.adS(hd:Wg O K H vs ds)(b:kR O H)(h:Fin O K H Q (.fz (.tuple ds))):∀p,H p=P->Q (.ref p) (aW H p (.tup vs)):=λp a=>
 h (.ref p) _ (bj a _) (.tup #[Yt.of av,λz=>bg z (b p a)] (hd.ev (Ev.grow (bj a _))))
theorem Fin.at(h:Fin O K H Q (.fz d))(a:DV O K H v d):Q v H:=h v H (VZ.refl H) a
def zB(T:aL)(i:Nat):z (z PV)->Res (PV×aL)
 |some (S (.fz d))=>.ok (.fz d,T)
 |some (S (.ow _))=>.ok (.pl i,T)
 |_=>.bad
def ad(i:Nat):FE:=λT=>zB T i T[i]?
def NT:EO K E (oK i) (ad i):=by
 intro B Y O Z H T Q R w;unfold ad at w;cases q:T[i]? with
 |none=>rw[q]at w;show w.elim
 |some o=>
  cases o with
  |none=>rw[q]at w;show w.elim
  |some x=>
   rw[q]at w;let(v,a,b):=R.slot i x q;cases x with
   |fz d=>show#[v,a,w O v H .refl R b]
   |ow ds=>show#[v,a,w O v H .refl R a]
   |pl j=>show w.elim
def pC(d:D):FE:=λT=>.ok (.fz d,T)
theorem C6(h:∀O H,DV O K H v d):EO K E (tC v) (pC d):=λB Y O Z H T Q R w=>w O v H .refl R (h O H)
theorem OT:EO K E (tC (.int i)) (pC (.int i)):=C6 λ_ _=>.int i
theorem Q6:EO K E (tC (.bl b)) (pC (.bool b)):=C6 λ_ _=>.bl b
theorem Mz:EO K E (tC (.str x)) (pC (.str x)):=C6 λ_ _=>.str x
theorem N3:EO K E (tC .Wu) (pC .none):=C6 λ_ _=>.Wu
def jL(K:lD)(r:R2)(f:D->D->z RV):Prop:=∀(O:bE) (H:Hp) (x y:V) (e a:D) (b:RV) (Q:VK),kR O H->DX O K H x e->DX O K H y a->f e a=S b->Fin O K H Q b->r x y H Q
def aG(f:D->D->z RV)(c e:FE):FE:=λT=>(c T).bind λa=>(e a.2).bind λb=>(Res.Vu (Cd b.2 (dn a.1))).bind λi=>(Res.Vu (Cd b.2 b.1)).bind λg=>(Res.Vu (f i g)).bind λh=>.ok (h.pv,b.2)
def Mh(t:jL K r f)(c:EO K E ta fa)(u:EO K E tb fb):EO K E (D7 r ta tb) (aG f fa fb):=by intro B Y O Z H T Q R w;show c B Y O Z H T _ R (w.bind.imp λa i N x M e1 C q=>?_);let(I,e2,R2,p):=jA C q;show u B Y I Z M a.2 _ R2 (i.bind.imp λb e G y L e3 g o=>?_);let h:=p.keep (sZ a.1) e3 (ρ':=b.2);let(dx,l,e):=e.Vu;let(z,j,e):=e.Vu;let(rv,m,e):=e.Vu;show t G L x y dx z rv Q g.od (sE g h l) (sE g o j) m (qG g λF v J e4 A n=>?_);show e F v J (e1.trans (e2.trans (e3.trans e4))) A n
def SI:D->z Bool
 |.bool b=>S b
 |_=>P
def Nl(h:DX O K H x d)(e:SI d=S b):x=.bl b:=by ext d<;>ext e;ext h;rfl
def aF(c:FE):aL->Res (Bool×aL):=λT=>(c T).bind λa=>(Res.Vu (Cd a.2 a.1)).bind λd=>(Res.Vu (SI d)).bind λb=>.ok (b,a.2)
def qI(c:EO K E o C):TTO K E (AI o) (aF C):=by intro B Y O Z H T Q R w;show c B Y O Z H T _ R (w.bind.imp λa e j x l e1 f i=>?_);let(d,g,e):=e.Vu;let(b,h,e):=e.Vu;show#[b,Nl (sE f i g) h,e j l e1 f]
theorem Rf(a:EO K E o C):TTO K E (tB o) (aF C):=qI a
def wU(c b:FT):FT:=λT=>(c T).bind λa=>if a.1=R then b a.2 else .ok (A,a.2)
def Ly(c b:FT):FT:=λT=>(c T).bind λa=>if a.1=R then .ok (R,a.2)else b a.2
theorem TTO.next(h:TTO K E t f)(R:Rl K B Y O1 Z H1 T)(e1:Ev O H O1 H1)(w:WR K E B Y (λr=>∀X H',Ev O H X H'->Rl K B Y X Z H' r.2->Q r.1 H') (f T)):t Z H1 Q:=
 h B Y O1 Z H1 T Q R (w.imp λr q X H' a b=>q X H' (e1.trans a) b)
theorem EO.next(h:EO K E t f)(R:Rl K B Y O1 Z H1 T)(e1:Ev O H O1 H1)(w:WR K E B Y (λr=>∀X v H',Ev O H X H'->Rl K B Y X Z H' r.2->YN K Y X Z H' r.2 v r.1->Q v H') (f T)):t Z H1 Q:=
 h B Y O1 Z H1 T Q R (w.imp λr q X v H' b e a=>q X v H' (e1.trans b) e a)
def Ky(l:TTO K E t f)(j:TTO K E u g):TTO K E (N0 t u) (wU f g):=by
 intro B Y O Z H T Q R w;show l B Y O Z H T _ R (w.bind.imp λa e m n e1 h=>?_);let(b,i):=a;cases b with
 |true=>show j.next h e1 e
 |false=>show e m n e1 h
def OB(l:TTO K E t f)(j:TTO K E u g):TTO K E (RY t u) (Ly f g):=by
 intro B Y O Z H T Q R w;show l B Y O Z H T _ R (w.bind.imp λa e m n e1 h=>?_);let(b,i):=a;cases b with
 |true=>show e m n e1 h
 |false=>show j.next h e1 e
def cN:FT:=λT=>.ok (R,T)
theorem GB:TTO K E Fo cN:=λB Y O Z H T Q R w=>w O H .refl R
def BT(c b:FE):FE:=λT=>(aF c T).bind λa=>if a.1=R then b a.2 else .ok (.fz (.bool A),a.2)
def Np(d:EO K E C I)(i:EO K E o fb):EO K E (zk C o) (BT I fb):=by
 intro B Y O Z H T Q R w;show qI d B Y O Z H T (λc e=>if c=Uq then o Z e Q else Q (.bl A) e) R (w.bind.imp λa f j e e1 g=>?_);let(b,h):=a;cases b with
 |true=>show i.next g e1 f
 |false=>show f j _ e e1 g (.bl A)
def aq:FA:=λT=>.ok ([],T)
def aa(c:FE)(e:FA):FA:=λT=>(c T).bind λa=>(e a.2).bind λb=>.ok (dn a.1::b.1,b.2)
theorem OE:AO K E iq aq:=λB Y O Z H T Q R w=>w O [] H .refl R .nil
def Jp(c:EO K E C I)(l:AO K E tr fr):AO K E (eO C tr) (aa I fr):=by intro B Y O Z H T Q R w;show c B Y O Z H T _ R (w.bind.imp λa g t x r e1 n j=>?_);let(p,e2,R2,i):=jA n j;show l B Y p Z r a.2 _ R2 (g.bind.imp λb f o e q e3 m h=>?_);show f o (x::e) q (e1.trans (e2.trans e3)) m (.cons #[i.keep (sZ a.1) e3,sZ a.1] h)
def vE(T:aL):G PV->z (G D)
 |[]=>S []
 |p::r=>match Cd T p with
  |some d=>(match vE T r with
   |some ds=>S (d::ds)
   |none=>P)
  |none=>P
theorem wZ(R:Rl K B Y O Z H T):∀{f:G V} {c:G PV} {ds:G D},Paired (λv pv=>YN K Y O Z H T v pv/\jC pv) f c->vE T c=S ds->Paired (DX O K H) f ds
 |_,_,_,.nil,e=>by ext e;show .nil
 |_,_,_,.cons (l₂:=c) (b:=p) h t,e=>by
  unfold vE at e;cases q:Cd T p with
  |none=>simp_all
  |some d=>
   rw[q]at e;dsimp only at e;cases g:vE T c with
   |none=>simp_all
   |some a=>rw[g]at e;ext e;show .cons (sE R h.1 q) (wZ R t g)
def nk(T:aL):G PV->z (G D×aL)
 |[]=>S ([],T)
 |p::r=>match vo T p with
  |some (d,b)=>(match nk b r with
   |some (ds,a)=>S (d::ds,a)
   |none=>P)
  |none=>P
theorem oZ:∀{k:G V} {c:G PV} {ds:G D} {O:bE} {T ρ':aL},Rl K B Y O Z H T->Paired (λv pv=>YN K Y O Z H T v pv/\jC pv) k c->nk T c=S (ds,ρ')->∃X,Ev O H X H/\Rl K B Y X Z H ρ'/\Wg X K H k ds
 |_,_,_,O,_,_,C,.nil,e=>by ext e;show#[O,.refl,C,.nil]
 |_,_,_,O,T,ρ',C,.cons (l₁:=k) (l₂:=c) (b:=p) h t,e=>by
  unfold nk at e;cases q:vo T p with
  |none=>simp_all
  |some r=>
   let(d,a):=r;rw[q]at e;dsimp only at e;cases I:nk a c with
   |none=>simp_all
   |some j=>let(m,g):=j;rw[I]at e;ext e;let(y,e1,u,o):=sK C h.1 q;let i:Paired (λv pv=>YN K Y y Z H a v pv/\jC pv) k c:=Paired.Yc t λv pv #[l,f]=>#[l.keep f e1,f];let(w,e2,R2,n):=oZ u i I;show#[w,e1.trans e2,R2,.cons (o.ev e2) n]
abbrev FN:=G D->Res RV
def Bh(K:lD)(n:Nat)(F:FN):Sp:=λb H Q E=>b.length=n/\∃(B:bE) (ds:G D),(∀a,B a->H a≠P)/\Wg B K H b ds/\WR K E B H (Fin B K H Q) (F ds)
def bG(c:FA):FE:=λT=>(c T).bind λa=>(Res.Vu (nk a.2 a.1)).bind λb=>if b.1.length<=1000 then .ok (.fz (.tuple b.1),b.2)else .bad
def cC(c:FA):FE:=λT=>(c T).bind λa=>(Res.Vu (nk a.2 a.1)).bind λb=>if b.1.length<=1000 then .ok (.ow b.1,b.2)else .bad
theorem yz(h:n<=1000):n<=UD:=Vb h ()
def OV(c:AO K E C I):EO K E (Gz C) (bG I):=by
 intro B Y O Z H T Q R w;show c B Y O Z H T _ R (w.bind.imp λa g p t r e1 l i=>?_);let((ds,f),q,b):=g.Vu;let(o,e2,R2,e):=oZ l i q;dsimp only at b;by_cases hn:ds.length<=1000
 .rw[ax hn]at b;show#[by rw[e.length];show yz hn,Fin.adS e R2.od (qG R2 λm v n e3 j h=>b m v n (e1.trans (e2.trans e3)) j h)]
 .rw[a4 hn]at b;show b.elim
def ND(c:AO K E C I):EO K E (Os C) (cC I):=by
 intro B Y O Z H T Q R w;show c B Y O Z H T _ R (w.bind.imp λa g p t r e1 l i=>?_);let((ds,f),q,b):=g.Vu;let(o,e2,R2,e):=oZ l i q;dsimp only at b;by_cases hn:ds.length<=1000
 .rw[ax hn]at b;show#[by rw[e.length];show yz hn,Fin.new e (qG R2 λm v n e3 j h=>b m v n (e1.trans (e2.trans e3)) j h)]
 .rw[a4 hn]at b;show b.elim
def B7(K:lD)(r:G V->Hp->VK->Prop)(f:G D->z RV):Prop:=∀(O:bE) (H:Hp) (xs:G V) (ds:G D) (a:RV) (Q:VK),kR O H->Paired (DX O K H) xs ds->f ds=S a->Fin O K H Q a->r xs H Q
def fG(f:G D->z RV)(c:FA):FE:=λT=>(c T).bind λa=>(Res.Vu (vE a.2 a.1)).bind λds=>(Res.Vu (f ds)).bind λb=>.ok (b.pv,a.2)
def LO(l:B7 K r f)(c:AO K E C I):EO K E (zP r C) (fG f I):=by intro B Y O Z H T Q R w;show c B Y O Z H T _ R (w.bind.imp λa g o u t e1 e j=>?_);let(ds,q,b):=g.Vu;let(y,h,b):=b.Vu;show l o t u ds y Q e.od (wZ e j q) h (qG e λn v p e4 m i=>b n v p (e1.trans e4) m i)
def Uj(K:lD)(r:V->z Int->z Int->Hp->VK->Prop)(f:D->z Int->z Int->z RV):Prop:=∀(O:bE) (H:Hp) (x:V) (lo b:z Int) (e:D) (a:RV) (Q:VK),kR O H->DX O K H x e->f e lo b=S a->Fin O K H Q a->r x lo b H Q
end
def uI{l:G α}(h:(l.set i x)[i]?=S y):i<l.length:=by
 rw[VH]at h;rw[ax W]at h;split at h
 .assumption
 .ext h
section
variable{K:lD}{E:XK}{B O U:bE}{Z H H':Hp}{Y:St}{ρ ρ':aL}{v:V}
def Rl.mut{i:Nat}{ds g:b3 D}{a:Uu}{f:b3 V}(R:Rl K B Z O Y H ρ)(c:ρ[i]?=cL (cL (.ow ds)))(I:Y[i]?=cL (cL (.ref a)))(J:O a)(L:Z a=Uo)(hd:Wg O K H f g):
  Rl K B Z O Y (aW H a (.lst f)) (ρ.set i (cL (.ow g))):=by
 let ev:Ev O H O (aW H a (.lst f)):=Ev.mut J _;show#[λb o e=>by rw[ar (bC e L)];show R.same b o e,R.bo,R.bd,λb m=>?_,by rw[Vy];show R.len,λj x l=>?_,λj k xs F w X T y r=>?_]
 .by_cases e:b=a
  .rw[e,av]at m;ext m
  .rw[ar e]at m;show R.od b m
 .rcases bH l with⟨rfl,ee⟩|⟨Za,l⟩
  .ext ee;show#[_,I,a,f,W,J,L,av,hd.ev ev]
  .let(u,G,q):=R.slot j x l
   show#[u,G,?_];cases x with
   |fz d=>show DV.ev ev q
   |pl i=>show q
   |ow xs=>let(b,M,rfl,S,Q,P,N):=q;let C:b≠a:=λz=>Za (R.one j i xs ds (.ref a) l c (by rw[G,z]) I);show#[b,M,W,S,Q,by rw[ar C];show P,N.ev ev]
 .let own:∀{j:Nat} {xs:b3 D},(ρ.set i (cL (.ow g)))[j]?=cL (cL (.ow xs))->∃F,ρ[j]?=cL (cL (.ow F)):=λ{j xs} h=>by
   rcases bH h with⟨rfl,_⟩|⟨_,h⟩
   .show#[_,c]
   .show#[_,h]
  let(p,A):=own X;let(n,t):=own T;show R.one j k p n w A t y r
theorem r9(h:n<1000000):n<UD:=UT h ()
def Dr:z (z PV)->z (G D)
 |some (S (.ow ds))=>S ds
 |_=>P
def zd(h:Dr o=S ds):o=S (S (.ow ds)):=by
 unfold Dr at h;split at h
 .ext h;rfl
 .ext h
def wj(i:Nat)(c:FE):FE:=λρ=>(Res.Vu (Dr ρ[i]?)).bind λ_=>(c ρ).bind λa=>(Res.Vu (vo a.2 a.1)).bind λb=>(Res.Vu (Dr b.2[i]?)).bind λds=>
 if ds.length<1000000 then .ok (.fz .none,b.2.set i (S (.ow (ds++[b.1]))))else .bad
def NW(p:EO K E te fe):EO K E (Q7 K "list" uv (oK i) (eO te iq)) (wj i fe):=by
 intro B Z O Y H ρ Q R w;let(u,n,w):=w.Vu;let(v,j,a,N,rfl,I,G,q,F):=R.slot i _ (zd n);show#[_,j,.inl #[W,_,Ys.of q],?_];show p B Z O Y H ρ _ R (w.bind.imp λb e L y M e1 z o=>?_);let((d,l),m,e):=e.Vu;let(A,e2,R2,t):=sK z o m;let(ds,f,e):=e.Vu;let f:=zd f;let(C,k1,J,g,r,k2,k3,k4,k5):=R2.slot i _ f;subst r;rw[j]at k1;ext k1;dsimp only at e;by_cases h:ds.length<1000000
 .rw[ax h]at e;show#[a,g,y,W,W,k4,r9 (by rw[k5.length];show h),?_];show e A .Wu _ (e1.trans (e2.trans (Ev.mut k2 _))) (R2.mut f j k2 k3 (k5.append (.cons t .nil))) .Wu
 .rw[a4 h]at e;show e.elim
abbrev FG:=PV->aL->Res aL
abbrev P1:=G D->aL->Res aL
def GO(K:lD)(E:XK)(g:TG)(f:FG):Prop:=
 ∀(B:bE) (Z:Hp) (O:bE) (Y:St) (H:Hp) (ρ:aL) (v:V) (pv:PV) (Q:St->Hp->Prop),Rl K B Z O Y H ρ->YN K Z O Y H ρ v pv->WR K E B Z (λρ'=>∀U a H',Ev O H U H'->Rl K B Z U a H' ρ'->Q a H') (f pv ρ)->g v Y H Q
def QL(K:lD)(E:XK)(g:yc)(f:P1):Prop:=
 ∀(B:bE) (Z:Hp) (O:bE) (Y:St) (H:Hp) (ρ:aL) (b:G V) (ds:G D) (Q:St->Hp->Prop),Rl K B Z O Y H ρ->Wg O K H b ds->WR K E B Z (λρ'=>∀U a H',Ev O H U H'->Rl K B Z U a H' ρ'->Q a H') (f ds ρ)->g b Y H Q
def Rl.agL(R:Rl K B Z O Y H ρ)(h:DV O K H v d):Rl K B Z O (Y.set i (S v)) H (ρ.set i (S (.fz d))):=by
 show#[R.same,R.bo,R.bd,R.od,by rw[Vy,Vy];show R.len,λj x f=>?_,λj k xs n w l g b a=>?_]
 .rcases bH f with⟨rfl,e⟩|⟨t,f⟩
  .ext e;let:=uI f;show#[v,by rw[VH,ax W,ax (by rw[R.len];show this)],h]
  .let(u,r,q):=R.slot j x f;show#[u,by rw[VH,a4 (λz=>t z.symm)];show r,q]
 .rcases bH l with⟨rfl,m⟩|⟨p,l⟩
  .ext m
  .rcases bH g with⟨rfl,m⟩|⟨o,g⟩
   .ext m
   .rw[VH,a4 (λz=>p z.symm)]at b;rw[VH,a4 (λz=>o z.symm)]at a;show R.one j k xs n w l g b a
def Rl.ajD(R:Rl K B Z O Y H ρ)(h:YN K Z O Y H ρ v (.ow ds)):Rl K B Z O (Y.set i (S v)) H (ρ.set i (S (.ow ds))):=by
 let(a,N,rfl,I,G,F,C,p):=h;show#[R.same,R.bo,R.bd,R.od,by rw[Vy,Vy];show R.len,λj x m=>?_,λj k xs o w A l f b=>?_]
 .rcases bH m with⟨rfl,e⟩|⟨M,m⟩
  .ext e;let:=uI m;show#[.ref a,by rw[VH,ax W,ax (by rw[R.len];show this)],a,N,W,I,G,F,C]
  .let(u,t,r):=R.slot j x m;show#[u,by rw[VH,a4 (λz=>M z.symm)];show t,r]
 .rcases bH A with⟨rfl,L⟩|⟨q,g⟩
  .rcases bH l with⟨rfl,J⟩|⟨n,l⟩
   .rfl
   .rw[VH,a4 (λz=>n z.symm)]at b
    rcases bH f with⟨_,e⟩|⟨z,_⟩
    .ext e;show bg b (p k o l)
    .show bg W z
  .let y:=g
   rw[VH,a4 (λz=>q z.symm)]at f;rcases bH l with⟨rfl,L⟩|⟨n,l⟩
   .rcases bH b with⟨_,e⟩|⟨z,_⟩
    .ext e;show bg f (p j xs g)
    .show bg W z
   .rw[VH,a4 (λz=>n z.symm)]at b;show R.one j k xs o w g l f b
def gN(i:Nat):FG:=λpv ρ=>match pv with
 |.ow ds=>.ok (ρ.set i (S (.ow ds)))
 |.fz d=>.ok (ρ.set i (S (.fz d)))
 |.pl j=>(Res.Vu (vo ρ (.pl j))).bind λb=>.ok (b.2.set i (S (.fz b.1)))
def uc:GO K E (kY i) (gN i):=by
 intro B Z O Y H ρ v pv Q R p w;cases pv with
 |ow ds=>show w O _ H .refl (R.ajD p)
 |fz d=>show w O _ H .refl (R.agL p)
 |pl j=>let((d,a),q,w):=WR.Vu (show WR K E B Z _ ((Res.Vu (vo ρ (.pl j))).bind λb=>.ok (b.2.set i (S (.fz b.1))))from w);let(f,e2,R2,e):=sK R p q;show w f _ H e2 (R2.agL e)
def QU:P1:=λds ρ=>match ds with
 |[]=>.ok ρ
 |_=>.bad
def MC(f:FG)(g:P1):P1:=λds ρ=>match ds with
 |[]=>.bad
 |d::r=>(f (.fz d) ρ).bind λa=>g r a
def Ow:QL K E Jj QU:=by
 intro B Z O Y H ρ b ds Q R a w;cases a with
 |nil=>show#[W,w O Y H .refl R]
 |cons _ _=>show w.elim
def KN(n:GO K E t f)(m:QL K E u g):QL K E (Ai t u) (MC f g):=by
 intro B Z O Y H ρ C ds Q R o w;cases o with
 |nil=>show w.elim
 |cons l j=>rename_i v C d ds;show#[_,_,W,n B Z O Y H ρ _ (.fz d) _ R l (WR.imp (WR.bind w) λe i y b A e1 p=>?_)];show m B Z y b A e _ _ Q p (j.ev e1) (i.imp λh q r a z e2 R2=>q r a z (e1.trans e2) R2)
def To:D->z (G D)
 |.tuple ds=>S ds
 |_=>P
def Ep(h:DX O K H x d)(e:To d=S ds):∃a xs,x=.ref a/\YO O K H a xs/\Wg O K H xs ds:=by
 ext d<;>ext e;cases h with
 |tup h b=>show#[_,_,W,h,b]
def gT(n:Nat)(f:P1):FG:=λpv ρ=>(Res.Vu (Cd ρ pv)).bind λd=>(Res.Vu (To d)).bind λds=>if ds.length=n then f ds ρ else .bad
def N4(h:QL K E t f):GO K E (Jc K n t) (gT n f):=by
 intro B Z O Y H ρ v pv Q R p w;let(d,g,w):=w.Vu;let(ds,e,w):=w.Vu;let(a,xs,rfl,i,b):=Ep (sE R p g) e;by_cases hn:ds.length=n
 .rw[ax hn]at w;show#[a,xs,W,i.1,b.length.trans hn,h B Z O Y H ρ xs ds Q R b w]
 .rw[a4 hn]at w;show w.elim
inductive Fl where
 |nx (ρ:aL)
 |rt (rv:RV)
 |bk (ρ:aL)
 |ct (ρ:aL)
abbrev FS:=aL->Res Fl
def acp(K:lD)(B:bE)(Z:Hp)(O:bE)(H:Hp)(D:Ends):Fl->Prop
 |.nx ρ'=>∀U a H',Ev O H U H'->Rl K B Z U a H' ρ'->D.nx a H'
 |.bk ρ'=>∀U a H',Ev O H U H'->Rl K B Z U a H' ρ'->D.bk a H'
 |.ct ρ'=>∀U a H',Ev O H U H'->Rl K B Z U a H' ρ'->D.ct a H'
 |.rt b=>Fin B K Z D.rt b
def SO(K:lD)(E:XK)(t:TS)(g:FS):Prop:=
 ∀(B:bE) (Z:Hp) (O:bE) (Y:St) (H:Hp) (ρ:aL) (D:Ends),Rl K B Z O Y H ρ->WR K E B Z (acp K B Z O H D) (g ρ)->t D Y H
def acp.ev{D:Ends}(e:Ev O H O1 H1)(h:acp K B Z O H D fl):acp K B Z O1 H1 D fl:=by
 cases fl with
 |nx ρ'=>show λU a H' b f=>h U a H' (e.trans b) f
 |bk ρ'=>show λU a H' b f=>h U a H' (e.trans b) f
 |ct ρ'=>show λU a H' b f=>h U a H' (e.trans b) f
 |rt g=>show h
def dA:FS:=λρ=>.ok (.nx ρ)
def bu(f g:FS):FS:=λρ=>(f ρ).bind λa=>match a with
 |.nx b=>g b
 |a=>.ok a
def kQ(f:FE):FS:=λρ=>(f ρ).bind λa=>.ok (.nx a.2)
def fJ(f:FE)(g:FG):FS:=λρ=>(f ρ).bind λa=>(g a.1 a.2).bind λb=>.ok (.nx b)
def kM(c:FT)(f g:FS):FS:=λρ=>(c ρ).bind λa=>if a.1=R then f a.2 else g a.2
def Bg(ρ:aL):PV->z RV
 |.fz d=>S (.fz d)
 |.ow ds=>S (.ow ds)
 |.pl i=>match ρ[i]? with
  |some (S (.fz d))=>S (.fz d)
  |some (S (.ow ds))=>S (.ow ds)
  |_=>P
def di(f:FE):FS:=λρ=>(f ρ).bind λa=>(Res.Vu (Bg a.2 a.1)).bind λb=>.ok (.rt b)
theorem Kw:SO K E za dA:=λB Z O Y H ρ D R w=>w O Y H .refl R
def OU(j:SO K E t f)(i:SO K E u g):SO K E (CD t u) (bu f g):=by
 intro B Z O Y H ρ D R w;show j B Z O Y H ρ {D with nx:=u D} R (WR.imp (WR.bind w) λh b=>?_);cases h with
 |nx a=>show λm e n e1 l=>i B Z m e n a D l (WR.imp b λh q=>q.ev e1)
 |rt o=>show b
 |bk a=>show b
 |ct a=>show b
def Hi(h:EO K E t f):SO K E (sg t) (kQ f):=by intro B Z O Y H ρ D R w;show h B Z O Y H ρ _ R (w.bind.imp λa b g x i e1 e j=>b g Y i e1 e)
def D9(h:EO K E t f)(m:GO K E g C):SO K E (xt t g) (fJ f C):=by intro B Z O Y H ρ D R w;show h B Z O Y H ρ _ R (w.bind.imp λa j p x r e1 n l=>?_);show m B Z p Y r a.2 x a.1 _ n l (j.bind.imp λe i o b q e2 R2=>i o b q (e1.trans e2) R2)
def QW(m:TTO K E c C)(o:SO K E t f)(n:SO K E u g):SO K E (Ek c t u) (kM C f g):=by
 intro B Z O Y H ρ D R w;show m B Z O Y H ρ _ R (w.bind.imp λa h j l e1 i=>?_);let(b,e):=a;cases b with
 |true=>show o B Z j Y l e D i (WR.imp h λp q=>q.ev e1)
 |false=>show n B Z j Y l e D i (WR.imp h λp q=>q.ev e1)
def Pf{pv:PV}(R:Rl K B Z O Y H ρ)(p:YN K Z O Y H ρ v pv)(e:Bg ρ pv=S I)(w:Fin B K Z Q I):Q v H:=by
 let ow:∀{a:M} {C:G V} {ds:G D},O a->Z a=P->H a=S (.lst C)->Wg O K H C ds->Fin B K Z Q (.ow ds)->Q (.ref a) H:=λ{a C ds} m l g f w=>
  w a C H R.same l g (f.ev (Ev.sub λb z=>z.elim (R.bo b) λe=>by simp_all))
 let fz:∀{d:D},DV O K H v d->Fin B K Z Q (.fz d)->Q v H:=λ{d} h w=>w v H R.same (h.ev (Ev.sub R.bo));cases pv with
 |fz d=>ext e;show fz p w
 |ow ds=>ext e;let(a,C,rfl,m,l,g,f,y):=p;show ow m l g f w
 |pl i=>
  let t:=p;unfold Bg at e;dsimp only at e;cases q:ρ[i]? with
  |none=>simp_all
  |some o=>
   cases o with
   |none=>simp_all
   |some x=>
    let(u,r,n):=R.slot i x q;rw[t]at r;ext r;rw[q]at e;cases x with
    |fz d=>ext e;show fz n w
    |ow ds=>ext e;let(a,C,rfl,m,l,g,f):=n;show ow m l g f w
    |pl j=>show n.elim
def OC(h:EO K E t f):SO K E (DJ t) (di f):=by intro B Z O Y H ρ D R w;show h B Z O Y H ρ _ R (w.bind.imp λa b i x j e1 g e=>?_);let(l,q,b):=b.Vu;show Pf g e q b
def xI(K:lD)(J:It)(O:bE)(H:Hp)(ds:G D):Prop:=∀U H',Ev O H U H'->kR U H'->
 (∀i,i<ds.length->J.go i H'/\∀x a,J.yld i H' x a->VZ H' a/\∃d,ds[i]?=S d/\DV U K a x d)/\J.stop ds.length H'
abbrev FI:=aL->Res (G D×aL)
def IO(K:lD)(E:XK)(b:TI)(e:FI):Prop:=
 ∀(B:bE) (Z:Hp) (O:bE) (Y:St) (H:Hp) (ρ:aL) (a:It->Hp->Prop),Rl K B Z O Y H ρ->WR K E B Z (λr=>∀U J H',Ev O H U H'->Rl K B Z U Y H' r.2->xI K J U H' r.1->a J H') (e ρ)->b Y H a
def nj(gt:FG)(b:FS):G D->FS
 |[],ρ=>.ok (.nx ρ)
 |d::r,ρ=>(gt (.fz d) ρ).bind λa=>(b a).bind λe=>match e with
  |.nx f=>nj gt b r f
  |.ct f=>nj gt b r f
  |.bk f=>.ok (.nx f)
  |.rt g=>.ok (.rt g)
def mj(e:FI)(gt:FG)(b:FS):FS:=λρ=>(e ρ).bind λa=>nj gt b a.1 a.2
def PD(c:IO K E wi fi)(X:GO K E g gt)(k:SO K E tb b):SO K E (KM wi g tb) (mj fi gt b):=by
 intro B Z O Y H ρ D R w;show c B Z O Y H ρ _ R (w.bind.imp λa M F J S e1 Q P=>?_);let(ds,C):=a;dsimp only at M P Q;show#[λi m f H'=>m=ds.length - i/\i<=ds.length/\∃O2 ρ2,Ev F S O2 H'/\Rl K B Z O2 f H' ρ2/\WR K E B Z (acp K B Z O H D) (nj gt b (ds.drop i) ρ2),#[_,W,Vm _,F,C,.refl,Q,M],?_];rintro i m n L ⟨rfl,c,O2,ρ2,e2,R2,w2⟩;let(go,o):=P O2 L e2 R2.od;by_cases u:i<ds.length
 .let(g1,g2):=go i u
  show .inr #[g1,λf H'=>i+1<=ds.length/\∃O2 ρ2,Ev F S O2 H'/\Rl K B Z O2 f H' ρ2/\WR K E B Z (acp K B Z O H D) (nj gt b (ds.drop (i+1)) ρ2),λf H' #[h1,h2]=>#[ds.length - (i+1),by ext,W,h1,h2],λx I y=>?_];let(N,d,hd,dv):=g2 x I y;let ed:ds.drop i=d::ds.drop (i+1):=by let(_,q):=Ux.mp hd;rw[W8 u,q]
  rw[ed]at w2;let e3:Ev O2 L O2 I:=Ev.grow N;show X B Z O2 n I ρ2 x (.fz d) _ (R2.grow N) dv (WR.imp (WR.bind w2) λA T O4 z H4 e4 R4=>?_);let l:=e2.trans (e3.trans e4);show k B Z O4 z H4 A _ R4 (WR.imp (WR.bind T) λfl t=>?_);cases fl with
  |nx h=>show λr j G e5 p=>#[u,r,h,l.trans e5,p,t]
  |ct h=>show λr j G e5 p=>#[u,r,h,l.trans e5,p,t]
  |bk h=>show λr j G e5 p=>t r j G (e1.trans (l.trans e5)) p
  |rt rv=>show t
 .let e:i=ds.length:=by ext
  subst e;rw[Xp (UC _)]at w2;show .inl #[o,w2 O2 n L (e1.trans e2) R2]
def dZ:D->z (G D)
 |.tuple ds=>S ds
 |.list ds=>S ds
 |_=>P
def zq(K:lD)(e:TE):TI:=λY H R=>e Y H λx b=>∃a,x=.ref a/\(((∃xs,Ys K b a xs)/\R (Sx K a) b)\/((∃xs,Yt K b a xs)/\R (SZ K a) b))
def yL(y:PE X l C):PI X tg l (zq X.K C):=by
 intro i s Y H R I h;show bW (y i s Y H _ I h) λv g a=>?_;let(x,r,f,t,u):=a;let(a,e,q):=u;subst e;ext t;rcases q with⟨⟨xs,j⟩,q⟩|⟨⟨xs,j⟩,q⟩
 .let(n,J,p,w):=f.list j
  show Yg p.isList ?_;show#[g.heap.objs.size,[g.heap.objs.size],_,_,r,W,f.kept λb o e=>ck _ e,BC a _,#[_,cv _ W,W,W],λb m=>?_,q];let e:b=g.heap.objs.size:=by simpa using m
  subst e;show f.aaK (UC _) (f.VF.fresh (UC _))
 .let(n,J,p,w):=f.tuple j
  show Zh (show g.heap.IsTuple a n.toArray from p) ?_;show#[g.heap.objs.size,[g.heap.objs.size],_,_,r,W,f.kept λb o e=>ck _ e,yy a _,#[_,cv _ W,W,W],λb m=>?_,q];let e:b=g.heap.objs.size:=by simpa using m
  subst e;show f.aaK (UC _) (f.VF.fresh (UC _))
def zu(h:ZK O K H a xs)(hd:Wg O K H xs ds):xI K (Sx K a) O H ds:=by intro U H' e n;let f:=h.ev e;let b:=hd.ev e;show#[λi p=>?_,#[xs,f.1.sq,by rw[hd.length];show UC _]];let(x,l,_):=b.get (UE p);show#[#[xs,x,f.1.sq,l],?_];rintro y m ⟨rfl,o⟩;let(d,j,g):=b.adY (o xs f.1.sq);show#[VZ.refl _,d,j,g]
def GQ(h:YO O K H a xs)(hd:Wg O K H xs ds):xI K (SZ K a) O H ds:=by intro U H' e n;let f:=h.ev e;let b:=hd.ev e;show#[λi p=>?_,#[xs,f.1,by rw[hd.length];show UC _]];let(x,l,_):=b.get (UE p);show#[#[xs,x,f.1,l],?_];rintro y m ⟨rfl,o⟩;let(d,j,g):=b.adY (o xs f.1);show#[VZ.refl _,d,j,g]
def gq(c:FE):FI:=λρ=>(c ρ).bind λa=>(Res.Vu (vo a.2 a.1)).bind λb=>(Res.Vu (dZ b.1)).bind λds=>.ok (ds,b.2)
def Ol(h:EO K E C I):IO K E (zq K C) (gq I):=by
 intro B Z O Y H ρ o R w;show h B Z O Y H ρ _ R (w.bind.imp λa b p x i e1 n l=>?_);let((d,j),q,b):=b.Vu;let(g,e2,R2,m):=sK n l q;let(ds,e,b):=b.Vu;dsimp only at e;cases m with
 |tup h f=>ext e;show#[_,W,.inr #[#[_,h.1],b g _ i (e1.trans e2) R2 (GQ h f)]]
 |lst h f=>ext e;show#[_,W,.inl #[#[_,h.1.sq],b g _ i (e1.trans e2) R2 (zu h f)]]
 |_=>ext e
def fC(lo:Int)(n:Nat):G D:=(UM n).map λ(k:Nat)=>.int (lo+(k:Int))
def DZ:xI K (R8 lo n) O H (fC lo n):=by
 intro U H' e f;let a:(fC lo n).length=n:=by ext fC;simp_all
 show#[λi g=>?_,by show n<=_;rw[a];show UC _];rw[a]at g;show#[g,?_];rintro x b ⟨rfl,rfl⟩;show#[VZ.refl _,.int (lo+i),by ext fC;simp_all,.int _]
def jw(i:Int):Prop:= -(2^62)<=i/\i<2^62
noncomputable instance(i:Int):Decidable (jw i):=by ext jw;infer_instance
def iE:G D->z (G D)
 |[.int j]=>if jw j then S (fC 0 j.toNat)else P
 |_=>P
def mw(f:G D->z (G D))(b:FA):FI:=λρ=>(b ρ).bind λa=>(Res.Vu (vE a.2 a.1)).bind λds=>(Res.Vu (f ds)).bind λxs=>.ok (xs,a.2)
def JO(h:AO K E C I):IO K E (LH C) (mw iE I):=by
 intro B Z O Y H ρ r R w;show h B Z O Y H ρ _ R (w.bind.imp λa e o t p e1 g l=>?_);let(ds,q,e):=e.Vu;let(xs,b,e):=e.Vu;let i:=wZ g l q;unfold iE at b;split at b
 .rename_i j
  split at b
  .rename_i f
   ext b;cases i with
   |cons n m=>ext m;ext n;show#[j,W,f.1,f.2,e o _ p e1 g DZ]
  .ext b
 .ext b
end
section
variable{K:lD}{E:XK}{B O Y:bE}{X H H':Hp}{Z:St}{ρ ρ':aL}{v:V}
def Fi:z PV->z PV
 |some (.fz d)=>S (.fz d)
 |_=>P
def cJ(ρ:aL):aL:=ρ.map Fi
def yh{i:Nat}(h:(cJ ρ)[i]?=S (S x)):∃d,x=.fz d/\ρ[i]?=S (S (.fz d)):=by
 unfold cJ at h;rw[UG]at h;cases q:ρ[i]? with
 |none=>simp_all
 |some o=>
  rw[q]at h;let a:=UI h;unfold Fi at a;split at a
  .ext a;show#[_,W,W]
  .ext a
def sB(ρ:aL):G Nat->z (G D×aL)
 |[]=>S ([],ρ)
 |j::r=>match vo ρ (.pl j)with
  |some (d,b)=>(match sB b r with
   |some (c,a)=>S (d::c,a)
   |none=>P)
  |none=>P
def Bq(R:Rl K B X O Z H ρ)(h:vo ρ (.pl i)=S (d,ρ')):∃v,Z[i]?=S (S v):=by
 let a:S3 ρ i ρ[i]?=S (d,ρ'):=h;cases q:ρ[i]? with
 |none=>rw[q]at a;ext a
 |some o=>
  cases o with
  |none=>rw[q]at a;ext a
  |some x=>let(v,b,_):=R.slot i x q;show#[v,b]
theorem vG:∀{s:G Nat} {ds:G D} {O:bE} {ρ ρ':aL},Rl K B X O Z H ρ->sB ρ s=S (ds,ρ')->∃Y k,Ev O H Y H/\Rl K B X Y Z H ρ'/\Wg Y K H k ds/\s.map (λj=>(Z[j]?).join)=k.map S
 |[],_,O,_,_,t,e=>by ext e;show#[O,[],.refl,t,.nil,W]
 |j::r,_,O,ρ,ρ',t,e=>by
  unfold sB at e;cases q:vo ρ (.pl j)with
  |none=>simp_all
  |some p=>
   let(d,a):=p;rw[q]at e;dsimp only at e;cases u:sB a r with
   |none=>simp_all
   |some f=>let(c,b):=f;rw[u]at e;ext e;let(v,g):=Bq t q;let(o,e1,l,i):=sK (pv:=.pl j) t g q;let(m,k,e2,R2,h,n):=vG l u;show#[m,v::k,e1.trans e2,R2,.cons (i.ev e2) h,by simp_all]
def cW(gt:FG)(c:FT)(f:FE):G D->aL->G D->Res (G D)
 |[],_,acc=>.ok acc
 |d::r,ρ,acc=>(gt (.fz d) ρ).bind λe=>(c e).bind λb=>if b.1=R then(f b.2).bind λa=>(Res.Vu (vo a.2 a.1)).bind λx=>
   if acc.length<1000000 then cW gt c f r (cJ x.2) (acc++[x.1])else .bad
  else cW gt c f r (cJ b.2) acc
def i9:Res α->Res α
 |.er _=>.bad
 |r=>r
def dc(n:Nat)(e:G Nat)(b:FI)(gt:FG)(f:FT)(g:FE):FE:=λρ=>(b ρ).bind λa=>(Res.Vu (sB a.2 e)).bind λc=>
 (i9 (cW gt f g a.1 (UA n P++c.1.map λd=>S (.fz d)) [])).bind λxs=>.ok (.ow xs,c.2)
def zM{own:G Str}(h:own.length=n):own.map (λ_=>(P:z V))=UA n P:=by
 subst h
 induction own with
 |nil=>rfl
 |cons x r a=>grind
def zS(h:WR K E B X b (i9 r)):∃a,r=.ok a/\b a:=by
 cases r with
 |ok a=>show#[a,W,h]
 |er x=>show h.elim
 |bad=>show h.elim
def Q1(K:lD)(J:It)(O:bE)(H:Hp)(ds:G D):Prop:=∀Y H',Ev O H Y H'->VZ H H'->kR Y H'->
 (∀i,i<ds.length->J.go i H'/\∀x a,J.yld i H' x a->VZ H' a/\∃d,ds[i]?=S d/\DV Y K a x d)/\J.stop ds.length H'
def RQ(K:lD)(E:XK)(b:TI)(e:FI):Prop:=
 ∀(B:bE) (X:Hp) (O:bE) (Z:St) (H:Hp) (ρ:aL) (a:It->Hp->Prop),Rl K B X O Z H ρ->WR K E B X (λr=>∀Y J H',Ev O H Y H'->Rl K B X Y Z H' r.2->Q1 K J Y H' r.1->a J H') (e ρ)->b Z H a
theorem IO.s(h:IO K E wi fi):RQ K E wi fi:=λB X O Z H ρ b R w=>h B X O Z H ρ b R (w.imp λr q Y J H' e R a=>q Y J H' e R λf g e2 _ n=>a f g e2 n)
def v7(c:own.length=n)(hf:fv.map (·.2)=fj)
  (hi:RQ K E wi fi) (hg:GO K E0 g gt) (ht:TTO K E0 tc ft) (he:EO K E0 te fe):EO K E (mM own fv wi g tc te) (dc n fj fi gt ft fe):=by
 intro B X O Z H ρ Q R w;show hi B X O Z H ρ _ R (w.bind.imp λa w1 O1 J H1 e1 R1 it=>?_);let(ds,ρ1):=a;let((cs,ρ2),qc,w1):=w1.Vu;dsimp only at qc it;let(I,vs,e2,R2,Yx,hvs):=vG R1 qc;let(xs,qx,w1):=zS (WR.bind w1);intro l F;let hB:∀{H':Hp},VZ H1 H'->H' l≠Uo->∀a,bF I l a->H' a≠Uo:=λ{H'} s nd a h z=>h.elim (λq=>R2.od a (s.free z) q) λe=>nd (by rw[<-e];show z);show#[λi m L H'=>m=ds.length - i/\i<=ds.length/\∃(A:b3 D) (G:b3 V) (t:aL),VZ H1 H'/\H' l=cL (.lst G)/\Wg (bF I l) K H' G A/\L.length=t.length/\(∀(j:Nat) (x:PV),t[j]?=cL (cL x)->∃d u,x=PV.fz d/\L[j]?=cL (cL u)/\DV (bF I l) K H' u d)/\cW gt ft fe (ds.drop i) t A=.ok xs,
  #[_,W,Vm _,[],[],_,bj F _,av,.nil,?_,λj x M=>?_,qx],?_]
 .ext gU
  rw[Uz,Uz,Us,Us,VS,Us,c,<-Yx.length];let:=en Y0 hvs
  grind
 .let hm:fv.map (λp=>(Z[p.2]?).join)=vs.map cL:=by rw[<-hvs,<-hf,Vo];rfl
  ext gU;rw[zM c,hm];by_cases hj:j<n
  .rw[U0 (by rw[VS];show hj),WG,ax hj]at M;ext M
  .rw[U8 (by rw[VS];ext),VS,UG]at M⊢
   cases qd:cs[j - n]? with
   |none=>rw[qd]at M;ext M
   |some d=>rw[qd]at M;ext M;let(u,hu,du):=Yx.get qd;show#[d,u,W,by rw[hu];rfl,du.ev (Ev.add (bj F _) F)]
 .rintro i m L H' ⟨rfl,hi,A,G,t,s,hD,dys,hl,hsl,f⟩
  let nD:H' l≠Uo:=by rw[hD];simp
  let no':=λa z h=>hB s nD a h z;let ev1:=e2.trans (Ev.add s F);let(go,stop):=it (bF I l) H' ev1 s no';by_cases X3:i<ds.length
  .let(g1,g2):=go i X3
   show .inr #[g1,λC N=>i+1<=ds.length/\∃(A:b3 D) (G:b3 V) (t:aL),VZ H1 N/\N l=cL (.lst G)/\Wg (bF I l) K N G A/\C.length=t.length/\(∀(j:Nat) (x:PV),t[j]?=cL (cL x)->∃d u,x=PV.fz d/\C[j]?=cL (cL u)/\DV (bF I l) K N u d)/\cW gt ft fe (ds.drop (i+1)) t A=.ok xs,
    λC N #[U2,h2]=>#[ds.length - (i+1),by ext,W,U2,h2],λx H3 y=>?_]
   let(s3,d,hd,dv):=g2 x H3 y;let ed:ds.drop i=d::ds.drop (i+1):=by let(_,q):=Ux.mp hd;rw[W8 X3,q]
   rw[ed]at f;let hD3:=s3 _ _ hD;let nD3:H3 l≠Uo:=by rw[hD3];simp
   let sv:=s.trans s3;let RC:Rl K (bF I l) H3 (bF I l) L H3 t:=#[VZ.refl _,λ_ h=>h,hB sv nD3,λa z h=>hB sv nD3 a h z,hl,λj x M=>by let(d,u,rfl,U2,h2):=hsl j x M;show#[u,U2,h2.ev (Ev.grow s3)],λj k xs G w hj=>by let(d,u,e,_):=hsl j _ hj;ext e];unfold cW at f;let back:∀{O5:bE} {C:St} {N:Hp} {Pz0:aL} {H6:Hp},Rl K (bF I l) H3 O5 C N Pz0->(∀b o,b≠l->N b=cL o->H6 b=cL o)->C.length=(cJ Pz0).length/\∀(j:Nat) (x:PV),(cJ Pz0)[j]?=cL (cL x)->∃d u,x=PV.fz d/\C[j]?=cL (cL u)/\DV (bF I l) K H6 u d:=λ{O5 C N Pz0 H6} T k=>by show#[by ext cJ;rw[Us];show T.len,λj x M=>?_];let(d,rfl,hxx):=yh M;let(u,U2,h2):=T.slot j _ hxx;show#[d,u,W,U2,DV.ev (λb o h n=>#[k b o (λe=>n (.inr e)) h,n]) (DV.ev (Ev.sub T.bo) h2)]
   show hg _ _ _ L H3 t x (.fz d) _ RC dv ?_;cases qg:gt (.fz d) t with
   |er z=>rw[qg]at f;ext f
   |bad=>rw[qg]at f;ext f
   |ok ρ3=>
    rw[qg,ey]at f;intro O4 σ4 H4 e4 R4;show ht _ _ _ σ4 H4 ρ3 _ R4 ?_;cases qt:ft ρ3 with
    |er z=>rw[qt]at f;ext f
    |bad=>rw[qt]at f;ext f
    |ok b=>
     let(b,ρ4):=b;rw[qt,ey]at f;intro O5 N e5 T;cases b with
     |false=>rw[a4 UH]at f⊢;let(l5,k5):=back T λb o _ h=>h;show#[X3,A,G,cJ ρ4,sv.trans T.same,T.same _ _ hD3,?_,l5,k5,f];show dys.ev (Ev.grow (s3.trans T.same))
     |true=>
      rw[ax W]at f⊢;show he _ _ _ σ4 N ρ4 _ T ?_;cases qe:fe ρ4 with
      |er z=>rw[qe]at f;ext f
      |bad=>rw[qe]at f;ext f
      |ok r=>
       rw[qe,ey]at f;intro O6 yv H6 e6 R6 p6;cases q7:vo r.2 r.1 with
       |none=>rw[q7]at f;ext f
       |some xr=>
        let(xd,ρ7):=xr;rw[q7]at f;let(O7,e7,R7,dv7):=sK R6 p6 q7;let hD7:=R7.same _ _ hD3;let S:(if A.length<1000000 then cW gt ft fe (ds.drop (i+1)) (cJ ρ7) (A++[xd])else .bad)=.ok xs:=f;by_cases hl6:A.length<1000000
        .rw[ax hl6]at S
         let up:∀b o,b≠l->H6 b=cL o->aW H6 l (.lst (G++[yv])) b=cL o:=λb o hb h=>by rw[ar hb];show h
         let b9:Ev (bF I l) H6 (bF I l) (aW H6 l (.lst (G++[yv]))):=λb o h n=>#[up b o (λe=>n (.inr e)) h,n];let ajK:=dys.ev (Ev.grow (s3.trans R7.same));let(l5,k5):=back R7 up;show#[G,hD7,r9 (by rw[dys.length];show hl6),X3,A++[xd],G++[yv],cJ ρ7,λb o h=>?_,av,?_,l5,k5,S]
         .rw[ar (bC h F)];show R7.same _ _ (sv _ _ h)
         .show(ajK.append (.cons (DV.ev (Ev.sub R7.bo) dv7) .nil)).ev b9
        .rw[a4 hl6]at S;ext S
  .let e:i=ds.length:=by ext
   subst e;rw[Xp (UC _)]at f;let f:=f;ext f;show .inl #[stop,?_];show w1 (bF I l) (.ref l) H' (e1.trans ev1) (R2.add s F nD) #[l,G,W,.inr W,R2.aer F,hD,dys,λk es hk z=>?_];let(u,U2,b,us,e2,g1,g2,g3,g4):=R2.slot k _ hk;rw[z]at U2;ext U2;ext e2;rw[F]at g3;ext g3
def ML(ρ:aL):z (z PV)->Res (G D×aL)
 |some (S (.ow ds))=>.ok (ds,ρ)
 |_=>.bad
def pU(i:Nat):FI:=λρ=>ML ρ ρ[i]?
def FH:RQ K E (zq K (oK i)) (pU i):=by
 intro B X O Z H ρ A R w;unfold pU at w;cases q:ρ[i]? with
 |none=>rw[q]at w;show w.elim
 |some o=>
  cases o with
  |none=>rw[q]at w;show w.elim
  |some x=>
   cases x with
   |fz d=>rw[q]at w;show w.elim
   |pl j=>rw[q]at w;show w.elim
   |ow ds=>rw[q]at w;let(v,p,a,C,rfl,z,u,f,r):=R.slot i _ q;show#[_,p,a,W,.inl #[#[C,Ys.of f],w O _ H .refl R λY H' e s n=>?_]];let k:=s _ _ f;let b:=r.ev e;show#[λj m=>?_,#[C,Ys.of k,by rw[b.length];simp_all]];let(x,l,_):=b.get (UE m);show#[#[C,x,Ys.of k,l],?_];rintro y t ⟨rfl,I⟩;let(d,h,g):=b.adY (I C (Ys.of k));show#[VZ.refl _,d,h,g]
def cZ(F:FN)(n:Nat)(c:FA):FE:=λρ=>(c ρ).bind λa=>(Res.Vu (nk a.2 a.1)).bind λb=>if b.1.length=n then(i9 (F b.1)).bind λe=>.ok (e.pv,b.2)else .bad
def OZ(c:AO K E C I):EO K E (jp (Bh K n F) [] E0 C) (cZ F n I):=by
 intro B X O Z H ρ Q R w;show c B X O Z H ρ _ R (w.bind.imp λa g u J y e1 o j=>?_);let((ds,f),q,b):=g.Vu;let(r,e2,R2,e):=oZ o j q;dsimp only at b;by_cases hn:ds.length=n
 .rw[ax hn]at b;let(L,h,b):=zS (WR.bind b);rw[U9];show#[e.length.trans hn,r,ds,λa z l=>R2.od a l z,e,?_];rw[h];show qG R2 λp v t e3 m i=>b p v t (e1.trans (e2.trans e3)) m i
 .rw[a4 hn]at b;show b.elim
end
def fK(N:Nat)(g:FS):FN:=λds=>(g (ds.map (λd=>S (.fz d))++UA (N - ds.length) P)).bind λa=>match a with
 |.rt b=>.ok b
 |.nx _=>.ok (.fz .none)
 |_=>.bad
def C1(g:∀a,B a->H a≠P)(l:Wg B K H C ds):Rl K B H B (L2.start N C) H (ds.map (λd=>S (.fz d))++UA (N.length - ds.length) P):=by
 let r:=l.length;show#[VZ.refl _,λ_ h=>h,g,λa z h=>g a h z,?_,λi x m=>?_,λi j xs p w t=>?_]
 .ext L2.start;simp_all
 all_goals
  let b:∀{i:Nat} {x:PV},(ds.map (λd=>S (PV.fz d))++UA (N.length - ds.length) P)[i]?=S (S x)->∃d,x=.fz d/\ds[i]?=S d:=λ{i x} h=>by
   by_cases t:i<ds.length
   .rw[U0 (by rw[Us];show t),UG]at h
    cases q:ds[i]? with
    |none=>rw[q]at h;ext h
    |some d=>rw[q]at h;ext h;show#[d,W,W]
   .rw[U8 (by rw[Us];ext),WG]at h;split at h<;>ext h
 .let(d,rfl,n):=b m;let(v,f,o):=l.get n;show#[v,?_,o];let t:=(Ux.mp f).1;ext L2.start;rw[U0 (by rw[Us];show t),UG,f];rfl
 .let(d,e,_):=b t;ext e
def T5(F:Zo K x qual st f fd)(S:Wy N J (au st))(c:J.length=n)
  (r:∀(a:U) (A:U4) (outer:G Env) (s:Uw) (H:Hp) (E:XK),Wl k (A.deeper (Vd qual (au st) s.heap.objs.size f a))->
   ∃t,Z9 (dR jD C w K mg base N qual (au st) f a A outer s H E).nox (bQ st) t/\SO K E t g):FnOk C w K mg base jD (k+1) f fd J (Bh K n (fK N.length g)):=by
 show F.ok S (λL H Q E h=>h.1.trans c.symm) (λa A outer s H L Q E l h=>?_);let(t,i,j):=r a A outer s H E l;let(v,B,ds,m,p,h):=h;show#[t,i,j B H B _ H _ _ (C1 m p) (WR.imp (WR.bind h) λo q=>?_)];cases o with
 |rt T=>show q
 |nx I=>show λy b u e R=>q .Wu u R.same .Wu
 |bk I=>show q.elim
 |ct I=>show q.elim
end L3
namespace L3
open PySem PySem.Spec PyProof.Rows L2
def OpR.or(h:OpR X f r)(c:OpR X f r'):OpR X f (λx y H Q=>r x y H Q\/r' x y H Q):=by
 intro a s b H x y v u Q I g e q;rcases q with q|q
 .show h a s b H x y v u Q I g e q
 .show c a s b H x y v u Q I g e q
def NN(I:Inv X pins σ H s)(h:X7 X.K H l xs):xs.length<=UD/\∃(a:G U) (n:Nat),Vals xs a/\xs.length=a.length/\s.heap.get? l=S {cls:=.type "list",data:=.seq a.toArray n}:=by
 rcases h with(h|⟨o,h⟩)|⟨a,n,h1,f,b⟩
 .show I.afe h
 .let(_,z,a,n,r,e):=I.VF l _ h;show#[z,a,n,r,r.length,e]
 .show#[f,a,n,b,b.length,I.XU _ _ h1]
def LF(K:lD):R2:=λx y H Q=>∃l b xs zs,x=.ref l/\y=.ref b/\X7 K H l xs/\X7 K H b zs/\xs.length+zs.length<=UD/\∀p,H p=P->Q (.ref p) (aW H p (.lst (xs++zs)))
def Kq:OpR X (Wa .Add) (LF X.K):=by
 intro f s A H x y v u Q I j i h;let(l,b,xs,B,rfl,rfl,p,t,F,q):=h;ext j;ext i;let(z,g,n,r,G,e):=NN I p;let(C,a,E,m,o,e2):=NN I t;show PySem.P.add_list e e2 ?_ (by simp_all);let w:g.toArray++a.toArray=(g++a).toArray:=by simp
 rw[w];show#[.ref _,_,I.agr (r.append m) (by simp_all),W,q _ I.fresh]
def Lx(K:lD):R2:=λx y H Q=>∃l k xs,x=.ref l/\y=.int k/\X7 K H l xs/\ -(2^63)<=k/\k<2^63/\xs.length*k.toNat<=UD/\
 ∀p,H p=P->Q (.ref p) (aW H p (.lst (UA k.toNat xs).flatten))
def J1:OpR X (Wa .Mult) (Lx X.K):=by
 intro p s O H x y v u Q I E C h;let(l,k,xs,rfl,rfl,J,M,L,G,q):=h;ext E;let(t,rfl):=C;let(z,b,n,r,R,e):=NN I J;let f:b.toArray.size*k.toNat<=UD:=by simp_all
 let o:¬b.toArray.size*k.toNat>(2^63 - 1)/8:=by
  let:(UD:Nat)<=(2^63 - 1)/8:=by decide
  ext
 let g:¬(!Vx.List.listFitsIndex k)=Uq:=by rw[fitsIndex_both M L];simp_all
 let i:¬Vx.List.listTooLong (b.toArray.size*k.toNat)=Uq:=by rw[Gr f];simp_all
 let j:YC (λA w=>A++w) #v[] (UA (if b.toArray.isEmpty=Uq then 0 else k.toNat) b.toArray)=(UA k.toNat b).flatten.toArray:=by
  let N:=λm=>by let:=mo b m [];rw[Z6]at this;show this
  rw[N];cases b with
  |nil=>simp
  |cons a P=>rfl
 show ab0 () #[_,e,W] (λB=>ZR B k t) noFill_list_mul F.fills_int_mul F.slot_int_rmul repeat_list F.slot_int_index.lookup
  (Yq F.slot_int_rmul (ZR s k t) F.entry_int_rmul (F.args_int_rmul_2 _ _) (int___rmul___int_list k t l b.toArray n)
   #[e,W,#[_,e,W],Yq F.slot_list_mul #[_,e,W] F.entry_list_mul (F.args_list_mul_2 _ _) (AutoListH.list___mul___list_int_3 l b.toArray n k t g o i) #[e,?_]])
 rw[j];show#[.ref _,_,I.agr (r.rep k.toNat) (by rw[zY,Nat.mul_comm];show G),W,q _ I.fresh]
section
variable{K:lD}
def fI(g:Int->Int->Int):D->D->z RV
 |.int i,.int j=>S (.fz (.int (g i j)))
 |_,_=>P
def fB(g:Int->Int->Bool):D->D->z RV
 |.int i,.int j=>S (.fz (.bool (g i j)))
 |_,_=>P
def Op(C:Int->Int->Bool)(g:Int->Int->Int):D->D->z RV
 |.int i,.int j=>if C i j=R then S (.fz (.int (g i j)))else P
 |_,_=>P
def CN(h:fI g I C=S o):∃i j,I=.int i/\C=.int j/\o=.fz (.int (g i j)):=by
 unfold fI at h;split at h
 .ext h;show#[_,_,W,W,W]
 .ext h
def LP:jL K (wY λi j=>.int (g i j)) (fI g):=by intro O H x y l f h Q n b a e q;let(i,j,rfl,rfl,rfl):=CN e;ext b;ext a;show#[i,j,W,W,q.at (.int _)]
def Gc:jL K (wY λi j=>.bl (g i j)) (fB g):=by
 intro O H x y l f h Q n b a e q;unfold fB at e;split at e
 .ext e;ext b;ext a;show#[_,_,W,W,q.at (.bl _)]
 .ext e
def oO(h:∀i j,C i j=R->o i j):jL K (rI o λi j=>.int (g i j)) (Op C g):=by
 intro O H x y p l m Q n b a e q;unfold Op at e;split at e
 .split at e
  .rename_i f;ext e;ext b;ext a;show#[_,_,W,W,h _ _ f,q.at (.int _)]
  .ext e
 .ext e
theorem B5(h:DX O K H x (.list ds)):∃a xs,x=.ref a/\X7 K H a xs/\Wg O K H xs ds:=h
theorem GW(h:DX O K H x (.tuple ds)):∃a xs,x=.ref a/\YO O K H a xs/\Wg O K H xs ds:=Ep h W
def LA(K:lD):R2:=λx y H Q=>wY (λi j=>.int (i+j)) x y H Q\/LF K x y H Q\/Ll K x y H Q
theorem Kg:OpR X (Wa .Add) (LA X.K):=OpR.or Pt (OpR.or Kq JT)
def cV:D->D->z RV
 |.int i,.int j=>S (.fz (.int (i+j)))
 |.list xs,.list ys=>if xs.length+ys.length<=1000000 then S (.ow (xs++ys))else P
 |.tuple xs,.tuple ys=>if xs≠[]/\xs.length+ys.length<=1000000 then S (.fz (.tuple (xs++ys)))else P
 |_,_=>P
theorem zC(h:n<=1000000):n<=UD:=Vb h ()
def Wg.ne(h:Wg O K H vs ds):vs=[]↔ds=[]:=by ext h<;>simp
def Iz:jL K (LA K) cV:=by
 intro O H x y u r t Q n m l e q;unfold cV at e;split at e
 .ext e;ext m;ext l;show .inl #[_,_,W,W,q.at (.int _)]
 .split at e
  .rename_i h;ext e;let(a,xs,rfl,i,f):=B5 m;let(b,j,rfl,o,g):=B5 l;show .inr (.inl #[a,b,xs,j,W,W,i,o,zC (by rw[f.length,g.length];show h),Fin.new (f.append g) q])
  .ext e
 .split at e
  .rename_i h;ext e;let(a,xs,rfl,i,f):=GW m;let(b,j,rfl,o,g):=GW l;show .inr (.inr #[a,b,xs,j,W,W,i.1,o.1,λz=>h.1 (f.ne.mp z),zC (by rw[f.length,g.length];show h.2),λz=>?_,λ_=>Fin.adS (f.append g) n q]);let p:=g.ne.mp z;subst p;rw[U9]at q;show q.at (.tup i f)
  .ext e
 .ext e
def FO(K:lD):R2:=λx y H Q=>rI adJ (λi j=>.int (i*j)) x y H Q\/Lx K x y H Q
theorem G8:OpR X (Wa .Mult) (FO X.K):=OpR.or PH J1
def fY(i:Int):Bool:=decide (-(2^64)<i/\i<2^64)
theorem pS(h:fY i=R): -(2^64)<i/\i<2^64:=a7 h
def yN:D->D->z RV
 |.int i,.int j=>if(fY i||fY j)=R then S (.fz (.int (i*j)))else P
 |.list xs,.int k=>if xs.length*k.toNat<=1000000/\ -(2^63)<=k/\k<2^63 then S (.ow (UA k.toNat xs).flatten)else P
 |_,_=>P
def IS:jL K (FO K) yN:=by
 intro O H x y m j l Q n g f e q;unfold yN at e;split at e
 .split at e
  .rename_i b
   ext e;ext g;ext f;show .inl #[_,_,W,W,?_,q.at (.int _)];rcases(VT _ _).mp b with z|z
   .show .inl (pS z)
   .show .inr (pS z)
  .ext e
 .split at e
  .rename_i b;ext e;ext f;let(a,xs,rfl,i,h):=B5 g;show .inr #[a,_,xs,W,W,i,b.2.1,b.2.2,zC (by rw[h.length];show b.1),Fin.new (h.flat _) q]
  .ext e
 .ext e
def nz:=fI λi j=>i - j
theorem Kb:jL K (wY λi j=>.int (i - j)) nz:=LP
def MK(_ j:Int):Bool:=decide (0<j)
def nF:=Op MK λi j=>i % j
theorem JH:jL K (rI (λ_ j=>0<j) λi j=>.int (i % j)) nF:=oO λi j h=>a7 h
def Py(_ j:Int):Bool:=decide (0<j/\j<2^128)
def xP:=Op Py λi j=>i/j
theorem J5:jL K (rI (λ_ j=>0<j/\j.natAbs.log2<9000) λi j=>.int (i/j)) xP:=oO λi j h=>by
 let b:=a7 h;show#[b.1,?_];let a:j.natAbs<2^128:=by ext
 let e:=(Nat.log2_lt ()).mpr a;ext
def vv(i j:Int):Bool:=decide (0<=j/\j<=1000000/\i.natAbs<2^64)
def yS(i j:Int)(h:vv i j=R):ED i j:=by unfold vv at h;show(show 0<=j/\j<=1000000/\i.natAbs<2^64 from a7 h)
def EZ:=Op vv λi j=>i^j.toNat
theorem KP:jL K (rI ED λi j=>.int (i^j.toNat)) EZ:=oO yS
def HJ:=Op vv λi j=>i*2^j.toNat
theorem HQ:jL K (rI ED λi j=>.int (i*2^j.toNat)) HJ:=oO yS
def SY(_ j:Int):Bool:=decide (0<=j)
def Ci:=Op SY λi j=>i/2^j.toNat
theorem Hw:jL K (rI (λ_ j=>0<=j) λi j=>.int (i/2^j.toNat)) Ci:=oO λi j h=>a7 h
def wN:=fI λi j=>Vx.bitAnd i j
theorem KY:jL K (wY λi j=>.int (Vx.bitAnd i j)) wN:=LP
def L8:=fB λi j=>decide (i<j)
def K4:=fB λi j=>decide (j<i)
def Qr:=fB λi j=>decide (j<=i)
theorem Mu:jL K (wY λi j=>.bl (decide (i<j))) L8:=Gc
theorem Nr:jL K (wY λi j=>.bl (decide (j<i))) K4:=Gc
theorem M7:jL K (wY λi j=>.bl (decide (j<=i))) Qr:=Gc
def kg(d:D):Bool:=d.canLay0&&decide (d.depth<=64)
def cX(d e:D):z RV:=if(kg d&&e.canLay0)=R then S (.fz (.bool (Uv.eqv d e)))else P
def qh(d e:D):z RV:=if(kg d&&e.canLay0)=R then S (.fz (.bool (!Uv.eqv d e)))else P
def Mw:jL K (JJ K A) cX:=by
 intro O H x y h g i Q n f b e q;unfold cX at e;split at e
 .rename_i a;ext e;unfold kg at a;simp only[Ur,decide_eq_true_eq]at a;show#[h,g,f.plain,b.plain,a.1.1,a.2,a.1.2,q.at (.bl _)]
 .ext e
def Nw:jL K (JJ K R) qh:=by
 intro O H x y h g i Q n f b e q;unfold qh at e;split at e
 .rename_i a;ext e;unfold kg at a;simp only[Ur,decide_eq_true_eq]at a;show#[h,g,f.plain,b.plain,a.1.1,a.2,a.1.2,q.at (.bl _)]
 .ext e
def qQ:D->D->z RV
 |.none,.none=>S (.fz (.bool R))
 |_,.none=>S (.fz (.bool A))
 |_,_=>P
def nu:D->D->z RV
 |.none,.none=>S (.fz (.bool A))
 |_,.none=>S (.fz (.bool R))
 |_,_=>P
def DN(h:DX O K H x d)(hd:d≠.none):x≠.Wu:=by
 cases d with
 |none=>simp_all
 |list ds=>let(a,xs,rfl,_):=B5 h;simp
 |tuple ds=>let(a,xs,rfl,_):=GW h;simp
 |bool b=>ext h;simp
 |int b=>ext h;simp
 |str b=>ext h;simp
 |dict b=>ext h
def J6:jL K (λx y H Q=>y=.Wu/\Q (.bl (decide (x=.Wu))) H) qQ:=by
 intro O H x y i g h Q n b a e q;unfold qQ at e;split at e
 .ext e;ext b;ext a;show#[W,q.at (.bl _)]
 .rename_i f;ext e;ext a;show#[W,?_];rw[a6 (DN b f)];show q.at (.bl _)
 .ext e
def Ht:jL K (λx y H Q=>y=.Wu/\Q (.bl (!decide (x=.Wu))) H) nu:=by
 intro O H x y i g h Q n b a e q;unfold nu at e;split at e
 .ext e;ext b;ext a;show#[W,q.at (.bl _)]
 .rename_i f;ext e;ext a;show#[W,?_];rw[a6 (DN b f)];show q.at (.bl _)
 .ext e
def Ie(K:lD)(neg:Bool):R2:=λx y H Q=>∃d ds,L2.DV K H x d/\(L2.DV K H y (.list ds)\/L2.DV K H y (.tuple ds))/\d.canLay0=R/\Uv.canLayAll0 ds=R/\d.depth<=64/\Q (.bl (if neg then !(ds.any λe=>Uv.eqv e d)else ds.any λe=>Uv.eqv e d)) H
def Pv(p:X.A.units+65<cLine):OpR X (V5 .In) (Ie X.K A):=by
 intro g s o H x y v u Q I l e h;let(d,ds,n,a,j,i,m,q):=h;let(as,f):=n.reads I l;let hm:min (Uv.depthAll ds) d.depth<=64:=Vb (adD _ _) m;rcases a with a|a
 .let(bs,b):=a.reads I e;show ah6 b f i j () #[.bl _,H,I,W,q]
 .let(bs,b):=a.reads I e;show ah7 b f i j () #[.bl _,H,I,W,q]
def KS(p:X.A.units+65<cLine):OpR X (V5 .NotIn) (Ie X.K R):=by
 intro g s o H x y v u Q I l e h;let(d,ds,n,a,j,i,m,q):=h;let(as,f):=n.reads I l;let hm:min (Uv.depthAll ds) d.depth<=64:=Vb (adD _ _) m;rcases a with a|a
 .let(bs,b):=a.reads I e;show ah8 b f i j () #[.bl _,H,I,W,q]
 .let(bs,b):=a.reads I e;show ah9 b f i j () #[.bl _,H,I,W,q]
def GS(d e:D):z RV:=match dZ e with
 |some ds=>if(kg d&&Uv.canLayAll0 ds)=R then S (.fz (.bool (ds.any λe=>Uv.eqv e d)))else P
 |none=>P
def uZ(d e:D):z RV:=match dZ e with
 |some ds=>if(kg d&&Uv.canLayAll0 ds)=R then S (.fz (.bool (!ds.any λe=>Uv.eqv e d)))else P
 |none=>P
def Cu(a:DX O K H y e)(h:dZ e=S ds):L2.DV K H y (.list ds)\/L2.DV K H y (.tuple ds):=by
 unfold dZ at h;split at h
 .ext h;show .inr a.plain
 .ext h;show .inl a.plain
 .ext h
def NA:jL K (Ie K A) GS:=by
 intro O H x y i h j Q n f b e q;unfold GS at e;split at e
 .rename_i ds g
  split at e
  .rename_i a;ext e;unfold kg at a;simp only[Ur,decide_eq_true_eq]at a;show#[i,ds,f.plain,Cu b g,a.1.1,a.2,a.1.2,q.at (.bl _)]
  .ext e
 .ext e
def JI:jL K (Ie K R) uZ:=by
 intro O H x y i h j Q n f b e q;unfold uZ at e;split at e
 .rename_i ds g
  split at e
  .rename_i a;ext e;unfold kg at a;simp only[Ur,decide_eq_true_eq]at a;show#[i,ds,f.plain,Cu b g,a.1.1,a.2,a.1.2,q.at (.bl _)]
  .ext e
 .ext e
def aZ(d e:D):z RV:=match dZ d,e with
 |some ds,.int i=>(jS ds i).map .fz
 |_,_=>P
def DG(h:Wg O K H xs ds)(e:jS ds i=S d):∃v,jS xs i=S v/\DV O K H v d:=by
 unfold jS at e⊢;rw[h.length];cases q:LJ ds.length i with
 |none=>simp_all
 |some j=>rw[q]at e;show h.get e
def Du:jL K (RD K) aZ:=by
 intro O H x y t o r Q n l m e q;unfold aZ at e;split at e
 .rename_i ds i b
  ext m;cases p:jS ds i with
  |none=>simp_all
  |some d=>
   rw[p]at e;ext e;unfold dZ at b;split at b
   .ext b;let(a,xs,rfl,h,g):=GW l;let(v,f,j):=DG g p;show .inr (.inl #[a,xs,i,v,W,W,h.1,f,q.at j])
   .ext b;let(a,xs,rfl,h,g):=B5 l;let(v,f,j):=DG g p;show .inl #[a,xs,i,v,W,W,h.sq,f,q.at j]
   .ext b
 .ext e
def c9:G D->z RV
 |[d]=>(match dZ d with
  |some ds=>S (.fz (.int ds.length))
  |none=>P)
 |_=>P
def N8:B7 K (λxs H Q=>∃x n,xs=[x]/\QK K x H n/\Q (.int n) H) c9:=by
 intro O H xs ds i Q n h e q;unfold c9 at e;split at e
 .split at e
  .rename_i es f
   ext e;cases h with
   |cons b g=>
    ext g;unfold dZ at f;split at f
    .ext f;let(a,xs,rfl,b,g):=GW b;show#[_,xs.length,W,.inr #[xs,b.1,W],by rw[g.length];show q.at (.int _)]
    .ext f;let(a,xs,rfl,b,g):=B5 b;show#[_,xs.length,W,.inl #[xs,b.sq,W],by rw[g.length];show q.at (.int _)]
    .ext f
  .ext e
 .ext e
def gp:G D->z RV
 |[.tuple ds]=>S (.fz (.tuple ds))
 |[.list ds]=>S (.fz (.tuple ds))
 |_=>P
def Cv:B7 K (λxs H Q=>∃p ys,xs=[.ref p]/\((Ys K H p ys/\∀l,H l=P->Q (.ref l) (aW H l (.tup ys)))\/(Yt K H p ys/\Q (.ref p) H))) gp:=by
 intro O H xs ds h Q n g e q;unfold gp at e;split at e
 .ext e
  cases g with
  |cons b f=>ext f;let(a,xs,rfl,b,f):=GW b;show#[a,xs,W,.inr #[b.1,q.at (.tup b f)]]
 .ext e
  cases g with
  |cons b f=>ext f;let(a,xs,rfl,b,f):=B5 b;show#[a,xs,W,.inl #[b.sq,Fin.adS f n q]]
 .ext e
def rA:G D->z RV
 |[d]=>(dZ d).map .ow
 |_=>P
def Kx:B7 K (λxs H Q=>∃p ys,xs=[.ref p]/\(Ys K H p ys\/Yt K H p ys)/\∀l,H l=P->Q (.ref l) (aW H l (.lst ys))) rA:=by
 intro O H xs ds i Q n g e q;unfold rA at e;split at e
 .rename_i d
  cases g with
  |cons b f=>
   ext f;cases h:dZ d with
   |none=>simp_all
   |some es=>
    rw[h]at e;ext e;unfold dZ at h;split at h
    .ext h;let(a,xs,rfl,b,f):=GW b;show#[a,xs,W,.inr b.1,Fin.new f q]
    .ext h;let(a,xs,rfl,b,f):=B5 b;show#[a,xs,W,.inl b.sq,Fin.new f q]
    .ext h
 .ext e
def vk:G D->z RV
 |[.int i,.int j]=>S (.fz (.int (if j>i then j else i)))
 |_=>P
def HM:B7 K (λxs H Q=>∃i j,xs=[.int i,.int j]/\Q (.int (if j>i then j else i)) H) vk:=by
 intro O H xs ds h Q n b e q;unfold vk at e;split at e
 .ext e
  cases b with
  |cons g a=>
   cases a with
   |cons a f=>ext f;ext g;ext a;show#[_,_,W,q.at (.int _)]
 .ext e
end
end L3
namespace PySem
open Sem (wp)
open AutoSeq1 (wpAny_loadPart')
open Builtin Builtin.Str
section
variable{Y:UR}{w:Va}{A:U4}{E:CL->Uw->Prop}{s:Uw}
def kS(a:s.heap.IsTupleIter it t i)(j:s.heap.IsTuple t items)(h:items[i]?=S x)
  (m:∀c,c.IsTupleIter it t (i+1)->Heap.SameBut it s.heap c->Q x {s with heap:=c}):wpAny (model Y w) A (Vx.SmallTypes.nextOf (.ref it)) Q E s:=by
 let(o,e,l,b):=id a;let(n,f,_,p,g):=j;ext Vx.SmallTypes.nextOf;show Ld (Xz a.typeIs F.slot_tuple_iterator_next
  (Xe F.slot_tuple_iterator_next a.typeIs F.entry_tuple_iterator_next ?_ (F.args_tuple_iterator_next_1 _)))
 show wpAny _ _ (field (.ref it) 0>>=_) _ _ s;show Ld (Vc e b W ?_);show wpAny _ _ (if(CL.ref t==CL.none)=R then _ else _) _ _ s;rw[a4 (show¬((CL.ref t==CL.none)=R)from UH)];show Ld (Vc e b W ?_);show Ld (VW f g ?_);simp only[VR,h];show Ld (VQ e b (by simp) (UB #[x,W,UB (m _ ?_ (Heap.SameBut.update ..))]));show#[_,dt _ e (ef (ec b _)),(Obj.cls_mapFields ..).trans l,by rw[ec b];simp[rawInt]]
def mF(j:A.handled=P)(a:s.heap.IsTupleIter it t i)(m:s.heap.IsTuple t items)(l:items[i]?=P)
  (n:∀c e,Heap.ExtBut it s.heap c->(∃o,c.get? e=S o/\o.cls=.type "StopIteration")->E (.ref e) {s with heap:=c}):wpAny (model Y w) A (Vx.SmallTypes.nextOf (.ref it)) Q E s:=by
 let(o,f,r,h):=id a;let(p,b,_,q,g):=m;ext Vx.SmallTypes.nextOf;show Ld (Xz a.typeIs F.slot_tuple_iterator_next
  (Xe F.slot_tuple_iterator_next a.typeIs F.entry_tuple_iterator_next ?_ (F.args_tuple_iterator_next_1 _)))
 show wpAny _ _ (field (.ref it) 0>>=_) _ _ s;show Ld (Vc f h W ?_);show wpAny _ _ (if(CL.ref t==CL.none)=R then _ else _) _ _ s;rw[a4 (show¬((CL.ref t==CL.none)=R)from UH)];show Ld (Vc f h W ?_);show Ld (VW b g ?_);simp only[VR,l];show Ld (ZS (Ld (VQ f h (by simp) ?_)));show Ld ?_;simp only[newExc,newTuple];show Ld (We ?_ (by size_fits));show Ld (aaP (by first|rfl|(simp only[firstArgMember];rfl)) ?_);show We ?_ (by size_fits);simp only[raiseNew];show Ld (wpAny_handled ?_)
 first|rw[show A.in1.handled=P from j]|rw[j]
 show Ld (UB (wpAny_throw ?_));show n _ _ (((Heap.SameBut.update ..).extBut.push _).push _) #[_,cv _ W,W]
end
end PySem
namespace L3
open PySem PySem.Spec PyProof.Rows L2
def Hv(I:Inv X pins σ H s)(j:Yt X.K H a xs)(i:Yt X.K H a ys):xs=ys:=by
 let(f,h,(o,e1,_,n,l),_):=I.tuple j;let(b,g,(m,e2,_,p,e),_):=I.tuple i;rw[e1]at e2;ext e2;rw[l]at e;let:f=b:=by
  let q:f.toArray=b.toArray:=by injection e
  simpa using q
 subst this;show h.inj g
def Bc{bs:G Bool}(r:Vals (bs.map V.bl) o){i:Nat}(h:o[i]?=S v):∃b,bs[i]?=S b/\v=.bool b:=by
 let e:=r.length;rw[Us]at e;let g:i<bs.length:=by rw[e];show(Ux.mp h).1
 let(u,a,f):=r.get (by rw[UG,UE g];rfl);rw[h]at a;ext a;show#[bs[i],UE g,f]
def xo(bs:G Bool):((UM bs.length).all λi=>(bs[i]?).getD R)=bs.all id:=by
 rw[Xd,VP,VP];constructor
 .intro h b a;let(i,f,e):=List.mem_iff_getElem.mp a;let:=h i (WE.mpr f);rw[UE f,e]at this;show this
 .intro h i f;let f:=WE.mp f;rw[UE f];show h _ (ZL f)
section
variable{X:Cx}
def E1(w:X.calm=R):WM X (.builtin "all") (λxs H Q=>∃(p:Uu) (bs:b3 Bool),xs=[.ref p]/\Ys X.K H p (bs.map V.bl)/\Q (.bl (bs.all id)) H):=by
 intro f s B H xs C Q I r h;let(l,bs,rfl,n,q):=h;let(u,rfl,m):=j4 r;ext m;let(j,N,pl,G):=I.list n;let a:=N.length;rw[Us]at a;let z:l<s.heap.objs.size:=by let(_,_,e,_):=pl;show cn e
 show call_all_walk (Yg pl.isList ?_);show#[s.heap.objs.size,[s.heap.objs.size,l],[s.heap.objs.size],j.toArray.size,_,_,λi=>(bs[i]?).getD R,W,Walks.list (A:=X.A.in1) (I.ok.hd w) _ l (UY z) j.toArray,
  #[#[_,cv _ W,W,W],pl.isList.push _],λi v F L M y g=>?_,λJ E t=>?_]
 .let(b,e,rfl):=Bc N (by simpa using y);simp only[e,acv]at g;show WA g
 .rw[US,<-a,xo];show#[.bl _,H,I.kept λb o e=>t b o (λhm=>?_) (ck _ e),W,q];rw[Ve.mp hm]at e;show VN _ (cn e)
end
section
variable{K:lD}
def ng:G D->z (G Bool)
 |[]=>S []
 |.bool b::r=>(ng r).map (b::·)
 |_=>P
theorem AD:∀{xs:G V} {ds:G D} {bs:G Bool},Wg O K H xs ds->ng ds=S bs->xs=bs.map V.bl
 |_,_,_,.nil,e=>by ext e;rfl
 |_,_,bs,.cons (ds:=r) h t,e=>by
  cases h with
  |bl b=>
   let a:(ng r).map (b::·)=S bs:=e;cases q:ng r with
   |none=>rw[q]at a;ext a
   |some f=>rw[q]at a;ext a;rw[AD t q];rfl
  |_=>ext e
def nG:G D->z RV
 |[.list ds]=>(ng ds).map λbs=>.fz (.bool (bs.all id))
 |_=>P
def OO:B7 K (λxs H Q=>∃(p:M) (bs:G Bool),xs=[.ref p]/\Ys K H p (bs.map V.bl)/\Q (.bl (bs.all id)) H) nG:=by
 intro O H xs ds j Q n g e q;unfold nG at e;split at e
 .rename_i es
  cases i:ng es with
  |none=>rw[i]at e;ext e
  |some bs=>
   rw[i]at e;ext e;cases g with
   |cons f b=>ext b;let(a,h,rfl,f,b):=B5 f;let:=AD b i;subst this;show#[a,bs,W,f.sq,q.at (.bl _)]
 .ext e
def mG:G D->z (G Int)
 |[]=>S []
 |.int b::r=>(mG r).map (b::·)
 |_=>P
theorem om:∀{xs:G V} {ds:G D} {bs:G Int},Wg O K H xs ds->mG ds=S bs->xs=bs.map V.int
 |_,_,_,.nil,e=>by ext e;rfl
 |_,_,bs,.cons (ds:=r) h t,e=>by
  cases h with
  |int b=>
   let a:(mG r).map (b::·)=S bs:=e;cases q:mG r with
   |none=>rw[q]at a;ext a
   |some f=>rw[q]at a;ext a;rw[om t q];rfl
  |_=>ext e
def yx(x:Int):G Int->G Int
 |[]=>[x]
 |y::r=>if x<=y then x::y::r else y::yx x r
def je:G Int->G Int
 |[]=>[]
 |x::r=>yx x (je r)
theorem lS(x:Int):∀l,(yx x l).Perm (x::l)
 |[]=>ZH _
 |y::r=>by
  ext yx;split
  .show ZH _
  .show((lS x r).cons y).trans (alR x y r)
theorem dS:∀l,(je l).Perm l
 |[]=>ZH _
 |x::r=>(lS x _).trans ((dS r).cons x)
theorem mS(x:Int):∀l:G Int,l.Pairwise (·<=·)->(yx x l).Pairwise (·<=·)
 |[],_=>by simp[yx]
 |y::r,h=>by
  ext yx;let(f,g):=Ya.mp h;split
  .rename_i a
   show Ya.mpr #[λz b=>?_,h];rcases U5.mp b with e|e
   .rw[e];show a
   .let:=f z e;ext
  .rename_i a
   show Ya.mpr #[λz b=>?_,mS x r g];rcases U5.mp ((lS x r).mem_iff.mp b)with e|e
   .rw[e];ext
   .show f z e
theorem dk:∀l,(je l).Pairwise (·<=·)
 |[]=>YH
 |x::r=>mS x _ (dk r)
theorem jx{l m:G Int}(e:l.Perm m)(f:l.Pairwise (·<=·))(hm:m.Pairwise (·<=·)):l=m:=e.eq_of_pairwise (λa b _ _ h g=>Int.le_antisymm h g) f hm
def uR:G D->z RV
 |[.list ds]=>(match mG ds with
  |some a=>if a.length<64 then S (.ow ((je a).map .int))else P
  |none=>P)
 |_=>P
def pN(a:G Int):Wg O K H (a.map V.int) (a.map .int):=by
 induction a with
 |nil=>show .nil
 |cons n r b=>show .cons (.int n) b
def A4:B7 K (λxs H Q=>∃(p:M) (b:G Int),xs=[.ref p]/\Ys K H p (b.map V.int)/\b.length<64/\∀(l:M) (f:G Int),H l=P->f.Perm b->f.Pairwise (·<=·)->Q (.ref l) (aW H l (.lst (f.map V.int)))) uR:=by
 intro O H xs ds u Q n g e q;unfold uR at e;split at e
 .rename_i es
  cases t:mG es with
  |none=>rw[t]at e;ext e
  |some b=>
   rw[t]at e;dsimp only at e;split at e
   .rename_i h
    ext e;cases g with
    |cons j i=>ext i;let(a,r,rfl,j,i):=B5 j;let:=om i t;subst this;show#[a,b,W,j.sq,h,λl f h g m=>?_];let o:=jx (g.trans (dS b).symm) m (dk b);subst o;show Fin.new (pN _) q l h
   .ext e
 .ext e
end
def Tk(K:lD)(H:Hp)(x:V)(t:String):Prop:=match x with
 |.Wu=>t= "NoneType"
 |.bl _=>t= "bool"
 |.int _=>t= "int"
 |.str _=>t= "str"
 |.ref a=>(t= "list"/\∃xs,Ys K H a xs)\/(t= "tuple"/\∃xs,Yt K H a xs)
 |_=>False
def DB(K:lD):G V->Hp->VK->Prop:=λxs H Q=>∃x n t b,xs=[x,.ty n]/\Tk K H x t/\Vr K (.type t) (.type n)=S b/\Q (.bl b) H
def sj{X:Cx}:WM X (.builtin "isinstance") (DB X.K):=by
 intro j s v H xs C Q I r h;let(x,n,t,b,rfl,ty,e,q):=h;let(u,w,rfl,g,A):=mQ r;obtain rfl:w=CL.type n:=A;let f:∀l,EP X j v Q (.bool b) {s with toks:=l}:=λl=>#[.bl b,H,I.tok l,W,q];cases x with
 |Wu=>cases(show t= "NoneType" from ty);cases(show u=CL.none from g);show Vn abW I.XU True.intro e (λz=>nomatch z) f
 |bl y=>cases(show t= "bool" from ty);cases(show u=CL.bool y from g);show Vn abX I.XU True.intro e (λz=>nomatch z) f
 |int i=>cases(show t= "int" from ty);let(t,q):=(show∃t,u=CL.int i t from g);ext q;show Vn ab6 I.XU True.intro e (λz=>nomatch z) f
 |str y=>cases(show t= "str" from ty);let(t,q):=(show∃t,u=CL.str y t from g);ext q;show Vn ab7 I.XU True.intro e (λz=>nomatch z) f
 |ref a=>
  cases(show u=CL.ref a from g);rcases ty with⟨rfl,xs,h⟩|⟨rfl,xs,h⟩
  .let(B,r,(o,k,p,m,_),_):=I.list h;show Vn Zf I.XU #[_,p,m] e (λz=>nomatch z) f
  .let(B,r,(o,p,m,_),_):=I.tuple h;show Vn abp I.XU #[o,p,m] e (λz=>nomatch z) f
 |_=>show(show False from ty).elim
section
variable{K:lD}{E:XK}{B O L:bE}{X H J:Hp}{T:L2.St}{Y N:aL}{v:V}
def wB:D->z String
 |.none=>S "NoneType"
 |.bool _=>S "bool"
 |.int _=>S "int"
 |.str _=>S "str"
 |.list _=>S "list"
 |.tuple _=>S "tuple"
 |.dict _=>P
def yO(n t:String):Bool:=n==t||(n== "int"&&t== "bool")
def nX{n t:String}(b:n= "int"\/n= "bool"\/n= "str"\/n= "list"\/n= "tuple"){d:D}(a:wB d=S t):Vr K (.type t) (.type n)=S (yO n t):=by ext d<;>(ext a;try (rcases b with rfl|rfl|rfl|rfl|rfl<;>rfl))
def Lu{x:V}{d:D}{t:String}(h:DX O K H x d)(e:wB d=S t):Tk K H x t:=by
 cases d with
 |none=>ext e;ext h;rfl
 |bool b=>ext e;ext h;rfl
 |int b=>ext e;ext h;rfl
 |str b=>ext e;ext h;rfl
 |dict b=>ext e
 |list ds=>ext e;let(a,xs,rfl,f,_):=B5 h;show .inl #[W,xs,f.sq]
 |tuple ds=>ext e;let(a,xs,rfl,f,_):=GW h;show .inr #[W,xs,f.1]
def rj(n:String)(b:FE):FE:=λY=>(b Y).bind λa=>(Res.Vu (Cd a.2 a.1)).bind λd=>(Res.Vu (wB d)).bind λt=>.ok (.fz (.bool (yO n t)),a.2)
def MM{n:String}{c:TE}{j:FE}(k:n= "int"\/n= "bool"\/n= "str"\/n= "list"\/n= "tuple")(l:EO K E c j):EO K E (zP (DB K) (eO c (eO (tC (.ty n)) iq))) (rj n j):=by intro B X O T H Y Q R w;show l B X O T H Y _ R (w.bind.imp λa b h x i e1 f g=>?_);let(d,q,b):=b.Vu;let(t,e,b):=b.Vu;show#[x,n,t,yO n t,W,Lu (sE f g q) e,nX k e,b h _ i e1 f (.bl _)]
end
def BK{P:UR}{w:Va}{K:lD}{D m:Str->b4 U}{k:Nat}{T a:M}{fd:Vv}{x:Str}{F:FN}{b:Uw}{c:b3 U}{f:b3 Int}
  (q:K.In b.heap) (g:b.heap.Ns UL D) (A:b.heap.Ns builtinsNs m) (i:∀x:Str,x≠ "__name__"->m x=Vl x) (j:b.heap.NoLimit) (y:b.gens= #v[])
  (N:b.heap.get? a=S {cls:=.type "list",data:=.seq c.toArray}) (V:IntsAre c f) (p:f.length<=UD) (t:Wl k callerA)
  (I:∀base:Heap,K.In base->base.Ns UL D->FnOk P w K D base jD k T fd [x] (Bh K 1 F)) (l:∀(s:Uw) (u:U),Y4 s fd #[[u],[]] [(x,u)])
  (C:F [.list (f.map .int)]=.ok (.fz (.bool R))):
  codeAny (model P w) callerA (.call (.ref T) #[[.ref a],[]]) (λr d=>r=.ok (.ret (.bool R))/\OldK b.heap d.heap/\d.os=b.os/\AllBare d.gens) b:=by
 show FJ (sp:=λc H Q E=>Bh K 1 F c H Q E\/(c.length=1/\False)) q g A i j y N V p t (λbase k1 k2=>(I base k1 k2).imp λc H Q E h=>?_) l (λH J B=>?_) λ_ _ _ h=>h
 .rcases h with h|h
  .show h
  .show h.2.elim
 .show .inl #[W,noO,[.list (f.map .int)],λa z=>z.elim,.cons (.lst #[?_,λz=>z.elim] (pN f)) .nil,?_]
  .rcases B with h|⟨o,Vk,n,h1,h2,h3,Y,h5,X⟩
   .show .inl h
   .let e:=q a o h1;rw[N]at e;ext e;ext Y;show .inr #[c,0,h1,by rw[Us];show p,by simpa using X]
  .rw[C];show λv L s G=>by ext G;rfl
def QA{l:acw}{n k:Nat}{q:UR}{i:b3 Str}{N:(Str->b4 CL)->Heap->Prop}{A:Va->Heap->Prop}{d:DefRec}{K:Params->lD}{F:FN}{x:Str}
  (D:l.most=cL n) (m:n<=UD) (r:d.params.defaults=[]) (C:Wl k callerA)
  (J:∀(w:Va) (h:Heap),A w h->(K w.params).In h)
  (O:∀(w:Va) (b:Str->b4 CL) (c:Uu) (h:Heap),(K w.params).In h->h.Ns UL b->b d.name=cL (.ref c)->
   ∃fd:Vv,(∀(s:Uw) (u:CL),Y4 s fd #[[u],[]] [(x,u)])/\∀base:Heap,(K w.params).In base->base.Ns UL b->FnOk l.prog w (K w.params) b base jD k c fd [x] (Bh (K w.params) 1 F))
  (L:∀ns:b3 Int,ns.length<=n->F [.list (ns.map .int)]=.ok (.fz (.bool Uq))):
  PySem.W.WalkO q i N A l.row.toRowW d [] (λf g=>afX f g):=by
 show Att.attach_call D r λw z y b Q c o P U M a g ns G Y R S H p v j e E=>?_;let B:=J w _ Y;let(fd,I,t):=O w b c _ B G.T.g p;show BK B G.T.g G.T.b G.T.builtins G.T.nolimit E v j (Vb e m) C t I (L ns e)
def Td{P:UR}{w:Va}{K:lD}{d:Str->z U}{base:Heap}{x a:Str}{b:Wm}{f:M}{fd:Vv}{N c:G Str}{k n m:Nat}{g:FS}{h:FN}(F:Zo K x a b f fd)(S:Wy N c (au b))(l:c.length=n)(hm:N.length=m)(i:h=fK m g)
  (j:∀(e:U) (A:U4) (outer:G Env) (s:Uw) (H:Hp) (E:XK),Wl k (A.deeper (Vd a (au b) s.heap.objs.size f e))->
   ∃t,Z9 (dR jD P w K d base N a (au b) f e A outer s H E).nox (bQ b) t/\SO K E t g):FnOk P w K d base jD (k+1) f fd c (Bh K n h):=by
 subst i hm;show T5 F S l j
abbrev Su(P:UR)(w:Va)(K:lD)(b:Str->z U)(base:Heap)(k:Nat)(x:Str)(a:G Str)(n:Nat)(F:FN):Prop:=oX P w K b base k x a (Bh K n F)
end L3
namespace L3
open PySem L2
abbrev nd(n:Nat):D:=.int (n:Int)
def bq(a:G Nat):G D:=a.map nd
def fh(a:G Nat):(bq a).length=a.length:=by ext bq;rw[Us]
def Ku(xs a:G Nat):bq (xs++a)=bq xs++bq a:=by ext bq;rw[UP]
def oi{i:Nat}(h:(bq ns)[i]?=S d):∃n,ns[i]?=S n/\d=nd n:=by
 unfold bq at h;rw[UG]at h;cases e:ns[i]? with
 |none=>rw[e]at h;ext h
 |some n=>rw[e]at h;show#[n,W,(UI h).symm]
theorem aR(a:α):Res.Vu (S a)=.ok a:=W
theorem vj(a:α):i9 (Res.ok a)=.ok a:=W
theorem x3(i:Nat)(a:aL):ad i a=zB a i a[i]? :=W
theorem Fa(a:aL)(i:Nat)(d:D):zB a i (S (S (.fz d)))=.ok (.fz d,a):=W
theorem Gu(a:aL)(i:Nat)(ds:G D):zB a i (S (S (.ow ds)))=.ok (.pl i,a):=W
theorem l9(ds:G D):Dr (S (S (.ow ds)))=S ds:=W
theorem C3(i:Nat)(d:D)(a:aL):gN i (.fz d) a=.ok (a.set i (S (.fz d))):=W
theorem vL(b:Bool):SI (.bool b)=S b:=W
theorem jt(ds:G D):c9 [.tuple ds]=S (.fz (nd ds.length)):=W
theorem eB(ds:G D):c9 [.list ds]=S (.fz (nd ds.length)):=W
theorem kq(i j:Int):L8 (.int i) (.int j)=S (.fz (.bool (decide (i<j)))):=W
theorem Am(i j:Int):K4 (.int i) (.int j)=S (.fz (.bool (decide (j<i)))):=W
theorem u6(i j:Int):Qr (.int i) (.int j)=S (.fz (.bool (decide (j<=i)))):=W
theorem fM(i j:Int):cV (.int i) (.int j)=S (.fz (.int (i+j))):=W
theorem mH(i j:Int):nz (.int i) (.int j)=S (.fz (.int (i - j))):=W
def sL(h:0<j):nF (.int i) (.int j)=S (.fz (.int (i % j))):=by show(if MK i j=R then _ else _)=_;rw[ax (show MK i j=R from a5 h)]
def Cm(h:0<j/\j<2^128):xP (.int i) (.int j)=S (.fz (.int (i/j))):=by show(if Py i j=R then _ else _)=_;rw[ax (show Py i j=R from a5 h)]
def KO(h: -(2^64)<i/\i<2^64):yN (.int i) (.int j)=S (.fz (.int (i*j))):=by show(if(fY i||fY j)=R then _ else _)=_;rw[ax (by rw[show fY i=R from a5 h,Xq])]
def Jk(h: -(2^64)<j/\j<2^64):yN (.int i) (.int j)=S (.fz (.int (i*j))):=by show(if(fY i||fY j)=R then _ else _)=_;rw[ax (by rw[show fY j=R from a5 h,X1])]
def Kh(h:jw j):iE [.int j]=S (fC 0 j.toNat):=by show(if jw j then _ else _)=_;rw[ax h]
def D4(n:Nat):fC 0 n=bq (UM n):=by unfold fC bq;apply X0;intro k _;rw[Int.zero_add]
def iw(h:n<=1000000):iE [nd n]=S (bq (UM n)):=by rw[Kh (by ext jw;ext),D4,VR]
def DW(h:f C=.ok (.nx o)):bu f g C=g o:=by ext bu;rw[h];rfl
def C7(h:f o=.ok (.rt C)):bu f g o=.ok (.rt C):=by ext bu;rw[h];rfl
def Sm(h:c C=.ok (R,o)):kM c f g C=f o:=by ext kM;rw[h];rfl
def Sj(h:c C=.ok (A,o)):kM c f g C=g o:=by ext kM;rw[h];rfl
def yB(h:I C=.ok (ds,o)):mj I gt b C=nj gt b ds o:=by ext mj;rw[h];rfl
def OY(h:j<=1000000/\i.natAbs<2^64):EZ (.int i) (nd j)=S (.fz (.int (i^j))):=by show(if vv i (j:Int)=R then S (RV.fz (.int (i^((j:Nat):Int).toNat)))else P)=_;rw[ax (by ext vv;show a5 #[by ext,by ext,h.2]),VR]
theorem La:EZ (.int 10) (.int 18)=S (.fz (.int (10^18))):=OY #[by decide,by decide]
def jb(gt:FG)(f:FT)(g:FE)(d:D)(c:aL):Res (z D×aL):=(gt (.fz d) c).bind λe=>(f e).bind λb=>if b.1=R then(g b.2).bind λa=>(Res.Vu (vo a.2 a.1)).bind λx=>.ok (S x.1,cJ x.2)else .ok (P,cJ b.2)
def pp(h:jb gt J fe d I=.ok (o,C))(g:acc.length<1000000):cW gt J fe (d::r) I acc=cW gt J fe r C (acc++o.toList):=by
 unfold jb at h;show(gt (.fz d) I).bind _=_;cases l:gt (.fz d) I with
 |er x=>rw[l]at h;ext h
 |bad=>rw[l]at h;ext h
 |ok f=>
  rw[l,ey]at h;rw[ey];cases j:J f with
  |er x=>rw[j]at h;ext h
  |bad=>rw[j]at h;ext h
  |ok b=>
   let(b,e):=b;rw[j,ey]at h;rw[ey];cases b with
   |false=>rw[a4 UH]at h⊢;ext h;rw[ab1,U9]
   |true=>
    rw[ax W]at h⊢;cases i:fe e with
    |er x=>rw[i]at h;ext h
    |bad=>rw[i]at h;ext h
    |ok a=>
     rw[i,ey]at h;rw[ey];cases m:vo a.2 a.1 with
     |none=>rw[m]at h;ext h
     |some x=>rw[m]at h;ext h;show(if acc.length<1000000 then _ else _)=_;rw[ax g];rfl
def IH(c:Nat)(h:c<=1000):HJ (.int 1) (nd c)=S (.fz (nd (2^c))):=by show(if vv 1 (c:Int)=R then S (RV.fz (.int (1*2^((c:Nat):Int).toNat)))else P)=_;rw[ax (by ext vv;show a5 #[by ext,by ext,by decide]),Int.one_mul,VR];congr 3
def Og(a b:Nat):decide ((a:Int)=(b:Int))=decide (a=b):=by
 by_cases h:a=b
 .rw[a5 h,a5 (by rw[h])]
 .rw[a6 h,a6 ()]
theorem Fx(a b:Nat):Uv.eqv (nd a) (nd b)=decide (a=b):=Og a b
def iu(a b:Int):cX (.int a) (.int b)=S (.fz (.bool (decide (a=b)))):=by rfl
def uh(a b:Int):qh (.int a) (.int b)=S (.fz (.bool (!decide (a=b)))):=by rfl
theorem lc:∀ns:G Nat,Uv.canLayAll0 (bq ns)=R
 |[]=>rfl
 |n::r=>by show(Uv.canLay0 (nd n)&&Uv.canLayAll0 (bq r))=R;rw[lc r];rfl
theorem oj:∀ns:G Nat,Uv.depthAll (bq ns)=0
 |[]=>rfl
 |n::r=>by show max (Uv.depth (nd n)) (Uv.depthAll (bq r))=0;rw[oj r];rfl
theorem zF:∀xs ys:G Nat,Uv.eqvAll (bq xs) (bq ys)=decide (xs=ys)
 |[],[]=>rfl
 |[],_::_=>rfl
 |_::_,[]=>rfl
 |n::r,m::t=>by show(Uv.eqv (nd n) (nd m)&&Uv.eqvAll (bq r) (bq t))=_;rw[zF r t,Fx];rw[Xd];simp
def MA(a:G Nat):kg (.list (bq a))=R:=by show(Uv.canLayAll0 (bq a)&&decide (Uv.depthAll (bq a)+1<=64))=R;rw[lc,oj];rfl
def tU(xs a:G Nat):cX (.list (bq xs)) (.list (bq a))=S (.fz (.bool (decide (xs=a)))):=by ext cX;rw[MA,show Uv.canLay0 (.list (bq a))=R from lc a,WW,ax W,show Uv.eqv (.list (bq xs)) (.list (bq a))=_ from zF xs a]
def Jt(x:Nat)(xs:G Nat):((bq xs).any λe=>Uv.eqv e (nd x))=decide (x∈xs):=by
 induction xs with
 |nil=>rfl
 |cons y r a=>
  show(Uv.eqv (nd y) (nd x)||(bq r).any λe=>Uv.eqv e (nd x))=_;rw[a,Fx];by_cases h:y=x
  .rw[a5 h,a5 (show x∈y::r by rw[h];show UX),Xq]
  .rw[a6 h,Yn]
   by_cases g:x∈r
   .rw[a5 g,a5 (UN _ g)]
   .rw[a6 g,a6 (λz=>(U5.mp z).elim (λe=>h e.symm) g)]
def sS(x:Nat)(xs:G Nat):GS (nd x) (.tuple (bq xs))=S (.fz (.bool (decide (x∈xs)))):=by show(if(kg (nd x)&&Uv.canLayAll0 (bq xs))=R then _ else _)=_;rw[lc,show kg (nd x)=R from rfl,WW,ax W,Jt]
theorem F7{i:Nat}(h:xs[i]?=S v):jS xs (i:Int)=S v:=AE h
def Ob(h:ds[i]?=S d):aZ (.tuple ds) (nd i)=S (.fz d):=by show(jS ds (i:Int)).map RV.fz=_;rw[F7 h];rfl
def zl(h:ds[i]?=S d):aZ (.list ds) (nd i)=S (.fz d):=by show(jS ds (i:Int)).map RV.fz=_;rw[F7 h];rfl
section
variable{Y ρ1 X L:aL}{N Z E T:FE}{pa J pv:PV}{dx I d:D}{rv:RV}{Q:b3 PV}{ds:b3 D}
def ag(h:Y[i]?=S (S (.fz d))):ad i Y=.ok (.fz d,Y):=by rw[x3,h,Fa]
def iM(h:Y[i]?=S (S (.ow ds))):ad i Y=.ok (.pl i,Y):=by rw[x3,h,Gu]
theorem ay:pC d Y=.ok (.fz d,Y):=W
def aI(c:N Y=.ok (pa,ρ1))(g:Z ρ1=.ok (J,X))(b:Cd X (dn pa)=S dx)(a:Cd X J=S I)(e:f dx I=S rv):aG f N Z Y=.ok (rv.pv,X):=by ext aG;rw[c,ey,g,ey,b,aR,ey,a,aR,ey,e,aR,ey]
def b8(c:N Y=.ok (pa,ρ1))(a:Cd ρ1 pa=S (.bool b)):aF N Y=.ok (b,ρ1):=by ext aF;rw[c,ey,a,aR,ey,vL,aR,ey]
def uS(c:f Y=.ok (a,ρ1))(e:a=R->g ρ1=.ok (b,ρ1)):wU f g Y=.ok (a&&b,ρ1):=by
 ext wU;rw[c,ey];cases a with
 |true=>rw[ax W,e W,XJ]
 |false=>rw[a4 UH,YZ]
def Gw(c:f Y=.ok (a,ρ1))(e:a=A->g ρ1=.ok (b,ρ1)):Ly f g Y=.ok (a||b,ρ1):=by
 ext Ly;rw[c,ey];cases a with
 |true=>rw[ax W,Xq]
 |false=>rw[a4 UH,e W,Yn]
def tE(c:aF N Y=.ok (a,ρ1))(e:a=R->Z ρ1=.ok (.fz (.bool b),ρ1)):BT N Z Y=.ok (.fz (.bool (a&&b)),ρ1):=by
 ext BT;rw[c,ey];cases a with
 |true=>rw[ax W,e W,XJ]
 |false=>rw[a4 UH,YZ]
theorem az:aq Y=.ok ([],Y):=W
def ai(b:N Y=.ok (pa,ρ1))(a:fr ρ1=.ok (Q,X)):aa N fr Y=.ok (dn pa::Q,X):=by ext aa;rw[b,ey,a,ey]
def dX(b:fr Y=.ok (Q,ρ1))(hd:vE ρ1 Q=S ds)(a:f ds=S rv):fG f fr Y=.ok (rv.pv,ρ1):=by ext fG;rw[b,ey,hd,aR,ey,a,aR,ey]
def bZ(c:fr Y=.ok (Q,ρ1))(hd:nk ρ1 Q=S (ds,X))(b:ds.length=n)(a:F ds=.ok rv):cZ F n fr Y=.ok (rv.pv,X):=by ext cZ;rw[c,ey,hd,aR,ey];dsimp only;rw[ax b,a,vj,ey]
def eD(b:fr Y=.ok (Q,ρ1))(hd:nk ρ1 Q=S (ds,X))(a:ds.length<=1000):bG fr Y=.ok (.fz (.tuple ds),X):=by ext bG;rw[b,ey,hd,aR,ey];dsimp only;rw[ax a]
def lW(b:fr Y=.ok (Q,ρ1))(hd:nk ρ1 Q=S (ds,X))(a:ds.length<=1000):cC fr Y=.ok (.ow ds,X):=by ext cC;rw[b,ey,hd,aR,ey];dsimp only;rw[ax a]
def Cn(c:N Y=.ok (pa,ρ1))(a:Cd ρ1 pa=S dx)(b:wB dx=S t):rj n N Y=.ok (.fz (.bool (yO n t)),ρ1):=by ext rj;rw[c,ey,a,aR,ey,b,aR,ey]
def uT(g:Y[i]?=S (S (.ow es)))(c:T Y=.ok (pa,ρ1))(b:vo ρ1 pa=S (d,X))(f:X[i]?=S (S (.ow ds)))(e:ds.length<1000000)(a:X.set i (S (.ow (ds++[d])))=x):wj i T Y=.ok (.fz .none,x):=by ext wj;rw[g,l9,aR,ey,c,ey,b,aR,ey];dsimp only;rw[f,l9,aR,ey,ax e,a]
def dM(c:fi Y=.ok (ds,ρ1))(b:sB ρ1 o=S (cs,X))(a:i9 (cW gt C T ds (UA n P++cs.map λd=>S (.fz d)) [])=.ok xs):dc n o fi gt C T Y=.ok (.ow xs,X):=by ext dc;rw[c,ey];dsimp only;rw[b,aR,ey];dsimp only;rw[a,ey]
theorem g7:aZ (.tuple (a::r)) (.int 0)=S (.fz a):=Ob W
theorem kG:aZ (.tuple (a::b::r)) (.int 1)=S (.fz b):=Ob W
theorem rc:aZ (.tuple (a::b::c::r)) (.int 2)=S (.fz c):=Ob W
def NH(b:k<=1000)(a:xs.length<=1000):yN (.list xs) (nd k)=S (.ow (UA k xs).flatten):=by show(if xs.length*((k:Nat):Int).toNat<=1000000/\ -(2^63)<=(k:Int)/\(k:Int)<2^63 then S (RV.ow (UA ((k:Nat):Int).toNat xs).flatten)else P)=_;rw[VR,ax #[Vb (Y5 a b) (),by ext,by ext]]
def jG(c:T Y=.ok (pa,ρ1))(a:vo ρ1 pa=S (d,X))(b:dZ d=S es):gq T Y=.ok (es,X):=by ext gq;rw[c,ey,a,aR,ey];dsimp only;rw[b,aR,ey]
def Hr(b:fr Y=.ok (Q,ρ1))(hd:vE ρ1 Q=S ds)(a:f ds=S es):mw f fr Y=.ok (es,ρ1):=by ext mw;rw[b,ey,hd,aR,ey,a,aR,ey]
def xO(b:T Y=.ok (pv,ρ1))(a:g pv ρ1=.ok X)(c:X=L):fJ T g Y=.ok (.nx L):=by ext fJ;rw[b,ey];dsimp only;rw[a,ey,c]
def yV(a:T Y=.ok (pv,ρ1)):kQ T Y=.ok (.nx ρ1):=by ext kQ;rw[a,ey]
def tL(b:T Y=.ok (pv,ρ1))(a:Bg ρ1 pv=S rv):di T Y=.ok (.rt rv):=by ext di;rw[b,ey];dsimp only;rw[a,aR,ey]
def Hh(e:gt (.fz d) Y=.ok ρ1)(b:ft ρ1=.ok (R,X))(g:T X=.ok (pv,L))(a:vo L pv=S (x,C))(f:cJ C=o):jb gt ft T d Y=.ok (S x,o):=by ext jb;rw[e,ey,b,ey,ax W,g,ey,a,aR,ey,f]
def RH(b:gt (.fz d) Y=.ok ρ1)(a:C ρ1=.ok (A,X))(e:cJ X=o):jb gt C T d Y=.ok (P,o):=by ext jb;rw[b,ey,a,ey,a4 UH,e]
end
end L3
namespace PySem
open Sem (wp)
open Builtin
open AutoSeq1 (wpAny_loadPart')
theorem mv:fillsNumberSlot (.type "tuple") "mul"=pure A:=
 fillsNumberSlot_seq F.slot_tuple_mul.lookup (by left) F.slot_tuple_rmul.lookup (by left)
def uB:seqRepeat? (.type "tuple")=pure (S (.builtin "tuple.__mul__")):=by unfold seqRepeat?;rw[seqSlot_of (name:= "__mul__") F.slot_tuple_mul.lookup (by left),seqSlot_of (name:= "__rmul__") F.slot_tuple_rmul.lookup (by left)];rfl
theorem pP(a:Int)(t:Tok)(l:M)(b:Array U)(n:Nat)(Zm:z M)(f:Array (z U)):
  Meets (Vx.«int.__rmul__» #[[.int a t,.ref l],[]]) (λ_ R s=>s.heap.get? l=S {cls:=.type "tuple",dict:=Zm,data:=.seq b n,slots:=f}/\R (.ok (.ret CL.notImplemented)) s):=
 .of_wp λe w A R s h=>by let(m,g,d,i,j):=s;let(o,h):=h;wp_walk;show#[_,W,h]
theorem wg(l:M)(a:Array U)(n:Nat)(Zm:z M)(e:Array (z U))(u:Tok):
  Meets (Vx.«tuple.__mul__» #[[.ref l,.int 1 u],[]]) (λ_ R s=>s.heap.get? l=S {cls:=.type "tuple",dict:=Zm,data:=.seq a n,slots:=e}/\R (.ok (.ret (CL.ref l))) s):=
 .of_wp λb w A R s h=>by
  let(j,g,d,f,i):=s;let(m,h):=h
  wp_walk
  show#[_,W,h]
theorem vS(l:M)(a:Array U)(n:Nat)(Zm:b4 M)(j:Array (b4 U))(x:Int)(u:Tok)(I:2<=x)(r:x<=1000)(i:a.isEmpty=Ut)(D:a.size<=1000):
  Meets (Vx.«tuple.__mul__» #[[.ref l,.int x u],[]]) (λ_ R s=>s.heap.get? l=S {cls:=.type "tuple",dict:=Zm,data:=.seq a n,slots:=j}/\R (.ok (.ret (CL.ref s.heap.objs.size))) {s with heap:=s.heap.push {cls:=CL.type "tuple",data:=Data.seq (YC (λk c=>k++c) #v[] (UA x.toNat a))},toks:=s.toks}):=
 .of_wp λe w A R s h=>by
  let(G,g,d,E,F):=s;let(q,h):=h;let C:¬(decide (x< -(2^63))||decide (x≥2^63))=Uq:=by simp;ext
  let B:(x==1)=Ut:=by simp;ext
  let z:decide (x<=0)=Ut:=by simp;ext
  let K:(a.isEmpty||x==1)=Ut:=by rw[i,B];rfl
  let J:(decide (x<=0)||a.isEmpty)=Ut:=by rw[i,z];rfl
  let f:(a.size:Int)*x<=1000000:=by let:(a.size:Int)*x<=1000*1000:=Int.mul_le_mul () r () ();ext
  let y:¬(a.size:Int)*x>(2^63 - 1)/8:=by ext
  let v:¬Tuple.tupleTooMany ((a.size:Int)*x)=Uq:=by
   ext Tuple.tupleTooMany;simp;let:(UD:Nat)=16777216:=by decide
   ext
  wp_walk
  rw[a4 C]
  wp_walk using wpAny_loadPart' q
  rw[a4 y];dsimp only;rw[a4 v];let p:(YC (λk c=>k++c) #v[] (UA x.toNat a)).size<=UD:=by
   let t:∀(m:Nat) (b:Array U),(YC (λk c=>k++c) b (UA m a)).size=b.size+m*a.size:=by
    intro m
    induction m with
    |zero=>intro b;simp
    |succ m o=>intro b;rw[VG,YF,o,Array.size_append,afW];ext
   rw[t];let H:x.toNat*a.size<=1000*1000:=Y5 () D;let:(UD:Nat)=16777216:=by decide
   simp;ext
  wp_walk
  show#[_,W,h]
end PySem
namespace L3
open PySem PySem.Spec PyProof.Rows L2
def Mo(K:lD):R2:=λx y H Q=>∃(a:M) (k:Nat) (xs:G V),x=.ref a/\y=.int (k:Int)/\Yt K H a xs/\xs≠[]/\1<=k/\k<=1000/\xs.length<=1000/\
 (k=1->Q (.ref a) H)/\(2<=k->∀p,H p=P->Q (.ref p) (aW H p (.tup (UA k xs).flatten)))
def HR:OpR X (Wa .Mult) (Mo X.K):=by
 intro i s R H x y v u Q I B A h;let(a,k,xs,rfl,rfl,G,P,Y,N,L,E,C):=h;ext B;let(t,rfl):=A;let(f,r,J,U):=I.tuple G;let((cls,dd,o,g),e,m,n,l):=id J;simp only at m l;subst m l;let j:=r.length;show ab0 () #[_,e,W] (λz=>ZR z k t) mv F.fills_int_mul F.slot_int_rmul uB F.slot_int_index.lookup
  (Yq F.slot_int_rmul (ZR s k t) F.entry_int_rmul (F.args_int_rmul_2 _ _) (pP k t a f.toArray n dd g) #[e,W,#[_,e,W],?_])
 by_cases M:k=1
 .subst M;show Yq F.slot_tuple_mul #[_,e,W] F.entry_tuple_mul (F.args_tuple_mul_2 _ _) (wg a f.toArray n dd g t) #[e,#[.ref a,H,I,W,E W]]
 .show Yq F.slot_tuple_mul #[_,e,W] F.entry_tuple_mul (F.args_tuple_mul_2 _ _) (vS a f.toArray n dd g k t () () ?_ (by rw[US];ext)) #[e,?_]
  .cases f with
   |nil=>ext r;show bg W P
   |cons y S=>rfl
  .let O:YC (λw p=>w++p) #v[] (UA ((k:Nat):Int).toNat f.toArray)=(UA k f).flatten.toArray:=by
    let:=mo f k [];rw[Z6]at this;rw[VR];show this
   rw[O];show#[.ref s.heap.objs.size,_,I.laid (λb T q=>ck _ q) (UC _) ?_,W,C () _ (I.VF.fresh (UC _))];show#[?_,_,r.rep k,ZZ.new _ _];rw[zY];show Vb (Y5 N L) ()
def Ls(K:lD):R2:=λx y H Q=>FO K x y H Q\/Mo K x y H Q
theorem J9:OpR X (Wa .Mult) (Ls X.K):=OpR.or G8 HR
def fS:D->D->z RV
 |.tuple xs,.int k=>if xs≠[]/\1<=k/\k<=1000/\xs.length<=1000 then S (.fz (.tuple (UA k.toNat xs).flatten))else P
 |d,e=>yN d e
def EY{K:lD}:jL K (Ls K) fS:=by
 intro O H x y o j l Q n g f e q;unfold fS at e;split at e
 .rename_i ds k
  split at e
  .rename_i h
   ext e;ext f;let(a,xs,rfl,i,b):=GW g;obtain⟨m,rfl⟩:∃m:Nat,k=(m:Int):=#[k.toNat,by ext];rw[VR]at q;show .inr #[a,m,xs,W,W,i.1,λz=>h.1 (b.ne.mp z),by ext,by ext,by rw[b.length];show h.2.2.2,λe=>?_,λ_=>Fin.adS (b.flat m) n q];subst e;let e1:(UA 1 ds).flatten=ds:=by simp
   rw[e1]at q;show q.at (.tup i b)
  .ext e
 .show .inl (IS O H x y o j l Q n g f e q)
theorem wK(i j:Int):fS (.int i) (.int j)=yN (.int i) (.int j):=W
theorem kO(h: -(2^64)<i/\i<2^64):fS (.int i) (.int j)=S (.fz (.int (i*j))):=(wK i j).trans (KO h)
theorem Fv(h: -(2^64)<j/\j<2^64):fS (.int i) (.int j)=S (.fz (.int (i*j))):=(wK i j).trans (Jk h)
end L3
namespace PySem
open Sem (wp)
open Builtin Builtin.Str
def itAt:Bool->Heap->M->M->Nat->Prop
 |true,h,it,a,i=>h.IsTupleIter it a i
 |false,h,it,a,i=>h.IsListIter it a i
def sqAt:Bool->Heap->M->Array U->Prop
 |true,h,a,xs=>h.IsTuple a xs
 |false,h,a,xs=>h.IsList a xs
def wC:Bool->String
 |true=> "tuple_iterator"
 |false=> "list_iterator"
def itAt.ext(x:itAt b h it a i)(e:Heap.ExtBut c h h')(n:it≠c):itAt b h' it a i:=by
 cases b with
 |true=>show Heap.IsTupleIter.extBut x e n
 |false=>show Heap.IsListIter.extBut x e n
def itAt.to(x:itAt b h it a i)(e:∀o,h.get? it=S o->h'.get? it=S o):itAt b h' it a i:=by
 cases b with
 |true=>show Heap.IsTupleIter.at x e
 |false=>show Heap.IsListIter.at x e
def itAt.live(x:itAt b h it a i):∃o,h.get? it=S o/\∀v,o.data≠.cell v:=by
 cases b with
 |true=>let(o,e,_,d):=(show h.IsTupleIter it a i from x);show#[o,e,λv z=>by rw[d]at z;ext z]
 |false=>let(o,e,_,d):=(show h.IsListIter it a i from x);show#[o,e,λv z=>by rw[d]at z;ext z]
def sqAt.ext(x:sqAt b h a xs)(e:Heap.ExtBut c h h')(n:a≠c):sqAt b h' a xs:=by
 cases b with
 |true=>show Heap.IsTuple.extBut x e n
 |false=>show Heap.IsList.extBut x e n
def sqAt.psh(x:sqAt b h a xs)(o:Obj):sqAt b (h.push o) a xs:=by
 cases b with
 |true=>show Heap.IsTuple.push x o
 |false=>show Heap.IsList.push x o
def sqAt.lt(x:sqAt b h a xs):a<h.objs.size:=by
 cases b with
 |true=>let(o,e,_):=(show h.IsTuple a xs from x);show cn e
 |false=>let(o,e,_):=(show h.IsList a xs from x);show cn e
section
variable{prog:UR}{w:Va}{A:U4}{E:CL->Uw->Prop}{s:Uw}
def uH(d:itAt b s.heap it l i)(e:sqAt b s.heap l xs)(a:xs[i]?=S x)
  (q:∀c,itAt b c it l (i+1)->Heap.SameBut it s.heap c->Q x {s with heap:=c}):wpAny (model prog w) A (SmallTypes.nextOf (.ref it)) Q E s:=by
 cases b with
 |true=>show kS d e a q
 |false=>show wpAny_nextOf_list_item d e a q
def zK(g:A.handled=P)(d:itAt b s.heap it l i)(f:sqAt b s.heap l xs)(a:xs[i]?=P)
  (q:∀c e,Heap.ExtBut it s.heap c->(∃o,c.get? e=S o/\o.cls=.type "StopIteration")->E (.ref e) {s with heap:=c}):wpAny (model prog w) A (SmallTypes.nextOf (.ref it)) Q E s:=by
 cases b with
 |true=>show mF g d f a q
 |false=>show wpAny_nextOf_list_end g d f a q
def Ao(a:sqAt b s.heap l xs)
  (q:Q (.ref s.heap.objs.size) {s with heap:=s.heap.push {cls:=.type (wC b),data:=.fields #v[.ref l,.int 0 0]}}):wpAny (model prog w) A (pyIter (.ref l)) Q E s:=by
 cases b with
 |true=>show Zh a q
 |false=>show Yg a q
def Bu{Q:CL->Uw->Prop}(D:aac z0 TI TO i1 i2 l1 l2)(k:abt s.heap z0 TI TO .none)
  (hTI:IsPair s.heap TI (.ref i1) (.ref i2)) (hTO:IsPair s.heap TO a b) (h1:itAt b1 s.heap i1 l1 n) (h2:itAt b2 s.heap i2 l2 n) (hl1:sqAt b1 s.heap l1 xs) (V:sqAt b2 s.heap l2 ys) (hx:xs[n]?=cL x) (hy:ys[n]?=cL y)
  (q:∀d,abt d z0 TI TO (rawInt s.heap.objs.size)->IsPair d TO x y->itAt b1 d i1 l1 (n+1)->itAt b2 d i2 l2 (n+1)->IsPair d s.heap.objs.size x y->d.objs.size=s.heap.objs.size+1->
   (∀c o,c≠z0->c≠TO->c≠i1->c≠i2->s.heap.get? c=cL o->d.get? c=cL o)->Q (.ref s.heap.objs.size) {s with heap:=d}):
  wpAny (model prog w) A (Vx.«zip.__next__» #[[.ref z0],[]]) (λfin s'=>∃v,fin=.done (.ret v)/\Q v s') E s:=by
 show wpAny _ _ (field (.ref z0) 2>>=_) _ _ _;show Ld (Vc k W W ?_);show wpAny _ _ (field (.ref z0) 3>>=_) _ _ _;show Ld (Vc k W W ?_);show Ld (VW hTI W ?_);show wpAny _ _ (SmallTypes.ownedTupleIsFree (.ref z0)>>=_) _ _ _;show Ld ?_;ext SmallTypes.ownedTupleIsFree;show Ld (Vc k W W (UB ?_));simp only[if_true];show Ld (ZS ?_);show Ld (Vc k W W ?_);show Ld (WZ k (by simp) λk₁ t g=>?_);let adR:=t;clear t;show Ld ?_;simp only[ado,adE,XX,Y1];show Ld (Ld (ZM ?_));show wpAny _ _ (SmallTypes.nextOf (.ref i1)>>=_) _ _ _;show Ld (uH (h1.ext g.extBut D.i1z) (hl1.ext g.extBut D.l1z) hx λk₂ Y i=>UB ?_);let J:=i.extBut _ _ D.TOi1 (g.extBut _ _ D.TOz hTO);show Ld (VW J W ?_);show Ld (Zr J λk₃ I h=>?_);let M:=I;clear I;show Ld (XA (UB ?_));show Ld (Ld (ZM ?_));show wpAny _ _ (SmallTypes.nextOf (.ref i2)>>=_) _ _ _;show Ld (uH (((h2.ext g.extBut D.i2z).ext i.extBut D.i12.symm).ext h.extBut D.TOi2.symm) (((V.ext g.extBut D.l2z).ext i.extBut D.l2i1).ext h.extBut D.l2TO) hy λk₄ X l=>UB ?_);let H:=l.extBut _ _ D.TOi2 M;show Ld (VW H W ?_);show Ld (Zr H λf G j=>?_);let p:IsPair f TO x y:=G;clear G;show Ld (XA (UB (UB ?_)));show Ld (VW p W ?_);show Ld (wpAny_newTuple ?_);let U:f.objs.size=s.heap.objs.size:=by rw[j.1,l.1,h.1,i.1,g.1]
 let C:=j.extBut _ _ D.TOz.symm (l.extBut _ _ D.i2z.symm (h.extBut _ _ D.TOz.symm (i.extBut _ _ D.i1z.symm adR)));let kp:∀c o,c≠z0->c≠TO->c≠i1->c≠i2->s.heap.get? c=cL o->f.get? c=cL o:=λc o N Z c3 c4 e=>
  j.extBut _ _ Z (l.extBut _ _ c4 (h.extBut _ _ Z (i.extBut _ _ c3 (g.extBut _ _ N e))))
 let T:=((Y.ext h.extBut D.TOi1.symm).ext l.extBut D.i12).ext j.extBut D.TOi1.symm;let S:=X.ext j.extBut D.TOi2.symm;let X3:=cn C;show wpAny _ _ (SmallTypes.ownedTupleHandOut (.ref z0) (.ref f.objs.size)>>=_) _ _ _;show Ld ?_;ext SmallTypes.ownedTupleHandOut;let R:abt (f.push {cls:=.type "tuple",data:=.seq #v[x,y]}) z0 TI TO .ellipsis:=ck _ C;show Ld (WZ R (by simp) λk₇ P B=>?_);let L:=P;show WZ L (by simp) λr O u=>?_;let m:=O;let up:∀c o,c≠z0->f.get? c=cL o->r.get? c=cL o:=λc o N e=>u.extBut _ _ N (B.extBut _ _ N (ck _ e));let F:=u.extBut _ _ (VI X3) (B.extBut _ _ (VI X3) (cv _ W));let K:r.objs.size=f.objs.size+1:=by rw[u.1,B.1,dN]
 rw[U]at m F K;show UB #[_,W,?_];rw[U];show q r m (up _ _ D.TOz p) (T.to λo e=>up _ o D.i1z e) (S.to λo e=>up _ o D.i2z e) F K λc o N Z c3 c4 e=>up c o N (kp c o N Z c3 c4 e)
def Fk(T:A.handled=Uo)(D:aac z0 TI TO i1 i2 l1 l2)(d:abt s.heap z0 TI TO .none)
  (M:IsPair s.heap TI (.ref i1) (.ref i2)) (L:IsPair s.heap TO a b) (U:itAt b1 s.heap i1 l1 n) (Z:itAt b2 s.heap i2 l2 n) (F:sqAt b1 s.heap l1 xs) (J:sqAt b2 s.heap l2 ys) (O:xs[n]?=Uo\/ys[n]?=Uo)
  (q:∀k e,(∀c o,c≠z0->c≠TO->c≠i1->c≠i2->s.heap.get? c=cL o->k.get? c=cL o)->(∃o,k.get? e=cL o/\o.cls=.type "StopIteration")->E (.ref e) {s with heap:=k}):
  wpAny (model prog w) A (Vx.«zip.__next__» #[[.ref z0],[]]) Q E s:=by
 show wpAny _ _ (field (.ref z0) 2>>=_) _ _ _;show Ld (Vc d W W ?_);show wpAny _ _ (field (.ref z0) 3>>=_) _ _ _;show Ld (Vc d W W ?_);show Ld (VW M W ?_);show wpAny _ _ (SmallTypes.ownedTupleIsFree (.ref z0)>>=_) _ _ _;show Ld ?_;ext SmallTypes.ownedTupleIsFree;show Ld (Vc d W W (UB ?_));simp only[if_true];show Ld (ZS ?_);show Ld (Vc d W W ?_);show Ld (WZ d (by simp) λS y f=>?_);let H:=y;show Ld ?_;simp only[ado,adE,XX,Y1];show Ld (Ld (ZM ?_));show wpAny _ _ (SmallTypes.nextOf (.ref i1)>>=_) _ _ _;cases hx:xs[n]? with
 |none=>
  show Ld (zK T (U.ext f.extBut D.i1z) (F.ext f.extBut D.l1z) hx λC e g K=>?_);let(I,i,j):=K;let m:=g _ _ D.i1z.symm H;let ne:e≠z0:=λt=>by subst t;rw[m]at i;ext i;simp at j
  show WZ m (by simp) λr _ h=>q r e (λc o G _ N _ t=>h.extBut _ _ G (g _ _ N (f.extBut _ _ G t))) #[I,h.extBut _ _ ne i,j]
 |some x=>
  let Y:ys[n]?=Uo:=by
   rcases O with t|t
   .rw[hx]at t;ext t
   .show t
  show Ld (uH (U.ext f.extBut D.i1z) (F.ext f.extBut D.l1z) hx λC X g=>UB ?_);let p:=g.extBut _ _ D.TOi1 (f.extBut _ _ D.TOz L);show Ld (VW p W ?_);show Ld (Zr p λr P h=>?_);show Ld (XA (UB ?_));show Ld (Ld (ZM ?_));show wpAny _ _ (SmallTypes.nextOf (.ref i2)>>=_) _ _ _;show Ld (zK T (((Z.ext f.extBut D.i2z).ext g.extBut D.i12.symm).ext h.extBut D.TOi2.symm) (((J.ext f.extBut D.l2z).ext g.extBut D.l2i1).ext h.extBut D.l2TO) Y λR e v K=>?_);let(I,i,j):=K;let l:=v _ _ D.i2z.symm (h.extBut _ _ D.TOz.symm (g.extBut _ _ D.i1z.symm H));let ne:e≠z0:=λt=>by subst t;rw[l]at i;ext i;simp at j
  show WZ l (by simp) λB _ u=>q B e (λc o G c2 N c4 t=>u.extBut _ _ G (v _ _ c4 (h.extBut _ _ c2 (g.extBut _ _ N (f.extBut _ _ G t))))) #[I,u.extBut _ _ ne i,j]
end
section
variable{Y:UR}{w:Va}{A:U4}{E:CL->Uw->Prop}{s:Uw}
def uX(D:aac I TI J i1 i2 l1 l2)(k:abt s.heap I TI J .none)
  (h:IsPair s.heap TI (.ref i1) (.ref i2)) (g:IsPair s.heap J a b) (p:itAt b1 s.heap i1 l1 n) (m:itAt b2 s.heap i2 l2 n) (f:sqAt b1 s.heap l1 xs) (e:sqAt b2 s.heap l2 ys) (l:xs[n]?=S x) (j:ys[n]?=S y)
  (q:∀d,abt d I TI J (rawInt s.heap.objs.size)->IsPair d J x y->itAt b1 d i1 l1 (n+1)->itAt b2 d i2 l2 (n+1)->IsPair d s.heap.objs.size x y->d.objs.size=s.heap.objs.size+1->
   (∀c o,c≠I->c≠J->c≠i1->c≠i2->s.heap.get? c=S o->d.get? c=S o)->Q (S (.ref s.heap.objs.size)) {s with heap:=d}):
  wpAny (model Y w) A (pyNext (.ref I)) Q E s:=by
 let i:s.TypeIs (.ref I) "zip":=#[_,k,W];ext pyNext;show Ld (aj4 (Xz i F.slot_zip_next ?_));show Xe F.slot_zip_next i F.entry_zip_next (Bu D k h g p m f e l j λd G C B v u t r=>UB (q d G C B v u t r)) (F.args_zip_next_1 _)
def wE(r:A.handled=P)(D:aac B TI J I C l1 l2)(k:abt s.heap B TI J .none)
  (i:IsPair s.heap TI (.ref I) (.ref C)) (h:IsPair s.heap J a b) (y:itAt b1 s.heap I l1 n) (v:itAt b2 s.heap C l2 n) (g:sqAt b1 s.heap l1 xs) (f:sqAt b2 s.heap l2 ys) (j:xs[n]?=P\/ys[n]?=P)
  (q:∀d,(∀c o,c≠B->c≠J->c≠I->c≠C->s.heap.get? c=S o->d.get? c=S o)->Q P {s with heap:=d}):wpAny (model Y w) A (pyNext (.ref B)) Q E s:=by
 let l:s.TypeIs (.ref B) "zip":=#[_,k,W];ext pyNext;show Ld (aj4 (Xz l F.slot_zip_next ?_));show Xe F.slot_zip_next l F.entry_zip_next (Fk r D k i h y v g f j λd e p t=>?_) (F.args_zip_next_1 _);let(o,m,u):=t;show Ld (aaw #[o,m,u] isSubtype_stop (UB (q _ p)))
end
abbrev Q8(h:Heap)(b:Bool)(a:M):Heap:=h.push {cls:=.type (wC b),data:=.fields #v[.ref a,.int 0 0]}
abbrev Qd(h:Heap)(f e:Bool)(b a:M):Heap:=(Q8 h f b).push {cls:=.type (wC e),data:=.fields #v[.ref a,.int 0 0]}
abbrev Qu(h:Heap)(b f:Bool)(a e:M):Heap:=(Qd h b f a e).push {cls:=.type "tuple",data:=.seq #v[.ref h.objs.size,.ref (Q8 h b a).objs.size]}
abbrev PY(h:Heap)(f e:Bool)(b a:M):Heap:=(Qu h f e b a).push {cls:=.type "tuple",data:=.seq #v[.none,.none]}
abbrev SH(h:Heap)(f e:Bool)(b a:M):Heap:=(PY h f e b a).push {cls:=.type "zip",data:=.fields #v[.none,.bool A,.bool A,.ref (Qd h f e b a).objs.size,.ref (Qu h f e b a).objs.size]}
theorem pI(e f:Bool)(a b:M)(xs n:Array U):
  Meets (Vx.«zip.__new__» #[[.type "zip",.ref a,.ref b],[]]) (λ_ R s=>sqAt e s.heap a xs/\sqAt f s.heap b n/\R (.ok (.ret (.ref (PY s.heap e f a b).objs.size))) {s with heap:=SH s.heap e f a b}):=
 .of_wp λp w A R s h=>by
  let(r,g,d,o,q):=s;let(j,i,h):=h;let t:=sub_zip;let m:sqAt e (Uw.heap #[r,g,d,o,q]) a xs:=j;let l:sqAt f (Uw.heap #[r.push {cls:=.type (wC e),data:=.fields #v[.ref a,.int 0 0]},g,d,o,q]) b n:=sqAt.psh i _
  wp_walk using Ao m,Ao l
  show#[_,W,h]
section
variable{Y:UR}{w:Va}{A:U4}{E:CL->Uw->Prop}{s:Uw}
def DT(e:h.get? it=S {cls:=.type (wC b),data:=.fields #v[.ref l,.int 0 0]}):itAt b h it l 0:=by
 cases b with
 |true=>show#[_,e,W,W]
 |false=>show#[_,e,W,W]
def Bf(l:sqAt b1 s.heap l1 xs)(j:sqAt I s.heap C ys)
  (q:∀d,abt d (s.heap.objs.size+4) (s.heap.objs.size+2) (s.heap.objs.size+3) .none->IsPair d (s.heap.objs.size+2) (.ref s.heap.objs.size) (.ref (s.heap.objs.size+1))->
   IsPair d (s.heap.objs.size+3) .none .none->itAt b1 d s.heap.objs.size l1 0->itAt I d (s.heap.objs.size+1) C 0->(∀c o,s.heap.get? c=S o->d.get? c=S o)->Q (.ref (s.heap.objs.size+4)) {s with heap:=d}):
  wpAny (model Y w) A (call (.type "zip") [.ref l1,.ref C]) Q E s:=by
 show callType_new F.called_zip () (F.typeCall_zip_2 _ _) (F.newCall_zip_2 _ _) (λobj=>F.args_object_init_3 obj _ _) F.entry_zip_new (pI b1 I l1 C xs ys) #[l,j,?_];let i:(Q8 s.heap b1 l1).objs.size=s.heap.objs.size+1:=dN ..;let h:(Qd s.heap b1 I l1 C).objs.size=s.heap.objs.size+2:=by rw[dN,i]
 let g:(Qu s.heap b1 I l1 C).objs.size=s.heap.objs.size+3:=by rw[dN,h]
 let p:(PY s.heap b1 I l1 C).objs.size=s.heap.objs.size+4:=by rw[dN,g]
 let v:∀c o,s.heap.get? c=S o->(Q8 s.heap b1 l1).get? c=S o:=λc o e=>ck _ e;let n:∀c o,(Q8 s.heap b1 l1).get? c=S o->(Qd s.heap b1 I l1 C).get? c=S o:=λc o e=>ck _ e;let f:∀c o,(Qd s.heap b1 I l1 C).get? c=S o->(Qu s.heap b1 I l1 C).get? c=S o:=λc o e=>ck _ e;let b:∀c o,(Qu s.heap b1 I l1 C).get? c=S o->(PY s.heap b1 I l1 C).get? c=S o:=λc o e=>ck _ e;let a:∀c o,(PY s.heap b1 I l1 C).get? c=S o->(SH s.heap b1 I l1 C).get? c=S o:=λc o e=>ck _ e;let m:(SH s.heap b1 I l1 C).get? (PY s.heap b1 I l1 C).objs.size=S _:=cv _ W;let r:=a _ _ (cv _ W);let t:=a _ _ (b _ _ (cv _ W));let u:=a _ _ (b _ _ (f _ _ (cv _ W)));let y:=a _ _ (b _ _ (f _ _ (n _ _ (cv _ W))));rw[h,g,p]at m;rw[i,h]at t;rw[g]at r;rw[i]at u;rw[p];show#[#[_,m,W],q _ m t r (DT y) (DT u) λc o e=>a _ _ (b _ _ (f _ _ (n _ _ (v _ _ e))))]
end
end PySem
namespace L3
open PySem PySem.Spec PyProof.Rows L2
def B4(b:Bool)(K:lD)(H:Hp)(a:M)(xs:G V):Prop:=match b with
 |true=>Yt K H a xs
 |false=>Ys K H a xs
def SJ(K:lD)(e b:Bool)(a c:M):It:=
 #[λi H=>∃xs ys x y,B4 e K H a xs/\B4 b K H c ys/\xs[i]?=S x/\ys[i]?=S y,
  λi H v f=>∃p x y,H p=P/\v=.ref p/\(∀xs,B4 e K H a xs->xs[i]?=S x)/\(∀ys,B4 b K H c ys->ys[i]?=S y)/\f=aW H p (.tup [x,y]),
  λi H=>∃xs ys,B4 e K H a xs/\B4 b K H c ys/\(xs.length<=i\/ys.length<=i)]
def Jr(I:Inv X pins σ H s)(i:Ys X.K H a xs)(h:Ys X.K H a ys):xs=ys:=by
 let(e,g,(o,k,e1,_,n,l),_):=I.list i;let(b,f,(m,k2,e2,_,p,j),_):=I.list h;rw[e1]at e2;ext e2;let:e=b:=by
  let q:e.toArray=b.toArray:=by injection l.symm.trans j
  simpa using q
 subst this;show g.inj f
def ml(I:Inv X pins σ H s)(h:B4 b X.K H a xs):∃c,Vals xs c/\sqAt b s.heap a c.toArray:=by
 cases b with
 |true=>let(c,f,p,e):=I.tuple h;show#[c,f,p]
 |false=>let(c,f,p,e):=I.list h;show#[c,f,p.isList]
def yZ(I:Inv X pins σ H s)(f:B4 b X.K H a xs)(e:B4 b X.K H a ys):xs=ys:=by
 cases b with
 |true=>show Hv I f e
 |false=>show Jr I f e
def BB{ch:G M}(I:Inv X pins σ H s)(g:∀b∈ch,lO X pins H b)
  (k:∀b u,b∉ch->s.heap.get? b=S u->C.get? b=S u):Inv X pins σ H {s with heap:=C,toks:=J}:=by
 let f:∀b u,H b=S u->b∉ch:=λb u e z=>by rw[(g b z).1]at e;ext e
 show I.step (λb j=>?_) (λb u _ _ a e _=>k b u a e) (λb u _ _ a e _=>#[u.slots,k b u a e]) (λ_ _ _ _ n=>n)
  (λb u a e=>#[u,k b u a e]) (λ_ _ e=>e) (λ_ _ _ e=>e) (λb y e=>#[#v[],by rw[e];simp]) (λm hm=>?_) (λb u e=>?_) I.bare
 .let(_,t,_,p,o,l):=g b j;show#[p,t,o,l]
 .let(h,es,w,i,r):=hm;show#[h,es,w,k _ h (λz=>(g _ z).2.1 W) i,r]
 .show(I.VF b u e).X8 (λc v a q=>k c v ?_ q) (λ_ q=>q) λ_ _ q=>q
  rcases a with z|z
  .rw[z];show f b u e
  .show f c _ z
theorem Fz{K:lD}{d}(b1 V:Bool)(z TI F B A Y U:Uu)(D:aac z TI F B A Y U):
  Turn Pz0 w K (.Tuple elts d tp) (SJ K b1 V Y U) [z,TI,F,B,A] z (λi h=>abt h z TI F .none/\IsPair h TI (.ref B) (.ref A)/\(∃a b,IsPair h F a b)/\itAt b1 h B Y i/\itAt V h A U i) where
 mem:=by simp
 obj:=λi h f b e=>by
  let(l,g,(a,c,m),r,p):=f;simp only[U5,V2,or_false]at e;rcases e with rfl|rfl|rfl|rfl|rfl
  .show#[_,l,λv q=>by cases(show Data.fields _=Data.cell v from q)]
  .show#[_,g,λv q=>by cases(show Data.seq _ _=Data.cell v from q)]
  .show#[_,m,λv q=>by cases(show Data.seq _ _=Data.cell v from q)]
  .show r.live
  .show p.live
 keep:=λi h h' f k=>by let(l,g,(a,c,m),r,p):=f;show#[k z (by simp) _ l,k TI (by simp) _ g,#[a,c,k F (by simp) _ m],r.to λo q=>k B (by simp) o q,p.to λo q=>k A (by simp) o q]
 item:=by
  intro X hP hw hK hc i j s σ H E I N f hg;subst hP hw hK;let(l,g,(a,c,m),r,p):=f;let(xs,ys,x,y,L,J,hx,hy):=hg;let(Vk,R,T):=ml I L;let(G,Q,S):=ml I J;let(u,hu,ru):=R.get hx;let(t,ht,rt):=Q.get hy;show uX D l g m r p T S (by simpa using hu) (by simpa using ht) λk z1 o1 g1 g2 pr sz M=>#[_,W,?_];show wpAny_letOwnedTupleGo_zip z1 λC z2 e2=>?_;let Z:=cn l;let hIl:=cn g;let hOl:=cn m;let h1l:B<s.heap.objs.size:=by let(_,q,_):=r.live;show cn q
  let h2l:A<s.heap.objs.size:=by let(_,q,_):=p.live;show cn q
  let hn:=I.VF.fresh (UC _);let d:∀b o,b∉[z,TI,F,B,A]->s.heap.get? b=cL o->C.get? b=cL o:=λb o e q=>by simp only[U5,V2,or_false,not_or]at e;show(e2.2 b e.1).trans (M b o e.1 e.2.2.1 e.2.2.2.1 e.2.2.2.2 q)
  let hT2:=(e2.2 _ (VI Z)).trans pr
  let I2:Inv X j σ (aW H s.heap.objs.size (.tup [x,y])) {s with heap:=C}:=
   I.abK N d (UC _) #[by show 2<=UD;decide,[u,t],.cons ru (.cons rt .nil),#[_,hT2,#[W,_,W],W]]
  let O:∀b o,b≠z->k.get? b=cL o->C.get? b=cL o:=λb o n q=>(e2.2 b n).trans q;show#[.ref s.heap.objs.size,_,I2,W,#[_,x,y,hn,W,λzs hs=>by rw[yZ I hs L];show hx,λzs hs=>by rw[yZ I hs J];show hy,W],
   #[z2,O _ _ D.TIz (M _ _ D.TIz D.TITO D.TIi1 D.TIi2 g),#[_,_,O _ _ D.TOz o1],g1.to λo q=>O _ _ D.i1z q,g2.to λo q=>O _ _ D.i2z q],λb e=>?_]
  let hb2:b<s.heap.objs.size:=by simp only[U5,V2,or_false]at e;rcases e with rfl|rfl|rfl|rfl|rfl<;>assumption
  rw[ar (UY hb2)];show(N b e).1
 done:=by
  intro X hP hw hK hc i j s σ H E I N f hg;subst hP hw hK;let(l,g,(a,c,m),r,p):=f;let(xs,ys,L,J,hxy):=hg;let(Vk,R,T):=ml I L;let(G,Q,S):=ml I J;let hl1:=R.length;let hl2:=Q.length;let hd:Vk.toArray[i]?=Uo\/G.toArray[i]?=Uo:=by
   rcases hxy with q|q
   .show .inl (by simp;ext)
   .show .inr (by simp;ext)
  show wE (I.ok.hd hc) D l g m r p T S hd λk M=>#[W,?_];show BB I N λb o e q=>by simp only[U5,V2,or_false,not_or]at e;show M b o e.1 e.2.2.1 e.2.2.2.1 e.2.2.2.2 q
 self:=λ_ _ _ _ _ f h=>afY f.1 h
def Bz(n b a:Nat)(f:b<n)(e:a<n):aac (n+4) (n+2) (n+3) n (n+1) b a:=by constructor<;>(show(_:Nat)≠_;ext)
def Lw(K:lD)(d:TA):TI:=λe H R=>d e H λg b=>∃a c b1 f,g=[.ref a,.ref c]/\(∃xs,B4 b1 K b a xs)/\(∃ys,B4 f K b c ys)/\R (SJ K b1 f a c) b
def DK:Vl "zip"=S (.type "zip"):=by left
def Pj{d}(Q:Gl X "zip")(hm:X.mg "zip"=Uo)(k:PA X [l,m] ta)(N:UO [l,m] X.env=(Ut,eval l X.env)::UO [m] X.env:=by rfl)(O:(backTo pos (UO [m] X.env)).any (·.1)=Ut:=by rfl):
  PI X (.Tuple elts d tp) (.Call (.Name "zip" p) [l,m] [] pos) (Lw X.K ta):=by
 intro f s y H R I h;show Call_ (lV I Q hm DK (Xx (bW (k pos f s y H _ I h) λus g #[vs,w,j,F,G]=>?_) N O));let(a,c,Y,U,e,(xs,C),(Z,B),q):=G;subst e;let(u,t,rfl,E,rt):=mQ F;ext E;ext rt;let(Vk,rx,r):=ml j C;let(M,ry,o):=ml j B;let T:∀b∈[g.heap.objs.size+4,g.heap.objs.size+2,g.heap.objs.size+3,g.heap.objs.size,g.heap.objs.size+1],lO X f w b:=λb v=>by
  let i:g.heap.objs.size<=b:=by simp only[U5,V2,or_false]at v;let S:=v;ext
  show j.aaK i (j.VF.fresh i)
 show Bf r o λh1 n L J A z P=>?_;show afY n ?_;show#[g.heap.objs.size+4,_,_,_,w,W,j.kept P,Fz Y U _ _ _ _ _ a c (Bz _ _ _ r.lt o.lt),#[n,L,#[_,_,J],A,z],T,q]
def NS:UW->Bool
 |.Starred _ _=>R
 |_=>A
def sC(e:UW)(es:G UW)(env:Env)(h:NS e=A):UO (e::es) env=(A,eval e env)::UO es env:=by ext e<;>first|rfl|ext h
def jr:G D->G D->G D
 |x::r,y::q=>.tuple [x,y]::jr r q
 |_,_=>[]
theorem vK:∀(xs a:G D),(jr xs a).length=min xs.length a.length
 |[],_=>by simp[jr]
 |_::_,[]=>by simp[jr]
 |_::r,_::q=>by simp only[jr,UJ,vK r q];ext
theorem wb:∀(xs a:G D) (i:Nat),(jr xs a)[i]?=(xs[i]?).bind λx=>(a[i]?).map λy=>.tuple [x,y]
 |[],_,_=>by simp[jr]
 |x::r,[],i=>by ext i<;>simp[jr]
 |x::r,y::q,0=>by simp[jr]
 |x::r,y::q,i+1=>by simp only[jr,aaX];show wb r q i
section
variable{K:lD}{E:XK}{B O Z:bE}{T H X:Hp}{N:L2.St}{Y ρ':aL}{v:V}
def aa6(b:Bool)(O:bE)(K:lD)(H:Hp)(a:M)(xs:G V):Prop:=match b with
 |true=>YO O K H a xs
 |false=>ZK O K H a xs
def aa6.ev(h:aa6 b O K H a xs)(e:Ev O H Z X):aa6 b Z K X a xs:=by
 cases b with
 |true=>show YO.ev h e
 |false=>show ZK.ev h e
def aa6.at(h:aa6 b O K H a xs):B4 b K H a xs:=by
 cases b with
 |true=>show(show YO O K H a xs from h).1
 |false=>show(show ZK O K H a xs from h).1.sq
def Nz(h:aa6 b1 O K H a xs)(hd:Wg O K H xs ds)(g:aa6 b2 O K H c ys)(C:Wg O K H ys es):xI K (SJ K b1 b2 a c) O H (jr ds es):=by
 intro Z X e n;let j:=h.ev e;let f:=hd.ev e;let m:=g.ev e;let l:=C.ev e;rw[vK];show#[λi hi=>?_,#[xs,ys,j.at,m.at,?_]]
 .let w:i<ds.length:=by ext
  let u:i<es.length:=by ext
  let(x,A,dx):=f.get (UE w);let(y,z,F):=l.get (UE u);show#[#[xs,ys,x,y,j.at,m.at,A,z],?_];rintro t G ⟨p,J,I,b,rfl,Q,L,rfl⟩;let r:=Q xs j.at;let o:=L ys m.at;rw[A]at r;rw[z]at o;ext r;ext o;show#[bj b _,.tuple [ds[i],es[i]],?_,.tup #[Yt.of av,λq=>bg q (n p b)] (.cons (dx.ev (Ev.grow (bj b _))) (.cons (F.ev (Ev.grow (bj b _))) .nil))];rw[wb,UE w,UE u];rfl
 .rw[hd.length,C.length];ext
def Mj(h:DV O K H v d)(q:dZ d=S ds):∃b a xs,v=.ref a/\aa6 b O K H a xs/\Wg O K H xs ds:=by
 cases h with
 |tup h e=>ext q;show#[R,_,_,W,h,e]
 |lst h e=>ext q;show#[A,_,_,W,h,e]
 |_=>ext q
def ut(c:FA):FI:=λY=>(c Y).bind λa=>(Res.Vu (nk a.2 a.1)).bind λb=>match b.1 with
 |[d,e]=>(Res.Vu (dZ d)).bind λds=>(Res.Vu (dZ e)).bind λes=>.ok (jr ds es,b.2)
 |_=>.bad
def M8(h:AO K E ta fa):IO K E (Lw K ta) (ut fa):=by
 intro B T O N H Y J R w;show h B T O N H Y _ R (w.bind.imp λa b L Q G e1 C m=>?_);let((ds,i),q,b):=b.Vu;let(F,e2,R2,p):=oZ C m q;dsimp only at b;cases p with
 |nil=>show b.elim
 |cons o e=>
  cases e with
  |nil=>show b.elim
  |cons e n=>
   cases n with
   |cons _ _=>show b.elim
   |nil=>let(es,l,b):=WR.Vu b;let(fs,j,b):=WR.Vu b;let(y,A,xs,rfl,g,t):=Mj o l;let(u,z,I,rfl,f,r):=Mj e j;show#[A,z,y,u,W,#[_,g.at],#[_,f.at],b F _ G (e1.trans e2) R2 (Nz g t f r)]
def gh(d e:D):b4 RV:=match d,e with
 |.str z,.int i=>if z.length<=1000000 then(jS z.cps.toList i).map λc=>.fz (.str #[#v[c]])else P
 |_,_=>P
def Ke:jL K (RD K) gh:=by
 intro O H x y l g j Q n b a e q;unfold gh at e;split at e
 .split at e
  .rename_i z i f
   cases h:jS z.cps.toList i with
   |none=>rw[h]at e;ext e
   |some c=>rw[h]at e;ext e;ext b;ext a;show .inr (.inr #[z,i,c,W,W,zC f,h,q.at (.str _)])
  .ext e
 .ext e
end
end L3
namespace L3
open PySem L2
def Th(N C:aL->Prop)(T:RV->Prop):Res Fl->Prop
 |.ok (.nx a)=>N a
 |.ok (.ct a)=>C a
 |.ok (.rt v)=>T v
 |_=>False
structure Go(r:Res Fl)(N C:aL->Prop)(T:RV->Prop):Prop where
 out:Th N C T r
section
variable{ρ ρ1 ρ2 ρ3:aL}{f g:FS}{fe:FE}{pv:PV}{d:D}{rv:RV}{ds:b3 D}{N C:aL->Prop}{T:RV->Prop}
def Go.eq(e:r=r')(h:Go r' N C T):Go r N C T:=by rw[e];show h
def Go.imp(h:Go r N C T)(b:∀ρ,N ρ->N' ρ)(e:∀ρ,C ρ->C' ρ)(a:∀v,T v->T' v):Go r N' C' T':=by
 show#[?_];let h:=h.out;cases r with
 |bad=>show h
 |er x=>show h
 |ok i=>
  cases i with
  |nx r=>show b _ h
  |ct r=>show e _ h
  |rt v=>show a _ h
  |bk r=>show h
def Eg(h:Go (f ρ) (λr=>Go (g r) N C T) C T):Go (bu f g ρ) N C T:=by
 show#[?_];let h:=h.out;ext bu;cases q:f ρ with
 |bad=>rw[q]at h;show h.elim
 |er x=>rw[q]at h;show h.elim
 |ok a=>
  rw[q]at h;cases a with
  |nx r=>show(show Go (g r) N C T from h).out
  |ct r=>show h
  |rt v=>show h
  |bk r=>show h.elim
def Db(h:c ρ=.ok (b,ρ1))(a:b=R->Go (f ρ1) N C T)(e:b=A->Go (g ρ1) N C T):Go (kM c f g ρ) N C T:=by
 ext kM;rw[h,ey];cases b with
 |true=>show a W
 |false=>show e W
theorem En(b:fe ρ=.ok (pv,ρ1))(a:gt pv ρ1=.ok ρ2)(h:N ρ2):Go (fJ fe gt ρ) N C T:=.eq (xO b a W) #[h]
theorem oh(a:fe ρ=.ok (pv,ρ1))(h:N ρ1):Go (kQ fe ρ) N C T:=.eq (yV a) #[h]
theorem d8(b:fe ρ=.ok (pv,ρ1))(a:Bg ρ1 pv=S rv)(h:T rv):Go (di fe ρ) N C T:=.eq (tL b a) #[h]
theorem sR(h:N ρ):Go (dA ρ) N C T:=#[h]
theorem Al(I:Nat->aL->Prop):∀(ds:G D) (k:Nat) (ρ:aL),I k ρ->(∀i d ρ,ds[i]?=S d->I (k+i) ρ->∃ρ1,gt (.fz d) ρ=.ok ρ1/\Go (b ρ1) (I (k+i+1)) (I (k+i+1)) T)->Go (nj gt b ds ρ) (I (k+ds.length)) C T
 |[],k,ρ,h0,_=>#[h0]
 |d::r,k,ρ,h0,u=>by
  let(ρ1,o,a):=u 0 d ρ W h0;let a:=a.out;let l:∀j,I (k+1) j->Go (nj gt b r j) (I (k+(r.length+1))) C T:=λj h=>by
   let e:k+(r.length+1)=k+1+r.length:=by ext
   rw[e];show Al I r (k+1) j h λi t m w n=>?_;let e:k+1+i=k+(i+1):=by ext
   rw[e]at n⊢;show u (i+1) t m (by simpa using w) n
  show#[?_];show Th _ _ _ ((gt (.fz d) ρ).bind _);rw[o,ey];cases q:b ρ1 with
  |bad=>rw[q]at a;show a.elim
  |er x=>rw[q]at a;show a.elim
  |ok p=>
   rw[q]at a;cases p with
   |nx r=>show(l _ a).out
   |ct r=>show(l _ a).out
   |rt v=>show a
   |bk r=>show a.elim
def DA(I:Nat->aL->Prop)(k:o ρ=.ok (ds,ρ1))(j:I 0 ρ1)(a:∀i d ρ,ds[i]?=S d->I i ρ->∃ρ1,gt (.fz d) ρ=.ok ρ1/\Go (b ρ1) (I (i+1)) (I (i+1)) T)(e:∀c,I ds.length c->N c):Go (mj o gt b ρ) N C T:=by let:=Al (C:=C) I ds 0 ρ1 j (by simpa using a);rw[Wx]at this;show .eq (yB k) (this.imp e (λ_ h=>h) λ_ h=>h)
def pK(a:ds.map (λd=>S (.fz d))++UA (n - ds.length) P=ρ)(h:Go (g ρ) (λ_=>T (.fz .none)) (λ_=>False) T):∃rv,fK n g ds=.ok rv/\T rv:=by
 let h:=h.out;ext fK;rw[a];cases q:g ρ with
 |bad=>rw[q]at h;show h.elim
 |er x=>rw[q]at h;show h.elim
 |ok b=>
  rw[q]at h;cases b with
  |nx r=>show#[_,W,h]
  |ct r=>show h.elim
  |rt v=>show#[_,W,h]
  |bk r=>show h.elim
def gR(a:ds.map (λd=>S (.fz d))++UA (n - ds.length) P=ρ)(h:Go (g ρ) (λ_=>RV.fz .none=v) (λ_=>False) (λr=>r=v)):fK n g ds=.ok v:=by let(rv,e,b):=pK (T:=λr=>r=v) a h;rw[e,b]
theorem dU(b:fe ρ=.ok (pv,ρ1))(a:gt pv ρ1=.ok ρ2)(c:ρ2=ρ3)(h:Go (g ρ3) N C T):Go (bu (fJ fe gt) g ρ) N C T:=.eq (DW (xO b a c)) h
theorem gM(b:fe ρ=.ok (pv,ρ1))(a:Bg ρ1 pv=S rv)(h:T rv):Go (bu (di fe) g ρ) N C T:=.eq (C7 (tL b a)) #[h]
theorem fu(h:Go (g ρ) N C T):Go (bu dA g ρ) N C T:=.eq W h
def BG:bu (bu f1 f2) g ρ=bu f1 (bu f2 g) ρ:=by
 ext bu;cases f1 ρ with
 |bad=>rfl
 |er x=>rfl
 |ok a=>ext a<;>rfl
theorem EC(h:Go (bu f1 (bu f2 g) ρ) N C T):Go (bu (bu f1 f2) g ρ) N C T:=.eq BG h
def lh(i:c ρ=.ok (b,ρ1))(a:b=R->Go (bu f1 g ρ1) N C T)(h:b=A->Go (bu f2 g ρ1) N C T):Go (bu (kM c f1 f2) g ρ) N C T:=by
 let e:bu (kM c f1 f2) g ρ=if b=R then bu f1 g ρ1 else bu f2 g ρ1:=by unfold bu kM;rw[i,ey];ext b<;>rfl
 show .eq e ?_;cases b with
 |true=>show a W
 |false=>show h W
theorem tH(I:Nat->aL->Prop)(j:o ρ=.ok (ds,ρ1))(h:I 0 ρ1)(a:∀i d ρ,ds[i]?=S d->I i ρ->∃ρ1,gt (.fz d) ρ=.ok ρ1/\Go (b ρ1) (I (i+1)) (I (i+1)) T)(e:∀c,I ds.length c->Go (g c) N C T):Go (bu (mj o gt b) g ρ) N C T:=
 Eg (DA I j h a e)
theorem sJ(I:aL->Prop)(P:Nat->D->Prop):∀(ds:G D) (k:Nat) (ρ:aL) (acc:G D),I ρ->acc.length+ds.length<=1000000->(∀i d,ds[i]?=S d->∀ρ,I ρ->∃x c,jb gt J fe d ρ=.ok (S x,c)/\I c/\P (k+i) x)->
  ∃xs,cW gt J fe ds ρ acc=.ok (acc++xs)/\xs.length=ds.length/\∀i x,xs[i]?=S x->P (k+i) x
 |[],k,ρ,acc,_,_,_=>#[[],by show Res.ok acc=_;simp,W,λi x h=>by simp at h]
 |d::r,k,ρ,acc,h0,v,u=>by
  let(x,c,n,m,l):=u 0 d W ρ h0;rw[UJ]at v;let(xs,q,p,o):=sJ I P r (k+1) c (acc++[x]) m (by rw[Uz];simp;ext) λi t w a j=>by
   let e:k+1+i=k+(i+1):=by ext
   rw[e];show u (i+1) t (by simpa using w) a j
  show#[x::xs,?_,by rw[UJ,p,UJ],λi y b=>?_]
  .rw[pp n ()];show cW gt J fe r c (acc++[x])=_;rw[q,U3];rfl
  .cases i with
   |zero=>cases(show S x=S y from b);show l
   |succ i=>
    let e:k+(i+1)=k+1+i:=by ext
    rw[e];show o i y (by simpa using b)
def vX(I:aL->Prop)(P:Nat->D->Prop)(e:I ρ)(b:ds.length<=1000000)(a:∀i d,ds[i]?=S d->∀ρ,I ρ->∃x c,jb gt ft fe d ρ=.ok (S x,c)/\I c/\P i x):
  ∃xs,i9 (cW gt ft fe ds ρ [])=.ok xs/\xs.length=ds.length/\∀i x,xs[i]?=S x->P i x:=by
 let(xs,l,j,h):=sJ I P ds 0 ρ [] e (by simpa using b) (by simpa using a);show#[xs,by rw[l];rfl,j,by simpa using h]
theorem tK{α:Type}{f:α->D}{Q:Nat->α->Prop}:∀(xs:G D) (k:Nat),(∀i x,xs[i]?=S x->∃a,x=f a/\Q (k+i) a)->∃as:G α,xs=as.map f/\∀i a,as[i]?=S a->Q (k+i) a
 |[],_,_=>#[[],W,λi a h=>by simp at h]
 |x::r,k,h=>by
  let(a,e,q):=h 0 x W;let(as,e2,l):=tK (f:=f) (Q:=Q) r (k+1) λi y m=>by
   let e:k+1+i=k+(i+1):=by ext
   rw[e];show h (i+1) y (by simpa using m)
  show#[a::as,by rw[e,e2];rfl,λi b j=>?_];cases i with
  |zero=>cases(show S a=S b from j);show q
  |succ i=>
   let e:k+(i+1)=k+1+i:=by ext
   rw[e];show l i b (by simpa using j)
def S0(c:Uv.strOk a=R)(e:Uv.strOk b=R):cX (.str a) (.str b)=S (.fz (.bool (a==b))):=by ext cX;rw[show kg (.str a)=R by ext kg;rw[show Uv.canLay0 (.str a)=R from c];rfl,show Uv.canLay0 (.str b)=R from e,WW,ax W];rfl
def LI(b:Uv.strOk a=R):cX (.str a) (.str a)=S (.fz (.bool R)):=by rw[S0 b b,eu]
def AB(c:Uv.strOk a=R)(e:Uv.strOk b=R)(h:(a==b)=A):cX (.str a) (.str b)=S (.fz (.bool A)):=by rw[S0 c e,h]
theorem sY{α:Type}{xs:G α}{i:Int}{v:α}(a:0<=i)(h:xs[i.toNat]?=S v):jS xs i=S v:=Ov a h
def IL(a:0<=i)(h:ds[i.toNat]?=S d):aZ (.list ds) (.int i)=S (.fz d):=by show(jS ds i).map RV.fz=_;rw[sY a h];rfl
def IG{s:G Nat}(e:s.Pairwise (·<·))(h:∀k∈s,k<n):s.length<=n:=by
 let:∀(s:G Nat) (a:Nat),s.Pairwise (·<·)->(∀k∈s,a<=k/\k<n)->s.length<=n - a:=by
  intro s
  induction s with
  |nil=>intro a _ _;show Vm _
  |cons x r i=>intro a e h;let(l,j):=Ya.mp e;let m:=h x UX;let:=i (x+1) j λk b=>#[l k b,(h k (UN _ b)).2];rw[UJ];ext
 show this s 0 e λk b=>#[Vm _,h k b]
def tQ(c:fr ρ=.ok (o,ρ1))(hd:nk ρ1 o=S ([d,e],ρ2))(b:dZ d=S es)(a:dZ e=S fs):ut fr ρ=.ok (jr es fs,ρ2):=by ext ut;rw[c,ey,hd,aR,ey];dsimp only;rw[b,aR,ey,a,aR,ey]
end
end L3
namespace L3
open PySem PySem.Spec PyProof.Rows L2 PySem.Builtin PySem.Builtin.Str
section
variable{K:lD}{E:XK}{B O X:bE}{T H N:Hp}{L:L2.St}{J Y:aL}{v:V}
def TN(K:lD)(r:V->G V->Hp->VK->Prop)(f:Str->G D->b4 RV):Prop:=∀(O:bE) (H:Hp) (z:Str) (xs:G V) (ds:G D) (a:RV) (Q:VK),kR O H->Paired (DX O K H) xs ds->f z ds=S a->Fin O K H Q a->r (.str z) xs H Q
end
end L3
namespace L2
open PySem PySem.Spec PyProof.Rows
section
variable{Y:Type}[DecidableEq Y]
def iV(b:G (Y×V))(k:Y):z V:=(b.find? λa=>decide (a.1=k)).map (·.2)
def g6(b:G (Y×V))(k:Y)(v:V):G (Y×V):=
 if(b.any λa=>decide (a.1=k))=R then b.map (λa=>if a.1=k then(a.1,v)else a)else b++[(k,v)]
def kW(b:G (Y×V))(k:Y):G (Y×V):=b.filter λa=>decide (a.1≠k)
def pV{k:Y}(e:p.1=k):iV (p::r) k=S p.2:=by simp[iV,Vg,e]
def p5{k:Y}(e:¬p.1=k):iV (p::r) k=iV r k:=by simp[iV,Vg,e]
theorem ve(k:Y):∀a:G (Y×V),(a.any λb=>decide (b.1=k))=(iV a k).isSome
 |[]=>rfl
 |p::r=>by
  rw[XM];by_cases e:p.1=k
  .simp only[pV e,a5 e,Xq,abZ]
  .rw[p5 e,a6 e,Yn];show ve k r
def jn(a:G (Y×V))(k:Y)(v:V):(g6 a k v).length<=a.length+1:=by
 ext g6;split
 .rw[Us];ext
 .rw[Uz,UJ,Wt];ext
def Ye.Yk(r:Ye o u):o.isSome=u.isSome:=by
 cases o with
 |none=>cases u with
  |none=>rfl
  |some _=>show(show False from r).elim
 |some _=>cases u with
  |none=>show(show False from r).elim
  |some _=>rfl
def KV.val{d:G (Y×V)}{c:G (Y×U)}(r:KV d c)(k:Y):Ye (iV d k) (valueAt c k):=by
 unfold KV at r
 induction r with
 |nil=>show True.intro
 | @cons p q l i h t j=>
  let(f,g):=h;by_cases e:p.1=k
  .let a:q.1=k:=f.symm.trans e
   let b:valueAt (q::i) k=S q.2:=by simp[valueAt,Vg,a]
   rw[pV e,b];show g
  .let a:¬q.1=k:=λz=>e (f.trans z)
   let b:valueAt (q::i) k=valueAt i k:=by simp[valueAt,Vg,a]
   rw[p5 e,b];show j
def KV.any(r:KV UZ vs)(k:Y):(UZ.any λb=>decide (b.1=k))=vs.any λb=>decide (b.1=k):=by
 unfold KV at r
 induction r with
 |nil=>rfl
 |cons h t a=>rw[XM,XM,a,h.1]
def KV.ae4(r:KV UZ vs)(k:Y)(b:RelV y u):
  KV (UZ.map λc=>if c.1=k then(c.1,y)else c) (vs.map λc=>if c.1=k then(c.1,u)else c):=by
 unfold KV at r⊢
 induction r with
 |nil=>show .nil
 | @cons p q j i h t g=>
  rw[UK,UK];show .cons ?_ g;let(a,f):=h;by_cases e:p.1=k
  .rw[ax e,ax (a.symm.trans e)];show#[a,b]
  .rw[a4 e,a4 (λz=>e (a.trans z))];show#[a,f]
def KV.put(r:KV UZ vs)(k:Y)(a:RelV y u):KV (g6 UZ k y) (stored vs k u):=by
 unfold g6 stored;rw[r.any k];by_cases e:(vs.any λb=>decide (b.1=k))=R
 .rw[ax e,ax e];show r.ae4 k a
 .rw[a4 e,a4 e];show Paired.snoc r #[W,a]
def KV.drop(r:KV UZ vs)(k:Y):KV (kW UZ k) (without vs k):=by
 unfold KV at r⊢;unfold kW without
 induction r with
 |nil=>show .nil
 | @cons p q m l h t j=>
  let(f,g):=h;rw[Yu,Yu];by_cases e:p.1=k
  .let a:¬decide (p.1≠k)=R:=by simp[e]
   let b:¬decide (q.1≠k)=R:=by simp[f.symm.trans e]
   rw[a4 a,a4 b];show j
  .let i:¬q.1=k:=λz=>e (f.trans z)
   let a:decide (p.1≠k)=R:=by simp[e]
   let b:decide (q.1≠k)=R:=by simp[i]
   rw[ax a,ax b];show .cons #[f,g] j
def KV.keys{b:G (Y×U)}(r:KV UZ b):UZ.map (·.1)=b.map (·.1):=by
 unfold KV at r
 induction r with
 |nil=>rfl
 |cons h t a=>rw[UK,UK,a,h.1]
theorem KV.length(r:KV UZ vs):UZ.length=vs.length:=Paired.length r
theorem ES(a:G (Y×V))(k:Y):(kW a k).length<=a.length:=YS _ _
end
def sd(r:RelV (kV k) u):(ci a w).is k u=R:=by
 cases k with
 |inl i=>let(t,e):=(show∃t,u=CL.int i t from r);subst e;show wc a w i t
 |inr x=>let(t,e):=(show∃t,u=CL.str x t from r);subst e;show wa a w x t
theorem rF:∀{b:G b5} {us:G U},Vals (b.map kV) us->ItemsAre (ci a w) b us
 |[],_,r=>by rw[W6]at r;ext r;show .nil
 |k::b,_,r=>by
  rw[UK]at r;cases r with
  |cons h t=>show .cons (sd h) (rF t)
abbrev KT(H:Hp):G (G b5×V)->G (G b5×M×U)->Prop:=Paired λp q=>p.1=q.1/\H q.2.1=S (.tup (p.1.map kV))/\RelV p.2 q.2.2
def KT.val(r:KT H UZ xs)(k:G b5):Ye (iV UZ k) ((atKey xs k).map (·.2)):=by
 induction r with
 |nil=>show True.intro
 | @cons p q l i h t j=>
  let(f,_,g):=h;by_cases e:p.1=k
  .let a:=f.symm.trans e
   let b:atKey (q::i) k=S q.2:=by simp[atKey,Vg,a]
   rw[pV e,b];show g
  .let a:¬q.1=k:=λz=>e (f.trans z)
   let b:atKey (q::i) k=atKey i k:=by simp[atKey,Vg,a]
   rw[p5 e,b];show j
def KT.ae4(r:KT H UZ xs)(k:G b5)(f:RelV y u):
  KT H (UZ.map λc=>if c.1=k then(c.1,y)else c) (xs.map (putAt k u)):=by
 induction r with
 |nil=>show .nil
 | @cons p q l j h t i=>
  rw[UK,UK];show .cons ?_ i;let(a,b,g):=h;ext putAt;by_cases e:p.1=k
  .rw[ax e,ax (a.symm.trans e)];show#[a,b,f]
  .rw[a4 e,a4 (λz=>e (a.trans z))];show#[a,b,g]
def KT.put(r:KT H UZ xs)(k:G b5)(g:H b=S (.tup (k.map kV)))(a:RelV y u):
  KT H (g6 UZ k y) (storedH xs k b u):=by
 let e:(UZ.any λf=>decide (f.1=k))=(atKey xs k).isSome:=by rw[ve,(r.val k).Yk,V6]
 unfold g6 storedH;rw[e];by_cases q:(atKey xs k).isSome=R
 .rw[ax q,ax q];show r.ae4 k a
 .rw[a4 q,a4 q];show Paired.snoc r #[W,g,a]
theorem KT.keeps(r:KT H UZ xs)(a:∀b ys,H b=S (.tup ys)->H' b=S (.tup ys)):KT H' UZ xs:=
 Paired.Yc r λ_ _ z=>#[z.1,a _ _ z.2.1,z.2.2]
section
variable{P:UR}{w:Va}{H:Hp}{h:Heap}{a:Uu}
theorem LK(ok:YU P w H h)(e:Rd H a u):ObjOk P w H h a u:=e.ok ok
theorem v9(ok:YU P w H h)(e:Rd H a (.dK o)):o.length<=UD/\(a==Wr)=A/\∃b,KV o b/\h.DictOf (ci P w) a b:=
 show ObjOk P w H h a (.dK o)from LK ok e
theorem wS(ok:YU P w H h)(e:H a=S (.dK o)):o.length<=UD/\(a==Wr)=A/\∃b,KV o b/\h.DictOf (ci P w) a b:=v9 ok (.inl e)
def uy{c:G b5}(ok:YU P w H h)(e:H a=S (.tup (c.map kV))):(tupleKind (ci P w)).is h c a:=by let(_,i,r,o,g,(f,n,b),_):=(show ObjOk P w H h a (.tup (c.map kV))from ok a _ e);show#[o,i.toArray,n,g,f,b,by simpa using rF r]
def wD(ok:YU P w H h)(e:Rd H a (.dT C)):C.length<=UD/\(a==Wr)=A/\
  ∃xs,KT H C xs/\h.DictOfH (tupleKind (ci P w)) a xs:=by
 let(z,y,xs,r,o,es,u,n,j,i,g,f):=(show ObjOk P w H h a (.dT C)from LK ok e);show#[z,y,xs,r,o,es,u,n,j,i,g,λx b=>?_,f];let all:∀{l:G (G b5×V)} {m:G (G b5×M×U)},KT H l m->∀x∈m,(tupleKind (ci P w)).is h x.1 x.2.1:=by
  intro l m q
  induction q with
  |nil=>intro x b;show nomatch b
  | @cons p q I E v t B=>
   intro x b;rcases U5.mp b with e|b
   .subst e;show uy ok (by rw[<-v.1];show v.2.1)
   .show B x b
 show all r x b
theorem QI(ok:YU P w H h)(e:H a=S (.dT o)):o.length<=UD/\(a==Wr)=A/\
  ∃xs,KT H o xs/\h.DictOfH (tupleKind (ci P w)) a xs:=wD ok (.inl e)
end
def aaL(H:Hp)(a:M)(y:V)(r:z V):Prop:=
 (∃e k,Rd H a (.dK e)/\y=kV k/\r=iV e k)\/∃e k b,Rd H a (.dT e)/\y=.ref b/\H b=S (.tup (k.map kV))/\r=iV e k
def adi(H:Hp)(a:M)(y v:V)(H':Hp):Prop:=
 (∃e k,H a=S (.dK e)/\y=kV k/\e.length<UD/\H'=aW H a (.dK (g6 e k v)))\/
 ∃e k b,H a=S (.dT e)/\y=.ref b/\H b=S (.tup (k.map kV))/\e.length<UD/\H'=aW H a (.dT (g6 e k v))
theorem aaL.k{k:b5}(e:H a=S (.dK UZ)):aaL H a (kV k) (iV UZ k):=.inl #[UZ,k,.inl e,W,W]
theorem adi.k{k:b5}(e:H a=S (.dK UZ))(b:UZ.length<UD):adi H a (kV k) v (aW H a (.dK (g6 UZ k v))):=.inl #[UZ,k,e,W,b,W]
section
variable{X:Cx}{Z:b3 (Uu×Obj)}{Y:St}{H:Hp}{s:Uw}{a:Uu}{y v:V}{u r:CL}{o:b4 V}{A:U4}{E:CL->Uw->Prop}
def Inv.big(I:Inv X Z Y H s):Wr<s.heap.objs.size:=by let h:=(I.mod.glob.keeps I.bk).lt;show Xv () h
def A2{Q:U->Uw->Prop}(t:A.units+1<cLine)(I:Inv X Z Y H s)(g:aaL H a y (S v))(q:RelV y u)(h:∀c d,Inv X Z Y H d->RelV v c->Q c d):
  wpAny (model X.prog X.w) A (getItem (.ref a) u) Q E s:=by
 rcases g with⟨J,k,e,n,l⟩|⟨J,k,b,e,n,F,l⟩
 .subst n;let(z,C,w,i,dd):=v9 I.VF e;let(c,j,f):=Ye.some_of (v:=v) (o:=valueAt w k) (by rw[l];show i.val k);show wpAny_getItem_of (sd q) dd.mapOf j (h c _ (I.tok _) f)
 .subst n;cases(show u=CL.ref b from q);let(z,C,xs,i,dd):=wD I.VF e;let(c,j,f):=Ye.some_of (v:=v) (o:=(atKey xs k).map (·.2)) (by rw[l];show i.val k);let(p,B,m):=Yv.mp j;show aeA (ZT t) (uy I.VF F) dd B ?_;rw[m];show h c _ (I.tok _) f
def SL{Q:U->Uw->Prop}(n:A.units+1<cLine)(I:Inv X Z Y H s)(g:aaL H a y o)(m:RelV y u)(h:∀c,Inv X Z Y H c->Q (.bool o.isSome) c):
  wpAny (model X.prog X.w) A (V5 .In u (.ref a)) Q E s:=by
 rcases g with⟨t,k,e,j,l⟩|⟨t,k,b,e,j,p,l⟩
 .subst j;let(z,i,w,f,dd):=v9 I.VF e;show wpAny_in_of (sd m) i dd.mapOf ?_;rw[<-(f.val k).Yk,<-l];show h _ (I.tok _)
 .subst j;cases(show u=CL.ref b from m);let(z,i,xs,f,dd):=wD I.VF e;show aj5 (ZT n) (uy I.VF p) i dd ?_;let q:=(f.val k).Yk;rw[V6]at q;rw[<-q,<-l];show h _ (I.tok _)
theorem lG{c:Heap}{d:Nat}{f:HO}(I:Inv X Z Y H s)(g:QP (H a))(h:Heap.SameBut a s.heap c)(i:∃q,c.get? a=S q)(new:ObjOk X.prog X.w (aW H a f) c a f):
  Inv X Z Y (aW H a f) {s with heap:=c,toks:=d}:=
 I.write (x:=a) (e:=a) g (.inl W) (λb q j z=>(h.2 b j).trans z) i new
theorem xq(z:I.length<=UD)(hd:(a==Wr)=Ut)(b:KV I C)(dd:J.DictOf (ci e w) a C):
  ObjOk e w H' J a (.dK I):=#[z,hd,C,b,dd]
def Bo{H':Hp}{Q:Unit->Uw->Prop}(L:A.units+1<cLine)(I:Inv X Z Y H s)(g:adi H a y v H')(F:RelV y u)(x:RelV v r)(h:∀d,Inv X Z Y H' d->Q ⟨⟩ d):
  wpAny (model X.prog X.w) A (setItem (.ref a) u r) Q E s:=by
 rcases g with⟨w,k,e,B,l,C⟩|⟨w,k,b,e,B,K,l,C⟩
 .subst B C
  let(z,t,vs,f,dd):=wS I.VF e;let m:vs.length<=UD:=by rw[<-f.length];show z
  let p:(g6 w k v).length<=UD:=by let:=jn w k v;ext
  show wpAny_setItem_pairs (hsz:=m) (sd F) dd λG i n=>h _ ?_;let M:∃q,G.get? a=cL q:=let#[q,_,_,j,_]:=i;#[q,j]
  show lG I (by rw[e];show True.intro) n M (xq p t (f.put k x) i)
 .subst B C
  cases(show u=CL.ref b from F);let(z,t,xs,f,dd):=QI I.VF e;let m:xs.length<=UD:=by rw[<-Paired.length f];show z
  let p:(g6 w k v).length<=UD:=by let:=jn w k v;ext
  show aeB (hsz:=m) (ZT L) (uy I.VF K) dd λG i n=>h _ ?_;let(q,es,S,j,R,P,O,_,N):=i;show lG I (by rw[e];show True.intro) n #[q,j] #[p,t,_,(f.put k K x).keeps λc T J=>?_,q,es,S,j,R,P,O,N];rw[ar (Ro J e (λz=>nomatch z))];show J
end
section
variable{X:Cx}{Z:b3 (Uu×Obj)}{T:St}{H:Hp}{s:Uw}{a:Uu}{Y:b3 (b5×V)}{k:b5}{u:CL}{A:U4}{E:CL->Uw->Prop}
def Ru{v:V}{b:G U}{Q:U->Uw->Prop}(I:Inv X Z T H s)(e:H a=S (.dK Y))(j:RelV (kV k) u)(l:iV Y k=S v)(hm:b=[]\/∃x,b=[x])
  (h:∀c d,Inv X Z T (aW H a (.dK (kW Y k))) d->RelV v c->Q c d):wpAny (model X.prog X.w) A (call (.builtin "dict.pop") (.ref a::u::b)) Q E s:=by
 let(z,B,w,f,dd):=wS I.VF e;let(c,n,m):=Ye.some_of (v:=v) (o:=valueAt w k) (by rw[<-l];show f.val k);let r:(keyPart u).isSome=R:=by
  cases k with
  |inl i=>let(t,q):=(show∃t,u=CL.int i t from j);subst q;rfl
  |inr x=>let(t,q):=(show∃t,u=CL.str x t from j);subst q;rfl
 let L:argsOk "dict.pop" #[.ref a::u::b,[]]:=by
  rcases hm with q|⟨x,q⟩
  .subst q;show PySem.F.args_dict_pop_2 _ _
  .subst q;show PySem.F.args_dict_pop_3 _ _ _
 show call_meetsIn aaQ dd.typeIs PySem.F.entry_dict_pop L (meets_dict_pop_there (ci X.prog X.w) a (sd j) b hm r)
  #[w,c,dd,by rw[<-f.length];show z,n,λC g p=>h c _ ?_ m]
 let y:∃q,C.get? a=S q:=let#[q,_,_,J,_]:=g;#[q,J]
 show lG I (by rw[e];show True.intro) p y (xq (Vb (ES Y k) z) B (f.drop k) g)
end
def ME(i:UW):Prop:=∀a b,subscripted i A a b=operate [a,b] (getItem a b)
def zL{T id:String}
  (m:typeLookup (.type T) "__getitem__"=pure (S (.builtin id))) (l:ME slice)
  (h:wpAny (model prog w) n (eval value env) (λo d=>wpAny (model prog w) n (eval slice env) (λi c=>c.TypeIs o T/\wpAny (model prog w) n (getItem o i) Q E c) E d) E s):
  wpAny (model prog w) n (eval (.Subscript value slice pos) env) Q E s:=by
 show Subscript_ (wpAny_mono h (λo d g=>wpAny_mono g (λi c a=>?_) λ_ _ x=>x) λ_ _ x=>x);let(j,a):=a;ext subscriptTail;show Ld ?_;rw[getitemInPython_of_ne j.not_modules];show Ld (ag2 j m ?_);let e:wpAny (model prog w) n (subscripted slice Ut o i) (λr b=>wpAny (model prog w) n (letTemporaryGo value o r>>=λ_=>pure r) Q E b) E c:=by rw[l o i];show wpAny_operating (wpAny_mono a (λr b f=>Ld (wpAny_letTemporaryGo (UB f))) λ_ _ x=>x)
 first
  |show UB (Ld e)
  |show Ld (UB (Ld e))
  |show Ld e
def u0(I:Inv X pins σ H s)(g:aaL H a y o):s.TypeIs (.ref a) "dict":=by
 rcases g with⟨f,k,e,_,_⟩|⟨f,k,b,e,_,_,_⟩
 .let(_,_,h,_,dd):=v9 I.VF e;show dd.typeIs
 .let(_,_,xs,_,dd):=wD I.VF e;show dd.typeIs
def K3(f ty:TE):TE:=λb H Q=>f b H λx g=>ty b g λy e=>∃a v,x=.ref a/\aaL e a y (S v)/\Q v e
def QQ(ty f:TE):TE:=λb H Q=>ty b H λy g=>f b g λx e=>∃a o,x=.ref a/\aaL e a y o/\Q (.bl o.isSome) e
def L5(f ty e:TE):TS:=λD b H=>e b H λv i=>f b i λx h=>ty b h λy g=>∃a j,x=.ref a/\adi g a y v j/\D.nx b j
section
variable{X:Cx}{o i e Z:UW}{pos Y ajq:Pos}{U ty tv:TE}
def KF(t:X.A.units+1<cLine)(z:PE X o U)(c:PE X i ty)(w:ME i):PE X (.Subscript o i pos) (K3 U ty):=by intro b s j H Q I h;show zL Z7.lookup w (bW (z b s j H _ I h) λu m #[x,G,E,p,r]=>bW (c b m j G _ E r) λM L a=>?_);let(y,F,l,n,a,v,B,g,q):=a;subst B;obtain rfl:=p;show#[u0 l g,A2 t l g n λJ K C f=>#[v,F,C,f,q]]
def Fp(r:X.A.units+1<cLine)(c:PE X i ty)(t:PE X o U):PC X .In i o (QQ ty U):=by intro b s f H Q I h;show bW (c b s f H _ I h) λJ j #[y,E,B,l,p]=>bW (t b j f E _ B p) λu G a=>?_;let(x,C,z,m,a,q,v,g,n):=a;subst v;obtain rfl:=m;show SL r z g l λF w=>#[.bl q.isSome,C,w,W,n]
def JZ(z:X.A.units+1<cLine)(C:PE X o U)(c:PE X i ty)(w:PE X Z tv)(B:WO Z (S (.Subscript o i Y)) pos.line X.env=pure A):
  PS X (.Assign [.Subscript o i Y] Z pos) (L5 U ty tv):=by
 intro b s f H D I h;show acF (bW (w b s f H _ I h) λr l #[v,N,K,rv,t]=>bW (C b l f N _ K t) λu j #[x,T,J,n,q]=>bW (c b j f T _ J q) λQ P a=>?_) B;let(y,R1,G,m,a,L,E,g,p):=a;subst E;obtain rfl:=n;show Bo z G g m rv λO F=>#[f,L,F,p]
end
def lX(c a:G (b5×V)):G (b5×V):=a.foldl (λb e=>g6 b e.1 e.2) c
def KV.merge:∀{a:G (b5×V)} {b:G (b5×U)} {d:G (b5×V)} {c:G (b5×U)},KV a b->KV d c->KV (lX d a) (merged c b):=by
 intro a b d c r;unfold KV at r
 induction r generalizing d c with
 |nil=>intro q;show q
 | @cons p q j i h t g=>
  intro f;let e:KV (g6 d p.1 p.2) (stored c q.1 q.2):=by let:=f.put p.1 h.2;rw[<-h.1];show this
  show g e
theorem jZ:∀(a c:G (b5×V)),(lX c a).length<=c.length+a.length
 |[],c=>by show c.length<=c.length+0;ext
 |p::r,c=>by let e:=jZ r (g6 c p.1 p.2);let b:=jn c p.1 p.2;show(lX (g6 c p.1 p.2) r).length<=_;rw[UJ];ext
structure M1(X:Cx)(o:UW)(m:Str)(apos:Pos)(e:UW)(Xk:Pos):Prop where
 base:attributeBase o m X.env (eval o X.env)=eval o X.env
 few:((backTo Xk (UO [e] X.env)).all (λx=> !x.1)&&(backToKw Xk (keywordEach [] X.env)).all (λx=>x.1.isSome)
  &&decide (([e]:G UW).length+([]:G YB).length+(if([]:G YB).isEmpty then 0 else 1)<30))=R
 line:(apos.endLine==Xk.line)=R
 trees:backTo Xk (UO [e] X.env)=[(A,eval e X.env)]
structure M2(X:Cx)(o:UW)(m:Str)(apos:Pos)(e f:UW)(Xk:Pos):Prop where
 base:attributeBase o m X.env (eval o X.env)=eval o X.env
 few:((backTo Xk (UO [e,f] X.env)).all (λx=> !x.1)&&(backToKw Xk (keywordEach [] X.env)).all (λx=>x.1.isSome)
  &&decide (([e,f]:G UW).length+([]:G YB).length+(if([]:G YB).isEmpty then 0 else 1)<30))=R
 line:(apos.endLine==Xk.line)=R
 trees:backTo Xk (UO [e,f] X.env)=[(A,eval e X.env),(A,eval f X.env)]
def Tn(H:Hp)(a:M):Prop:=(∃b,Rd H a (.dK b))\/∃b,Rd H a (.dT b)
def Mv(I:Inv X pins σ H s)(d:Tn H a):
  s.TypeIs (.ref a) "dict"/\(∀b,CL.ref a=.ref b->∃c,s.heap.get? b=S c/\c.dict=P)/\(a==Wr)=A:=by
 rcases d with⟨i,e⟩|⟨i,e⟩
 .let(_,f,j,_,dd):=v9 I.VF e;show#[dd.typeIs,λb q=>?_,f];ext q;let(c,_,_,h,g,_):=dd;show#[c,h,g.2.1]
 .let(_,f,xs,_,dd):=wD I.VF e;show#[dd.typeIs,λb q=>?_,f];ext q;let(c,_,_,h,g,_):=dd;show#[c,h,g.2.1]
def GK(g ty:TE):TE:=λb H Q=>g b H λx f=>∃a,x=.ref a/\Tn f a/\ty b f λy e=>∃h k v,e a=S (.dK h)/\y=kV k/\iV h k=S v/\Q v (aW e a (.dK (kW h k)))
section
variable{X:Cx}{o e f:UW}{Z Y:Pos}{T ty tx:TE}
def DL(A:PE X o T)(B:PE X e ty)(m:M1 X o "pop" Z e Y):PE X (.Call (.Attribute o "pop" Z) [e] [] Y) (GK T ty):=by intro b s i H Q I h;show wpAny_Call_method m.base m.few m.line aan aaQ PySem.F.type_dict_pop (bW (A b s i H _ I h) λu q a=>?_);let(x,L,j,t,a,E,d,z):=a;subst E;obtain rfl:=t;let(p,n,_):=Mv j d;show#[p,n,?_];rw[m.trees];show Calls.callWith_builtin W (Calls.evalArgs_plain (Calls.spliced_cons (bW (B b q i L _ j z) λP O a=>?_)));let(y,F,K,r,UZ,k,v,G,C,l,w):=a;show Calls.spliced_nil ?_;subst C;show Ru K G r l (.inl W) λM N J g=>#[v,_,J,g,w]
end
end L2
namespace L4
open PySem PySem.Spec PyProof.Rows L2 L3
def A6(h:Heap)(e:M)(c:U)(d:z M)(a:U)(hd:z M):Prop:=
 ∃b fs,h.get? e=S b/\b.cls=c/\b.dict=d/\b.data=.fields fs/\fs[0]?=S a/\
  match hd with
  |none=>fs[1]?=S .none
  |some T=>fs[1]?=S (.ref T)/\T≠e/\∃g f,h.get? T=S g/\g.data=.fields f/\f[3]?=S .none
structure Lft(l:G Env)(e:M)(hd:z M)(h h':Heap):Prop where
 keep:∀b o,h.get? b=S o->b≠e->hd≠S b->b∉uW l->h'.get? b=S o
 slot:∀b o,h.get? b=S o->b≠e->hd≠S b->∃sl,h'.get? b=S {o with slots:=sl}
 here:∀b o,h.get? b=S o->∃o',h'.get? b=S o'
section
variable{M:aaN}{A:U4}{E:CL->Uw->Prop}{s:Uw}
def gn
  (I:A.frames=cL (env::outer)) (B:s.heap.FunFrames base (env::outer)) (H:env.frame=cL L) (C:s.heap.get? e=cL ob) (p:ob.data=.fields fs) (m:1<fs.size) (J:fs[0]?=cL a0)
  (k:∀D T,s.heap.objs.size<=T->A6 D e ob.cls ob.dict a0 (cL T)->Lft (env::outer) e Uo s.heap D->Q ⟨⟩ {s with heap:=D}):
  wpAny M A (frameOf env>>=λfr=>entryPlaceOf L nx>>=λpl=>EntryCells.newEntry hv fr .none (rawInt L) .none pl>>=λb=>setField (.ref e) 1 b) (λ_ V=>wpAny M A (setFlight (.ref e) Uo) Q E V) E s:=by
 let j:e∉(env::outer).filterMap (·.frame):=λz=>by let(_,o,q,n):=B.mem z;rw[C]at q;ext q;show n fs p
 show Ld (afi I B H λa S=>?_);show Ld (aeC λpl P=>?_);unfold EntryCells.newEntry newFields;show Ld (We ?_ (P.sizeOk5 _ _ _ _ _));let y:=(S.2.1 e j).trans C;generalize X:({cls:=.type "traceback",dict:=Uo,data:=.fields ([hv,.ref L,.none,rawInt L,.none]++(if pl.isEmpty then UA 6 CL.none else pl)).toArray}:Obj)=N;let g:N.data=.fields ([hv,.ref L,.none,rawInt L,.none]++(if pl.isEmpty then UA 6 CL.none else pl)).toArray:=by rw[<-X]
 let K:=ef g;let w:=ck N y;show VQ w p m ?_;let l:=VI (cn y);let r:=ec p (·.setIfInBounds 1 (CL.ref a.objs.size));let i:=dt (Obj.mapFields (·.setIfInBounds 1 (CL.ref a.objs.size))) w (ef r)
 let u:=
  (da (a.push N) (Obj.mapFields (·.setIfInBounds 1 (CL.ref a.objs.size))) l.symm).trans (cv a K)
 ext setFlight;show Ld (Vc i r (x:=.ref a.objs.size) (by simp[m]) ?_);rw[ax (show(CL.ref a.objs.size !=CL.none)=R from by simp)];let t:3<([hv,.ref L,.none,rawInt L,.none]++(if pl.isEmpty then UA 6 CL.none else pl)).toArray.size:=by simp only[US,Uz,UJ,Wt];ext
 show VQ u g t ?_;let v:=da ((a.push N).update e (Obj.mapFields (·.setIfInBounds 1 (CL.ref a.objs.size)))) (Obj.mapFields (·.setIfInBounds 3 ((Uo:b4 Uu).elim CL.none λf=>rawInt f))) l;let F:=dt (Obj.mapFields (·.setIfInBounds 3 ((Uo:b4 Uu).elim CL.none λf=>rawInt f))) u (ef (ec g _));let X8:∀b o,b≠e->a.get? b=cL o->(((a.push N).update e (Obj.mapFields (·.setIfInBounds 1 (CL.ref a.objs.size)))).update a.objs.size (Obj.mapFields (·.setIfInBounds 3 ((Uo:b4 Uu).elim CL.none λf=>rawInt f)))).get? b=cL o:=λb o ne q=>by rw[da _ _ (VI (cn q)),da _ _ ne.symm];show ck N q
 show k _ a.objs.size (by rw[S.1];show UC _) #[_,_,v.trans i,Obj.cls_mapFields _ _,?_,r,?_,?_,l,_,_,F,ec g _,?_] #[λb o q ne _ G=>X8 b o ne ((S.2.1 b G).trans q),λb o q ne _=>?_,λb o q=>?_]
 .cases ob with
  |mk c d O h=>ext O<;>rfl
 .rw[Xw ()];show J
 .simp[m]
 .rw[V3 t];rfl
 .let(h,z):=S.2.2 b o q;show#[h,X8 b _ ne z]
 .by_cases ne:b=e
  .subst ne;show#[_,v.trans i]
  .let(h,z):=S.2.2 b o q;show#[_,X8 b _ ne z]
def BQ
  (v:A.frames=S (env::outer)) (u:s.heap.FunFrames base (env::outer)) (h:env.frame=S L) (F:A6 s.heap e c dx a0 hd)
  (k:∀x T,s.heap.objs.size<=T->A6 x e c dx a0 (S T)->Lft (env::outer) e hd s.heap x->Q ⟨⟩ {s with heap:=x}):wpAny M A (leaving env (.ref e)) Q E s:=by
 let(N,fs,q,I,H,d,w,r):=F;subst I H;cases hd with
 |none=>let r:=r;unfold leaving noteFrame;simp only[h];show Ld (Ld (Vc q d r ?_));rw[a4 ()];show gn v u h q d (U1.mp r).1 w k
 |some T=>
  let(r,C,O,B,g,dT,p):=r;unfold leaving noteFrame;simp only[h];show Ld (Ld (Vc q d r ?_));rw[ax (show(CL.ref T !=CL.none)=R from by simp)];show Ld (Vc g dT p ?_);rw[a4 (show¬((CL.none==rawInt L)=R)from by simp[rawInt])];show Ld (VQ g dT (U1.mp p).1 ?_);let f:∀b,b≠T->(s.heap.update T (Obj.mapFields (·.setIfInBounds 3 CL.none))).get? b=s.heap.get? b:=λb ne=>da _ _ ne.symm;let a:=dt (Obj.mapFields (·.setIfInBounds 3 CL.none)) g (ef (ec dT _));let m:∀b o,s.heap.get? b=S o->(∀X,o.data≠.fields X)->b≠T:=λb o z n y=>by rw[y,g]at z;ext z;show n B dT
  show gn v (u.of_keeps λb o z n=>#[o,(f b (m b o z n)).trans z,W]) h ((f e C.symm).trans q) d (U1.mp r).1 w λx J t K i=>k x J (by rw[Heap.size_after_update]at t;show t) K #[λb o z l j G=>?_,λb o z l j=>?_,λb o z=>?_]
  .show i.keep b o ((f b λy=>j (by rw[y])).trans z) l (by simp) G
  .show i.slot b o ((f b λy=>j (by rw[y])).trans z) l (by simp)
  .by_cases y:b=T
   .subst y;show i.here b _ a
   .show i.here b o ((f b y).trans z)
end
theorem Lft.VF{P:UR}{w:Va}{l:G Env}{e:M}{hd:b4 M}{H:Hp}{h d:Heap}(L:Lft l e hd h d)(m:YU P w H h)(ne:H e=Uo)(i:∀T,hd=S T->H T=Uo)(j:∀b∈uW l,H b=Uo):YU P w H d:=λb u q=>by
 let free:∀c v,H c=S v->c≠e/\hd≠S c/\c∉uW l:=λc v z=>#[(λy=>by rw[y,ne]at z;ext z),(λy=>by rw[i c y]at z;ext z),(λy=>by rw[j c y]at z;ext z)];show(m b u q).X8 (λc v n z=>?_) (λ_ z=>z) λ_ _ z=>z;rcases n with y|y
 .rw[y]at z⊢;let(g,f,a):=free b u q;show L.keep b v z g f a
 .let(g,f,a):=free c _ y;show L.keep c v z g f a
def i7(P:UR)(w:Va):uN:=λa H s E x b=>
 ∃e c f a0 T H',x=.ref e/\s.heap.get? e=Uo/\s.heap.get? T=Uo/\A6 b.heap e c f a0 (S T)/\H' e=Uo/\H' T=Uo/\
  b.os=s.os/\AllBare b.gens/\Un (uW a) [] H H' s.heap b.heap/\YU P w H' b.heap/\E c f H'
def L6{P:UR}{w:Va}{K:lD}{k:Str->b4 CL}{base:Heap}{N:b3 Str}{i:Str}{a:Wd}{f:Uu}{v:CL}{A:U4}{outer:b3 Env}{g:Uw}{G:Hp}{E:XK}
  {l:b3 (Uu×Obj)} {J:L2.St} {H:Hp} {s:Uw} {e:Uu} {c C:CL} {d hd:b4 Uu} (I:L2.Inv (dR (i7 P w) P w K k base N i a f v A outer g G E) l J H s)
  (F:A6 s.heap e c d C hd) (u:g.heap.get? e=Uo) (S:∀T,hd=cL T->g.heap.get? T=Uo) (ne:H e=Uo) (Q:∀T,hd=cL T->H T=Uo) (q:E c d H):
  (dR (i7 P w) P w K k base N i a f v A outer g G E).xe (.ref e) s:=by
 let Z:=I.ok.frames;let Y:=I.stack;show BQ (L:=g.heap.objs.size) Z Y W F λh' T t F' L=>?_;let R:=L.VF I.VF ne Q I.Zl;let X:H T=Uo:=I.VF.fresh t;let p:∀b o,g.heap.get? b=cL o->b<g.heap.objs.size:=λb o z=>cn z;let h:∀b o,g.heap.get? b=cL o->b≠e/\hd≠cL b:=λb o z=>#[(λy=>by rw[y,u]at z;ext z),(λy=>by rw[S b y]at z;ext z)];let sz:=I.sz;show#[e,c,d,C,T,H,W,u,d3 (Vb sz t),F',ne,X,I.os,I.bare,?_,R,q];let B:=I.base;show#[λb o z n r _=>?_,λb o z n U _=>?_,λb o z n _=>?_,λb o z _=>?_,B.Zu,B.Zn,B.Zx]
 .let j:=B.keep b o z n r (λy=>nomatch y)
  show L.keep b o j (h b o z).1 (h b o z).2 λy=>?_;rcases U5.mp (I.Y8 b y)with y|y
  .let y:b=g.heap.objs.size:=y;show bg (p b o z) (by rw[y];show VN _)
  .show r y
 .let(sl,j):=B.slot b o z n U (λy=>nomatch y);let(m,M):=L.slot b _ j (h b o z).1 (h b o z).2;show#[m,M]
 .show B.free b o z n (λy=>nomatch y)
 .let(O,j):=B.there b o z (λy=>nomatch y);show L.here b O j
def Et{P:UR}{w:Va}{K:lD}{d:Str->b4 U}{base:Heap}{N:G Str}{g:Str}{a:Wd}{f:M}{m:U}{A:U4}{outer:G Env}{i:Uw}{r:Hp}{E:XK}:
  dj (i7 P w) (dR (i7 P w) P w K d base N g a f m A outer i r E) E:=by
 rintro l t H s x u I ⟨e,c,Q,B,T,C,rfl,le,L,F,ne,J,os,bare,un,VF,q⟩;let p:=I.aa8 (ch:=[]) os un VF bare (λb z=>nomatch z);let h:∀b,s.heap.get? b=Uo->i.heap.get? b=Uo:=λb z=>by
  cases y:i.heap.get? b with
  |none=>rfl
  |some o=>let(v,j):=I.base.there b o y (λy=>nomatch y);rw[z]at j;ext j
 show L6 p F (h e le) (λn z=>by ext z;show h T L) ne (λn z=>by ext z;show J) q
def yj(x:ObjOk b w H h a o):∃c,h.get? a=cL c:=by
 cases o with
 |lst xs=>let(_,_,_,_,e):=x;show#[_,e]
 |tup xs=>let(_,_,_,c,e,_):=x;show#[c,e]
 |dK i=>let(_,_,_,_,o,_,_,e,_):=x;show#[o,e]
 |dT i=>let(_,_,_,_,o,_,_,e,_):=x;show#[o,e]
 |set S n=>let(o,_,_,_,e,_):=x;show#[o,e]
 |ins C m fs=>let(_,_,_,e,_):=x;show#[_,e]
 |own y=>show x
 |xd fs=>let(_,(o,_,_,e,_),_):=x;show#[o,e]
 |rng lo l=>let(_,_,_,e):=x;show#[_,e]
 |frz c u=>show#[c,x.1]
 |tbl j=>show#[_,x]
 |met f y=>show#[_,x]
 |ext g=>show x.2.1
 |exw g=>show x.2.1
def vV(k:YU e w H h)(n:h.get? a=Uo):H a=Uo:=by
 cases q:H a with
 |none=>rfl
 |some o=>let(b,z):=yj (k a o q);rw[n]at z;ext z
section
variable{M:aaN}{A:U4}{E:CL->Uw->Prop}{s:Uw}
def G0{base:Heap}{env:Env}{outer:b3 Env}{L e:Uu}{c B:U}{D hd:b4 Uu}{Q:Unit->Uw->Prop}
  (v:A.frames=S (env::outer)) (u:s.heap.FunFrames base (env::outer)) (h:env.frame=S L) (F:A6 s.heap e c D B hd)
  (k:∀x T,s.heap.objs.size<=T->A6 x e c D B (S T)->Lft (env::outer) e hd s.heap x->Q ⟨⟩ {s with heap:=x}):
  wpAny M A (noteFrame (.ref e) env) (λ_ s2=>wpAny M A (setFlight (.ref e) Uo) Q E s2) E s:=by
 let(O,fs,q,J,I,d,w,r):=F;subst J I;cases hd with
 |none=>let r:fs[1]?=S .none:=r;ext noteFrame;simp only[h];show Ld (Vc q d r ?_);rw[a4 ()];show gn v u h q d (U1.mp r).1 w k
 |some T=>
  let(r,G,P,C,g,dT,p):=r;ext noteFrame;simp only[h];show Ld (Vc q d r ?_);rw[ax (show(CL.ref T !=CL.none)=R from by simp)];show Ld (Vc g dT p ?_);rw[a4 (show¬((CL.none==rawInt L)=R)from by simp[rawInt])];show Ld (VQ g dT (U1.mp p).1 ?_);let f:∀b,b≠T->(s.heap.update T (Obj.mapFields (·.setIfInBounds 3 CL.none))).get? b=s.heap.get? b:=λb ne=>da _ _ ne.symm;let a:=dt (Obj.mapFields (·.setIfInBounds 3 CL.none)) g (ef (ec dT _));let m:∀b o,s.heap.get? b=S o->(∀X,o.data≠.fields X)->b≠T:=λb o z n y=>by rw[y,g]at z;ext z;show n C dT
  show gn v (u.of_keeps λb o z n=>#[o,(f b (m b o z n)).trans z,W]) h ((f e G.symm).trans q) d (U1.mp r).1 w λx K t N i=>k x K (by rw[Heap.size_after_update]at t;show t) N #[λb o z l j H=>?_,λb o z l j=>?_,λb o z=>?_]
  .show i.keep b o ((f b λy=>j (by rw[y])).trans z) l (by simp) H
  .show i.slot b o ((f b λy=>j (by rw[y])).trans z) l (by simp)
  .by_cases y:b=T
   .subst y;show i.here b _ a
   .show i.here b o ((f b y).trans z)
def OD{e T:Uu}{c j:U}{y:z Uu}{Q:Unit->Uw->Prop}(F:A6 s.heap e c y j (S T))
  (k:∀x,A6 x e c y j (S T)->(∀b,b≠T->x.get? b=s.heap.get? b)->(∃o,x.get? T=S o)->Q ⟨⟩ {s with heap:=x}):wpAny M A (setFlight (.ref e) P) Q E s:=by
 let(n,fs,q,t,p,d,u,r,i,w,v,h,dT,m):=F;ext setFlight;show Ld (Vc q d r ?_);rw[ax (show(CL.ref T !=CL.none)=R from by simp)];let g:=(U1.mp m).1;show VQ h dT g ?_;let l:∀b,b≠T->(s.heap.update T (Obj.mapFields (·.setIfInBounds 3 ((P:z Uu).elim CL.none λf=>rawInt f)))).get? b=s.heap.get? b:=λb ne=>da _ _ ne.symm;let a:=dt (Obj.mapFields (·.setIfInBounds 3 ((P:z Uu).elim CL.none λf=>rawInt f))) h (ef (ec dT _));show k _ #[n,fs,(l e i.symm).trans q,t,p,d,u,r,i,_,_,a,ec dT _,?_] l #[_,a];rw[V3 g];rfl
end
section
variable{P:UR}{w:Va}{K:lD}{mg:Str->b4 CL}{base:Heap}{N:b3 Str}{qual:Str}{scope:Wd}{f:Uu}{cd:CL}{A:U4}{outer:b3 Env}{s0:Uw}{H0:Hp}{E:XK}{CX:uN}
  {σ:L2.St} {H:Hp} {s:Uw} {h':Heap} {X:Cx}
def pf(I:L2.Inv X [] σ H s)(S:Uu->Prop)(J:X.ex=[])(C:∀p∈X.pn,¬S p.1)(keep:∀b o,s.heap.get? b=cL o->¬S b->b∉uW X.stack->h'.get? b=cL o)
  (slot:∀b o,s.heap.get? b=cL o->¬S b->∃d,h'.get? b=cL {o with slots:=d}) (j:∀b o,s.heap.get? b=cL o->∃k,h'.get? b=cL k)
  (U:∀b,S b->X.s₀.heap.get? b=Uo) (Q:¬S X.env.locals) (T:∀x c,X.env.cells.lookup x=cL c->¬S c) (R:∀b,S b->H b=Uo):L2.Inv X [] σ H {s with heap:=h'}:=by
 let M:∀b o,X.s₀.heap.get? b=cL o->¬S b:=λb o z y=>by rw[U b y]at z;ext z
 let h:∀b,b∉X.ex:=λb z=>by rw[J]at z;ext z
 let B:=I.base;let a:∀x c,X.env.cells.lookup x=cL c->∀v,s.heap.IsCell c v->h'.IsCell c v:=λx c z v #[o,G,L]=>by let(d,q):=slot c o G (T x c z);show#[_,q,L]
 show#[I.ok,I.os,I.bare,#[λb o z n g _=>?_,λb o z n Z _=>?_,λb o z n x=>B.free b o z n x,λb o z x=>?_,B.Zu,B.Zn,B.Zx],?_,λx c z=>?_,I.free,I.Xt,λp F=>?_,λb u q=>?_,I.len]
 .let e:=B.keep b o z n g (h b)
  show keep b o e (M b o z) λy=>?_;rcases U5.mp (I.Y8 b y)with y|y
  .rw[y]at z;show bg (cn z) (Nat.not_lt_of_le I.ok.above)
  .show g y
 .let(d,e):=B.slot b o z n Z (h b);let(t,O):=slot b _ e (M b o z);show#[t,O]
 .let(k,e):=B.there b o z x;show j b k e
 .let(m,hn,Y):=I.loc
  let(o,es,ep,G,L,r):=hn;let(d,q):=slot _ o G Q;show#[m,#[_,es,ep,q,L,r],λi x v a1 a2 a3=>?_];let(u,rv,l):=Y i x v a1 a2 a3;show#[u,rv,?_];rcases l with l|⟨kd,c,z,y⟩
  .show .inl l
  .show .inr #[kd,c,z,a x c z _ y]
 .let(v,y):=I.cell x c z;show#[v,a x c z v y]
 .let(z,n,ne,g,dd):=I.pin p F
  rw[U9]at F;show#[keep p.1 p.2 z (C p F) (λy=>?_),n,ne,g,dd];rcases U5.mp (I.Y8 _ y)with y|y
  .show ne y
  .show g y
 .let free:∀c v,H c=cL v->¬S c/\c∉uW X.stack:=λc v z=>#[(λy=>by rw[R c y]at z;ext z),(λy=>by rw[I.Zl c y]at z;ext z)]
  show(I.VF b u q).X8 (λc v hc z=>?_) (λ_ z=>z) λ_ _ z=>z;rcases hc with y|y
  .rw[y]at z⊢;show keep b v z (free b u q).1 (free b u q).2
  .show keep c v z (free c _ y).1 (free c _ y).2
end
section
variable{M:aaN}{A:U4}{E:CL->Uw->Prop}{h:Heap}{g:Array YX}{d:acu}{t:Nat}{os:abi}
def DM{C U e:Uu}{j:Obj}{z w y v:Str}{D x:Uu}{b1 l s a:b3 CL}{Z Y:Bool}{u r:b3 Str}{q p:b3 CL}{a1 a2:Bool}{k c:b4 Bool}{o n:b4 Uu}{O N L K J I H G F B:b4 CL}{f b:String}{Q:Bool->Uw->Prop}
  (X:h.get? C=cL (excClassObj z w C D b1 l Z u q a1 k o O N L K J f)) (m:h.get? U=cL (excClassObj y v U x s a Y r p a2 c n I H G F B b)) (R:h.get? e=cL j) (S:j.cls=.ref C)
  (T:a.contains (.type "BaseException")=Uq) (hm:(CL.ref C::l).contains (.ref U)=Uq) (P:Q Uq #[h,g,d,t,os]):wpAny M A (excMatches (.ref e) (.ref U)) Q E #[h,g,d,t,os]:=by
 let i:(CL.ref U::a).contains (.type "BaseException")=Uq:=by rw[Xg,T,X1]
 let ft:=tc_notTuple;ext excMatches
 repeat (first|(specialize Wf R ?_;rw[S])|specialize Wf m ?_|(specialize Xj m ?_;rw[i])|(specialize Xj X ?_;rw[hm])|wp_step)
 show P
end
abbrev Cx.marked(X:Cx)(e:M):Cx:={X with A:=X.A.mark (S (.ref e)),calm:=Ut,xe:=λ_ _=>False}
section
variable{X:Cx}{Z:L2.St}{H:Hp}{s:Uw}{Y:Heap}{e:Uu}
theorem qj(I:L2.Inv X [] Z H s)(e:M):L2.Inv (Cx.marked X e) [] Z H s:=
 #[#[I.ok.mod,I.ok.kind,I.ok.glob,I.ok.blt,I.ok.above,I.ok.inj,I.ok.has,I.ok.cab,(λz=>nomatch z),I.ok.frames,I.ok.stk,I.ok.exf,I.ok.bs,I.ok.bsz,I.ok.aba,I.ok.aa1,I.ok.Y7,I.ok.frf],I.os,I.bare,I.base,I.loc,I.cell,I.free,I.Xt,I.pin,I.VF,I.len]
theorem yG(ok:X.Ok)(I:L2.Inv (Cx.marked X e) [] Z H s):L2.Inv X [] Z H s:=
 #[ok,I.os,I.bare,I.base,I.loc,I.cell,I.free,I.Xt,I.pin,I.VF,I.len]
def BL(I:L2.Inv X [] Z H s){g:Obj}(h:∀p∈X.pn,p.1≠e)(q:s.heap.get? e=S g)(ne:H e=P)(t:X.s₀.heap.get? e=P)(l:e≠X.env.locals)(m:∀x c,X.env.cells.lookup x=S c->c≠e):L2.Inv X [] Z (aW H e (.frz g (.own e))) s:=by
 let j:∀b o,X.s₀.heap.get? b=S o->b≠e:=λb o z y=>by rw[y,t]at z;ext z
 let a:∀b o,H b=S o->b≠e:=λb o z y=>by rw[y,ne]at z;ext z
 let B:=I.base;show#[I.ok,I.os,I.bare,#[B.keep,B.slot,λb o z n x=>?_,B.there,λb xs z=>?_,λb o u z=>?_,λb v z=>?_],I.loc,I.cell,?_,λx c z=>?_,λp i=>?_,λb u z=>?_,I.len]
 .rw[ar (j b o z)];show B.free b o z n x
 .let:=B.Zu b xs z;rw[ar (a b _ this)];show this
 .let:=B.Zn b o u z;rw[ar (a b _ this)];show this
 .let(f,y):=B.Zx b v z;show#[f,by rw[ar (a b _ y)];show y]
 .rw[ar l.symm];show I.free
 .rw[ar (m x c z)];show I.Xt x c z
 .let(z,n,r):=I.pin p i;rw[U9]at i;show#[z,by rw[ar (h p i)];show n,r]
 .by_cases y:b=e
  .subst y;rw[av]at z;ext z;show#[q,g,q]
  .rw[ar y]at z;show(I.VF b u z).X8 (λ_ _ _ y=>y) (λc y=>by rw[ar (a c _ y)];show y) λc xs y=>by rw[ar (a c _ y)];show y
def A8{M:aaN}{A:U4}{E:U->Uw->Prop}(I:L2.Inv X [] Z H s){n:Str}{i:Nat}{pos:Pos}{Q:Unit->Uw->Prop}(D:X.N.Nodup)(l:X.N[i]?=cL n)(d:X.env.kindOf n=cL .local)
  (k:∀h,L2.Inv X [] (Z.set i P) H h->Q ⟨⟩ h):wpAny M A (do bindName X.env n .none;unbindBehindTheSuite X.env n pos) Q E s:=by
 let(m,hn,hl):=id I.loc;let g:(X.env.scope.kind==.class||(X.env.scope.kind==.module&&X.env.locals !=X.env.globals))=Ut:=by rw[I.ok.kind];rfl
 show wpAny_nameGoes_keeps d hn g λh2 v hm S=>k _ ?_;let B:=I.base;let cne:=I.cne;let old:∀b o,X.s₀.heap.get? b=cL o->h2.get? b=s.heap.get? b:=λb o z=>S.2 b (UY (UT (cn z) I.ok.above));let f:i<Z.length:=by rw[I.len];show(Ux.mp l).1
 show#[I.ok,I.os,I.bare,#[λb o z n T x=>(old b o z).trans (B.keep b o z n T x),λb o z n hf x=>?_,B.free,λb o z x=>?_,B.Zu,B.Zn,B.Zx],#[_,hm,λj y t a1 a2 a3=>?_],λy c z=>?_,I.free,I.Xt,λp hp=>?_,λb u z=>?_,by rw[Vy];show I.len]
 .let(J,y):=B.slot b o z n hf x;show#[J,(old b o z).trans y]
 .let(N,y):=B.there b o z x;show#[N,(old b o z).trans y]
 .by_cases hj:j=i
  .subst hj;rw[VO f]at a2;ext a2
  .rw[Vf (eg hj)]at a2
   let(C,L,q):=hl j y t a1 a2 a3;show#[C,L,?_];rcases q with⟨kd,z⟩|⟨kd,c,z,w⟩
   .show .inl #[kd,?_];let:y≠n:=λz=>hj (oH D a1 (z▸l));simp[this,z]
   .show .inr #[kd,c,z,w.sameBut S (cne y c z)]
 .let(w,a):=I.cell y c z;show#[w,a.sameBut S (cne y c z)]
 .let(z,n,ne,r):=I.pin p hp;show#[(S.2 p.1 ne).trans z,n,ne,r]
 .let free:∀c u,H c=cL u->c≠X.env.locals:=λc u z y=>by rw[y,I.free]at z;ext z
  show(I.VF b u z).X8 (λc w hc y=>(S.2 c ?_).trans y) (λ_ y=>y) λ_ _ y=>y;rcases hc with a|a
  .rw[a];show free b u z
  .show free c _ a
end
def oV(K:lD)(C:M)(m:G U):Prop:=∃nm q N bs hd sn sub b col dd a k1 k2 k3 k5 id,K.lookup C=S (excClassObj nm q C N bs m hd sn sub b col dd a k1 k2 k3 k5 id)
structure Apart(X:Cx)(a:M):Prop where
 n0:X.s₀.heap.get? a=P
 nL:a≠X.env.locals
 nC:∀y c,X.env.cells.lookup y=S c->c≠a
 nP:∀p∈X.pn,p.1≠a
def qD(I:L2.Inv X pins σ H s)(e:X.ex=[])(n:s.heap.get? a=P):Apart X a:=by
 let ne:∀b o,s.heap.get? b=S o->b≠a:=λb o z y=>by rw[y,n]at z;ext z
 show#[?_,?_,λy c z=>?_,λp h=>?_]
 .cases z:X.s₀.heap.get? a with
  |none=>rfl
  |some o=>let(g,y):=I.base.there a o z (by rw[e];simp);show bg W (ne a g y)
 .let(m,(o,_,_,z,_),_):=I.loc;show(ne _ o z).symm
 .let(v,o,f,_):=I.cell y c z;show ne c o f
 .show ne _ _ (I.pin p (XS _ h)).1
abbrev Cx.pinned(X:Cx)(l:G (M×Obj)):Cx:={X with pn:=l}
theorem Il(I:L2.Inv X pins σ H s):L2.Inv (Cx.pinned X (X.pn++pins)) [] σ H s:=
 #[#[I.ok.mod,I.ok.kind,I.ok.glob,I.ok.blt,I.ok.above,I.ok.inj,I.ok.has,I.ok.cab,I.ok.hd,I.ok.frames,I.ok.stk,I.ok.exf,I.ok.bs,I.ok.bsz,I.ok.aba,I.ok.aa1,I.ok.Y7,I.ok.frf],I.os,I.bare,I.base,I.loc,I.cell,I.free,I.Xt,(λp a=>I.pin p (by rw[U9]at a;show a)),I.VF,I.len]
theorem gZ(ok:X.Ok)(I:L2.Inv (Cx.pinned X (X.pn++pins)) [] σ H s):L2.Inv X pins σ H s:=
 #[ok,I.os,I.bare,I.base,I.loc,I.cell,I.free,I.Xt,(λp a=>I.pin p (by rw[U9];show a)),I.VF,I.len]
end L4
namespace L4
open PySem PySem.Spec PySem.W PyProof.Rows L2 L3
section
variable{T:UR}{w:Va}{A:U4}{E:CL->Uw->Prop}{h:Heap}{g:Array YX}{d:acu}{t:Nat}{N:abi}{a C:Uu}{o:Obj}{K:lD}
  {J B:Str} {N1:Uu} {b1 Z:b3 CL} {d1:Bool} {s1:b3 Str} {u1:b3 CL} {a1:Bool} {c1:b4 Bool} {x1:b4 Uu} {i0 i1 i2 i3 i5:b4 CL} {Y:String}
def oP{M:aaN}{b:U}{Q:Unit->Uw->Prop}(j:h.get? C=S (excClassObj J B C N1 b1 Z d1 s1 u1 a1 c1 x1 i0 i1 i2 i3 i5 Y))(i:Z.contains (.type "BaseException")=R)
  (e:h.get? a=S o) (f:o.cls=.ref C) (k:Q ⟨⟩ #[h,g,d,t,N]):wpAny M A (checkBuiltinCall "BaseException.__getattribute__" #[[.ref a,b],[]]) Q E #[h,g,d,t,N]:=by
 let e1:builtinKind "BaseException.__getattribute__"=S .slot:=by left
 let e2:splitId "BaseException.__getattribute__"=S ("BaseException","__getattribute__"):=by left
 let e3:(CL.ref C::Z).contains (.type "BaseException")=R:=by rw[Xg,i,X1]
 let e4:=F.args_bexc_ga (.ref a) b;simp only[checkBuiltinCall,e1,e2];show Ld ?_;ext isInstance
 repeat (first|(specialize Wf e ?_;rw[f])|(specialize Xj j ?_;rw[e3])|wp_step)
 show k
def xT(X:K.In h)(I:WX h a o C od)(b:findIn K (.ref C) "__class__"=S (S (.builtin "object.__class__")))(hm:mroIn K C (.type "object")=S R)
  (k:Q (.done (.ret (.ref C))) #[h,g,d,t,N]):wpAny (model T w) A (Vx.«object.__getattribute__» #[[.ref a,.str "__class__" tk],[]]) Q E #[h,g,d,t,N]:=by
 let e5:=F.typeOf_object_class;let l:=F.typeOf_object_class;let j:=F.slot_gs_get.lookup;let i:=F.slot_gs_set.lookup;let f:=I.type (M:=model T w);let e:=looks_findIn (M:=model T w) X b
 repeat (any_goals (first|assumption|specialize f.at ?_|specialize e.at ?_|wp_step))
 show class_get X I hm ?_
 repeat (any_goals (first|assumption|wp_step))
def Bb(X:K.In h)(I:WX h a o C od)(l:h.get? C=S (excClassObj J B C N1 b1 Z d1 s1 u1 a1 c1 x1 i0 i1 i2 i3 i5 Y))(j:Z.contains (.type "BaseException")=R)
  (i:findIn K (.ref C) "__getattribute__"=S (S (.builtin "BaseException.__getattribute__"))) (f:findIn K (.ref C) "__getattr__"=S P) (e:findIn K (.ref C) "__class__"=S (S (.builtin "object.__class__"))) (hm:mroIn K C (.type "object")=S R)
  (k:Q (S (.ref C)) #[h,g,d,t+1,N]):wpAny (model T w) A (getAttr? (.ref a) "__class__") Q E #[h,g,d,t,N]:=by
 let r:=WU.ga.bind (.ref a);let b:(CL.builtin "BaseException.__getattribute__"==CL.builtin "object.__getattribute__")=Ut:=by left
 let q:(onTheHeap (CL.ref C)&&CL.builtin "BaseException.__getattribute__"==CL.builtin "object.__getattribute__")=Ut:=by rw[b];rfl
 let p:=I.type (M:=model T w);let n:=looks_findIn (M:=model T w) X i;let m:=looks_findIn (M:=model T w) X f;unfold getAttr? getAttrBy? getAttrBy
 repeat (any_goals (first|assumption|specialize p.at ?_|specialize n.at ?_|specialize m.at ?_|wp_step))
 show WC WU.ga.plain F.entry_bexc_ga (oP l j I.at_ I.cls (xT X I e hm ?_))
 repeat (any_goals (first|assumption|wp_step))
structure YL(K:lD)(C:M)(m:G U):Prop where
 cl:oV K C m
 be:m.contains (.type "BaseException")=R
 ga:findIn K (.ref C) "__getattribute__"=S (S (.builtin "BaseException.__getattribute__"))
 gt:findIn K (.ref C) "__getattr__"=S P
 cs:findIn K (.ref C) "__class__"=S (S (.builtin "object.__class__"))
 ob:mroIn K C (.type "object")=S R
theorem kT(L:YL K C m):KitX K (.ref a) (.ref C) (λh=>WX h a o C od) where
 ty:=λ_ _ _ I=>I.type
 it:=λ_ _ X _=>by let(_,_,_,_,_,_,_,_,_,_,_,_,_,_,_,_,b):=L.cl;intro y u v j k q;unfold isType loadHead;show Ld (abo (k _ _ (X _ _ b)) (UB q))
 ne:=λh tp dd r n i X e=>by let(_,_,_,_,_,_,_,_,_,_,_,_,_,_,_,_,b):=L.cl;show Bool.eq_false_iff.mpr λq=>?_;obtain rfl:=CL.ref.inj (beq_iff_eq.mp q);let z:=en Obj.cls (UI ((X _ _ b).symm.trans e));show bg (CL.type.inj z) ()
 ca:=λ{_ _ _ _ _ s} X I k=>by let(_,_,_,_,_,_,_,_,_,_,_,_,_,_,_,_,b):=L.cl;let(p,gg,dd,f,l):=s;show Bb X I (X _ _ b) L.be L.ga L.gt L.cs L.ob k
end
def NK(K:lD)(c:U):V->Hp->VK->Prop:=λx H Q=>∃e a C m b,x=.ref e/\H e=S (.frz a (.own e))/\a.cls=.ref C/\(∀p,a.dict=S p->∃fs,H p=S (.xd fs))/\notCls a=R/\YL K C m/\kitOne K (.ref C) c=S b/\Q (.bl b) H
def Fm(I:L2.Inv X pins σ H s)(j:RelV x u)(h:NK X.K c x H Q):
  wpAny (model X.prog X.w) t (call (.builtin "isinstance") [u,c]) (EP X pins σ Q) E s:=by
 let(e,l,C,m,b,rfl,o,g,r,v,L,f,q):=h;obtain rfl:=j;let z:=(I.VF e _ o).1;cases e1:l.dict with
 |none=>show kia_one (kT (od:=P) L) I.XU #[z,g,v,by rw[e1];trivial] f (λy=>nomatch y) λa=>#[.bl b,H,I.tok a,W,q]
 |some p=>let(fs,n):=r p e1;let(op,i):=yj (I.VF p _ n);show kia_one (kT (od:=S op) L) I.XU #[z,g,v,by rw[e1];show i] f (λy=>nomatch y) λa=>#[.bl b,H,I.tok a,W,q]
end L4
namespace L4
open PySem PySem.Spec PySem.W PyProof.Rows L2 L3
def DC(K:lD):G V->Hp->VK->Prop:=λxs H Q=>∃x,(∃U:M,xs=[x,.ref U]/\NK K (.ref U) x H Q)\/∃n,xs=[x,.ty n]/\NK K (.type n) x H Q
def wq:WM X (.builtin "isinstance") (DC X.K):=by
 rintro e s g H xs i Q I r ⟨x,h⟩;rcases h with⟨U,rfl,h⟩|⟨n,rfl,h⟩
 .let(u,f,rfl,a,b):=mQ r;obtain rfl:=b;show Fm I a h
 .let(u,f,rfl,a,b):=mQ r;obtain rfl:=b;show Fm I a h
end L4
namespace L3
open PySem PySem.Spec PyProof.Rows L2
section
variable{K:lD}{E:XK}
end
end L3
namespace L9
open PySem PySem.Spec PyProof.Rows
section
variable{M:aaN}{A:U4}{E:CL->Uw->Prop}{Y:Env}
variable{nm q:Str}{C N:Uu}{bs Z:b3 CL}{hdct:Bool}{sn:b3 Str}{sub:b3 CL}{ab:Bool}{col:b4 Bool}{dd:b4 Uu}{k0 k1 k2 k3 k5:b4 CL}{newId:String}
def gY(r:Z.contains (.type "BaseException")=R)(n:A.handled=P)
  (h:wpAny M A x (λv c=>∃e k,v=.ref e/\c.heap.get? C=S (excClassObj nm q C N bs Z hdct sn sub ab col dd k0 k1 k2 k3 k5 newId)/\c.heap.get? e=S k/\k.cls=.ref C/\(∃fs,k.data=.fields fs/\fs[1]?=S CL.none)/\E (.ref e) c) E s):
  wpAny M A (raiseStmt Y (S x) P) Q E s:=by
 let f:(CL.ref C::Z).contains (.type "BaseException")=R:=by rw[Xg,r,X1]
 ext raiseStmt;show Ld (wpAny_mono h (λv c a=>?_) λ_ _ x=>x);let(e,k,rfl,l,o,j,(fs,i,b),p):=a;let(y,w,m):=k;dsimp only at j i;subst j i;let(z,g,d,t,u):=c
 repeat (first|specialize Wf o ?_|specialize Wf l ?_|(specialize Xj l ?_;rw[f])|wp_step)
 rw[b]
 repeat wp_step
 show ad8 n p
end
section
variable{J:UR}{w:Va}{A:U4}{E:CL->Uw->Prop}{h:Heap}{g:Array YX}{d:acu}{t:Nat}{os:abi}
variable{nm q:Str}{C N:Uu}{bs S Z:b3 CL}{I:Bool}{sn:b3 Str}{sub:b3 CL}{ab:Bool}{col:b4 Bool}{dd:b4 Uu}{k0 k1 k2 k3 k5:b4 CL}{B R L Y Y6 X:String}{U:b3 CL}
def nt(Fn:XN R L X U)(j:Z.contains (.type R)=Uq)(F:XN B Y Y6 Z)(T:afj h Z S)
  (i:h.get? C=cL (excClassObj nm q C N bs S I sn sub ab col dd k0 k1 k2 k3 k5 L)) (s:h.Ns N mN) (D:mN "__init__"=cL (.ref fI)) (p:h.get? fI=cL oI) (n:oI.cls=.type "function")
  (z:∀k e,Heap.MadeExcOf h k e (.ref C) rest->wpAny (model J w) A (call (.ref fI) (.ref e::rest)) (λr c=>r=.none/\Q (.done (.ret (.ref e))) c) E #[k,g,d,t,os]) (hrest:rest.length<=UD):
  wpAny (model J w) A (Vx.«type.__call__» #[.ref C::rest,[]]) Q E #[h,g,d,t,os]:=by
 repeat (first|specialize Wf i ?_|specialize wpAny_madeBy_exc i ?_|wp_step)
 show codeAny_call_builtin_code (abq.quiet_builtin _ Fn.quiet) (wpAny_check_new_subU Fn j T i ?_);show codeAny_exc_new_subU Fn j F T i ?_ hrest
 let a:=ck {cls:=.ref C,data:=.fields #v[.ref h.objs.size,.none,.none,.none,.bool Ut,.none]}
  (ck {cls:=.type "tuple",data:=.seq rest.toArray} i)
 let v:=ck {cls:=.ref C,data:=.fields #v[.ref h.objs.size,.none,.none,.none,.bool Ut,.none]}
  (ck {cls:=.type "tuple",data:=.seq rest.toArray} p)
 let f:((h.push {cls:=.type "tuple",data:=.seq rest.toArray}).push {cls:=.ref C,data:=.fields #v[.ref h.objs.size,.none,.none,.none,.bool Ut,.none]}).Ns N mN:=
  let#[o,es,ep,e,r]:=s;#[o,es,ep,ck _ (ck _ e),r]
 let l:((h.push {cls:=.type "tuple",data:=.seq rest.toArray}).push
   {cls:=.ref C,data:=.fields #v[.ref h.objs.size,.none,.none,.none,.bool Ut,.none]}).get? (h.objs.size+1)=cL
   {cls:=.ref C,data:=.fields #v[.ref h.objs.size,.none,.none,.none,.bool Ut,.none]}:=by heap_get
 let u:(CL.ref C::S).contains (.ref C)=Uq:=by simp
 let m:=T.keeps (h':=(h.push {cls:=.type "tuple",data:=.seq rest.toArray}).push {cls:=.ref C,data:=.fields #v[.ref h.objs.size,.none,.none,.none,.bool Ut,.none]})
  λb o e=>ck _ (ck _ e)
 ext isInstance
 repeat (first|specialize Wf l ?_|(specialize Xj a ?_;rw[u])|wp_step)
 show wpAny_typeLookup_tail a f m F.mroIs F.init.lookup ?_;rw[D];show WJ (Ld ?_);ext bindSpecial;show Ld (acG #[_,v,n] ?_);rw[ax ()];show UB (Ld (wpAny_mono (z _ (h.objs.size+1) #[λb o G=>ck _ (ck _ G),d3 (Z5 _),h.objs.size,l,d3 (UC _),?_]) (λr c y=>?_) λ_ _ x=>x))
 .show ck _ (Heap.get?_push_at W W)
 .let(rfl,H):=y
  wp_walk
  show H
def xV(Fn:XN R L X U)(i:Z.contains (.type R)=Uq)(F:XN B Y Y6 Z)(T:afj h Z S)
  (a:h.get? C=cL (excClassObj nm q C N bs S I sn sub ab col dd k0 k1 k2 k3 k5 L)) (p:h.Ns N mN) (s:mN "__init__"=cL (.ref fI)) (f:h.get? fI=cL o) (b:o.cls=.type "function")
  (j:∀c e,Heap.MadeExcOf h c e (.ref C) rest->wpAny (model J w) (A.under (.builtin "type.__call__" #[.ref C::rest,[]])) (call (.ref fI) (.ref e::rest)) (λr k=>r=.none/\Q (.ref e) k) E #[c,g,d,t,os]) (hrest:rest.length<=UD):
  wpAny (model J w) A (call (.ref C) rest) Q E #[h,g,d,t,os]:=by
 let n:=tc_lookup;let m:=tc_bind (.ref C);let l:(#[h,g,d,t,os]:Uw).TypeIs (.ref C) "type":=#[_,a,W];show Yp (codeAny_of_tree ?_)
 repeat (any_goals (first|assumption|specialize Wf a ?_|wp_step))
 show#[W,?_];show codeAny_call_builtin_at (abq.quiet_builtin _ (by left)) entry_typeCall (wpAny_check_type_call_sub a (nt (hrest:=hrest) Fn i F T a p s f b λc e hm=>?_));show j c e hm
end
section
variable{prog:UR}{w:Va}{A:U4}{E:CL->Uw->Prop}{s:Uw}{env:Env}
variable{nm q:Str}{C N:Uu}{bs Y Z:b3 CL}{hdct:Bool}{sn:b3 Str}{sub:b3 CL}{ab:Bool}{col:b4 Bool}{dd:b4 Uu}{k0 k1 k2 k3 k5:b4 CL}{B Bn newId X Y6 U:String}{S:b3 CL}
def vA(Fn:XN Bn newId U S)(t:Z.contains (.type Bn)=Uq)(F:XN B X Y6 Z)
  (y:Y.contains (.type "BaseException")=Uq) (o:A.handled=Uo) (u:(backTo Xk (UO args env)).any (·.1)=Ut) (hi:mN "__init__"=cL (.ref fI)) (p:oI.cls=.type "function")
  (h:wpAny (model prog w) A (eval (.Name x np) env) (λf k=>f=.ref C/\wpAny (model prog w) A (evalArgs (.ref C) Uq (backTo Xk (UO args env)) [])
   (λa c=>a.kw=[]/\a.pos.length<=UD/\c.heap.get? C=cL (excClassObj nm q C N bs Y hdct sn sub ab col dd k0 k1 k2 k3 k5 newId)/\c.heap.Ns N mN/\c.heap.get? fI=cL oI/\afj c.heap Z Y/\
    ∀h' e,Heap.MadeExcOf c.heap h' e (.ref C) a.pos->wpAny (model prog w) (A.under (.builtin "type.__call__" #[.ref C::a.pos,[]])) (call (.ref fI) (.ref e::a.pos)) (λr V=>r=.none/\∃D,V.heap.get? C=cL (excClassObj nm q C N bs Y hdct sn sub ab col dd k0 k1 k2 k3 k5 newId)/\V.heap.get? e=cL D/\D.cls=.ref C/\(∃fs,D.data=.fields fs/\fs[1]?=cL CL.none)/\E (.ref e) V) E {c with heap:=h'}) E k) E s):
  wpAny (model prog w) A (exec (.Raise (cL (.Call (.Name x np) args [] Xk)) Uo pos) env) Q E s:=by
 rw[arm_exec_Raise]
 first
  |show Ld (WI (gY y o (Ld (wpAny_mono (aad (wpAny_mono h (λf k i=>?_) λ_ _ x=>x)) (λv l b=>Ld (WI (UB b))) λ_ _ x=>x))))
  |(simp only[evalOpt,Option.map];show Ld (WI (gY (C:=C) (nm:=nm) (q:=q) (N:=N) (bs:=bs) (hdct:=hdct) (sn:=sn) (sub:=sub) (ab:=ab) (col:=col) (dd:=dd) (k0:=k0) (k1:=k1) (k2:=k2) (k3:=k3) (k5:=k5) (newId:=newId) y o (Ld (wpAny_mono (aad (wpAny_mono h (λf k i=>?_) λ_ _ x=>x)) (λv l b=>Ld (WI (UB b))) λ_ _ x=>x)))))
  |(show Ld (WI (gY y o ?_));show Ld (wpAny_mono (aad (wpAny_mono h (λf k i=>?_) λ_ _ x=>x)) (λv l b=>Ld (WI (UB b))) λ_ _ x=>x))
 let(rfl,i):=i;ext callWith;show Ld (WJ (wpAny_mono i (λa c j=>Ld (WI ?_)) λ_ _ x=>x));let(G,P):=a;let(n,m,z,hn,I,T,j):=j;obtain rfl:=n;let(hp,g,d,R,os):=c;simp only[u];show Ld (wpAny_keeperOf_exc z ?_);show Ld (xV (hrest:=m) Fn t F T z hn hi I p λh' e hm=>wpAny_mono (j h' e hm) (λr V #[H,D,O,Mz0,L,K,J]=>#[H,Ld (WJ (wpAny_point (UB ?_)))]) λ_ _ x=>x);show#[e,D,W,O,Mz0,L,K,J]
end
end L9
namespace L9
open PySem PySem.W PyProof.Rows Builtin Builtin.ObjectAttr
abbrev GX:G U:=[.type "ValueError",.type "Exception",.type "BaseException",.type "object"]
section
variable{prog:UR}{w:Va}{A:U4}{K:Frag}{B C x:Uu}{s:Uw}{R:aau->Uw->Prop}{Z:ClassData}{name:Str}{Y:Tok}{v:CL}{fs:Array CL}
def J4(X:K.In s.heap)(z:clsIn K C=cL Z)(hm:Z.mro=.ref C:: .ref B::GX)(hd:Z.hasDict=Uq)(D:findIn K (.ref C) name=cL Uo)(i:s.heap.get? x=cL #[.ref C,Uo,.fields fs,#v[]])
  (H:∀c k,c.get? x=cL #[.ref C,cL s.heap.objs.size,.fields fs,#v[]]->c.Ns1 s.heap.objs.size (λy=>if y=name then cL v else Uo)->(∀b o,b≠x->s.heap.get? b=cL o->c.get? b=cL o)->R (.ok (.ret .none)) {s with heap:=c,toks:=k}):
  codeAny (model prog w) A (.call (.builtin "object.__setattr__") #[[.ref x,.str name Y,v],[]]) R s:=by
 let I:InstAt s.heap x #[.ref C,Uo,.fields fs,#v[]] C Uo:=#[i,W,W,True.intro];let m:=PySem.F.store_object;let sub:Looks (model prog w) s.heap (isInstance (.ref x) (.type "object")) Uq:=I.type.andThen (looks_mroIn X (by ext mroIn;rw[z,Option.bind_some,hm,a4 (by simp)];simp));show WC m.slot.plain m.entry (@check_slot (model prog w) _ _ s "object.__setattr__" "object" "__setattr__" (.ref x) [.str name Y,v] [] _ m.kind m.split sub (m.args (.ref x) (.str name Y) v) ?_);let l:Looks (model prog w) s.heap (mroOf (.ref C)) Z.mro:=(looks_clsIn X z).andThen .now;rw[osa_eq,refuse_eq];show Ld (Ld (I.type.here (Ld (l.here ?_))));rw[hm,aia,aia,PySem.F.store_ValueError.passes];show UB (Ld (I.type.here (Ld ((looks_findIn X D).here (Ld (UB ?_))))));ext storeInOwnDict;show Ld (UB (Ld ?_));unfold ownDictForStores instanceDict;show Ld (abo i (Ld ((looks_clsIn X z).here ?_)));rw[hd,a4 ()];show wpAny _ _ (if(!Uq|| !typeHasDict (.ref C))=Uq then pure Uo else(do
        let d<-alloc {cls:=CL.type "dict",data:=Data.dict #v[]}
        update x λo=>{cls:=o.cls,dict:=cL d,data:=o.data,slots:=o.slots}
        dictMade (.ref C) x d)) _ _ _
 rw[a4 (by simp[typeHasDict])];let(h,g,d,t,S):=s;dsimp only at X i H I sub l⊢;let f:(h.push {cls:=.type "dict",data:=.dict #v[]}).get? x=cL #[.ref C,Uo,.fields fs,#v[]]:=ck _ i;let a:=UY (cn i);show Ld (wpAny_alloc' ?_);show Ld (wpAny_update' f ?_);show UB ?_
 let q:((h.push {cls:=.type "dict",data:=.dict #v[]}).update x λo=>{cls:=o.cls,dict:=cL h.objs.size,data:=o.data,slots:=o.slots}).get? h.objs.size
   =cL {cls:=.type "dict",data:=.dict #v[]}:=
  (Heap.get?_update_ne _ _ _ _ a.symm).trans (Heap.get?_push_at W W)
 let p:((h.push {cls:=.type "dict",data:=.dict #v[]}).update x λo=>{cls:=o.cls,dict:=cL h.objs.size,data:=o.data,slots:=o.slots}).Ns h.objs.size (λ_=>Uo):=
  #[_,#v[],_,q,W,λe M=>bg M (by simp),λ_=>W]
 unfold storeInDict newKeyGuard;show Ld (UB (Ld (wpAny_nsSet1 (Heap.Ns1.of_empty p) λc j G=>?_)));let(U,O,P,n,r,u):=j.count (Within.cons name v Within.nil);show Ld (afT n (by rw[r];show afU (Vb u (by rw[UJ,Wt,WB];ext))) ?_);show UB (H c _ ?_ ?_ λb T E J=>?_)
 .show(G.2 x a).trans (dt _ f W)
 .let(L,es,Q,e1,e2,e3,N,e4):=j;show#[L,es,Q,e1,e2,e3,N,λy=>by rw[e4 y]]
 .show(G.2 b (UY (cn J))).trans ((Heap.get?_update_ne _ _ _ _ E).trans (ck _ J))
theorem IQ(X:K.In s.heap)(g:clsIn K C=S Z)(hm:Z.mro=.ref C:: .ref B::GX)(hd:Z.hasDict=Uq)(a:findIn K (.ref C) "__setattr__"=S (S (.builtin "object.__setattr__")))(h:findIn K (.ref C) name=S P)(e:s.heap.get? x=S #[.ref C,P,.fields fs,#v[]])
  (f:∀c d,c.get? x=S #[.ref C,S s.heap.objs.size,.fields fs,#v[]]->c.Ns1 s.heap.objs.size (λy=>if y=name then S v else P)->(∀b o,b≠x->s.heap.get? b=S o->c.get? b=S o)->Q ⟨⟩ {s with heap:=c,toks:=d}):
  wpAny (model prog w) A (setAttr (.ref x) name v) Q E s:=
 set_plain X (#[e,W,W,True.intro]:InstAt s.heap x #[.ref C,P,.fields fs,#v[]] C P) a (J4 X g hm hd h e f)
end
section
variable{L:UR}{w:Va}{A:U4}{E:CL->Uw->Prop}{h:Heap}{g:Array YX}{d:acu}{t:Nat}{I:abi}
variable{u q:Str}{C N:Uu}{bs y Z:b3 CL}{J:Bool}{r:b3 Str}{sub:b3 CL}{ab:Bool}{col:b4 Bool}{dd:b4 Uu}{k0 k1 k2 k3 k5:b4 CL}{B X Y v:String}
def Bm(F:XN B Y v Z)(T:afj h Z y)
  (p:h.get? C=S (excClassObj u q C N bs y J r sub ab col dd k0 k1 k2 k3 k5 X)) (j:h.get? e=S #[.ref C,P,.fields fs,#v[]]) (l:fs[0]?=S (.ref t0))
  (m:∀s k,s.get? e=S #[.ref C,P,.fields k,#v[]]->k[0]?=S (.ref h.objs.size)->(∀i,i≠0->k[i]?=fs[i]?)->(∀b o,b≠e->h.get? b=S o->s.get? b=S o)->Q .none #[s,g,d,t,I]) (c:rest.length<=UD):
  wpAny (model L w) A (call (.builtin v) (.ref e::rest)) Q E #[h,g,d,t,I]:=by
 show Yp (WC F.init.plain F.initEntry (wpAny_check_init_subU F T p j W ?_));unfold Vx.«BaseException.__init__»;dsimp only;rw[a4 (by simp)];unfold newTuple Vx.BaseException.bexcPut;let f:=(U1.mp l).1;let a:(h.push {cls:=.type "tuple",data:=.seq rest.toArray}).get? e=S #[.ref C,P,.fields fs,#v[]]:=ck _ j;show Ld (We (Ld (Ld (Vc a W l (Ld (VQ a W f ?_))))) (by show rest.toArray.size<=UD;rw[US];show c));show XA (UB (m _ (fs.setIfInBounds 0 (.ref h.objs.size)) ?_ (by simp[f]) (λi hi=>by rw[Xw (eg hi)]) λb o n z=>?_))
 .show dt (Obj.mapFields (·.setIfInBounds 0 (.ref h.objs.size))) a W
 .show(da _ _ (eg n)).trans (ck _ z)
end
end L9
namespace L9
open PySem PySem.Spec PyProof.Rows L2
def PZ(v:V):Prop:=v=.Wu\/∃i:Int,v=.int i/\i.natAbs.log2<1920
def JF{i:Int}(h:i.natAbs.log2<1920):(Str.ofString (toString i)).length<=5000:=by let e:=int_text_length_le () h;rw[PySem.ofString_length];ext
def MX(I:Inv X pins σ H s)(r:RelV v u)(f:PZ v)
  (h:∀(y:Str) (t:Tok) (a:Uw),y.length<=5000->Inv X pins σ H a->Q (.str y t) a):wpAny (model X.prog X.w) b (formatField u Str.empty) Q E s:=by
 rcases f with rfl|⟨i,rfl,e⟩
 .obtain rfl:=r;show wpAny_formatField_none (h _ _ _ () (I.tok _))
 .let(t,rfl):=r;show formatField_int_small e (h _ _ _ (JF e) (I.tok _))
def PJ(X:Cx)(es:G UW)(n:Nat)(t:L2.St->Hp->(Hp->Prop)->Prop):Prop:=
 ∀(a:G (M×Obj)) (s:Uw) (e:L2.St) (H:Hp) (b:Str) (Q:Hp->Prop),Inv X a e H s->b.length+n<=1000000->t e H Q->
  wpAny (model X.prog X.w) X.A (joinParts b (evalEach es X.env)) (λv h=>∃(y:Str) (g:Tok) (f:Hp),v=.str y g/\Inv X a e f h/\Q f) X.xe s
section
variable{X:Cx}{e:UW}{es:b3 UW}{n:Nat}{T:TE}{t:L2.St->Hp->(Hp->Prop)->Prop}{Y:Pos}
def Oq:PJ X [] 0 (λ_ H Q=>Q H):=by intro a s f H b Q I g h;show joinParts_nil #[_,_,H,W,I.tok _,h] (by rw[WB];ext)
def NY(i:x.length<=5000)(g:PJ X es n t):PJ X (.Constant (.str x) k Y::es) (n+5000) t:=by intro a s f H b Q I j h;show joinParts_consE (joinParts_cons (Calls.Constant_str ?_));let e:=aj6 b x;show#[by rw[WB];ext,g a _ f H (b++x) Q (I.tok _) () h]
def Po(i:PE X e T)(g:PJ X es n t):PJ X (.FormattedValue e (-1) P Y::es) (n+5000) (λσ H Q=>T σ H λv H1=>PZ v/\t σ H1 Q):=by intro a s σ H b Q I z h;show joinParts_consE (joinParts_cons (FormattedValue_plain (bW (i a s σ H _ I h) λu o a=>?_)));let(v,H1,j,r,f,q):=a;show MX j r f λy m p w l=>?_;let e:=aj6 b y;show#[by rw[WB];ext,g a _ σ H1 (b++y) Q l () q]
def JK(h:PJ X (e1::e2::es) n t)(c:n<=900000):PE X (.JoinedStr (e1::e2::es) Y) (λσ H Q=>t σ H λH1=>∀y:Str,Q (.str y) H1):=by intro a s σ H Q I b;show JoinedStr_many (bW (h a s σ H Str.empty _ I (by show 0+n<=1000000;ext) b) λv j #[y,i,H1,f,g,q]=>?_);subst f;show#[.str y,H1,g,#[_,W],q y]
end
def GV(C e:M):Heap->Prop:=λh=>∃fs t0,h.get? e=S #[.ref C,P,.fields fs,#v[]]/\fs[0]?=S (.ref t0)/\fs[1]?=S .none
def P5(C e p:M):Heap->Prop:=λh=>∃fs a0,h.get? e=S #[.ref C,S p,.fields fs,#v[]]/\fs[0]?=S a0/\fs[1]?=S .none
structure XC(K:lD)(C B fI:M):Prop where
 obj:∃nm q N bs sn sub ab col dd k0 k1 k2 k3 k5,K.lookup C=S (excClassObj nm q C N bs (.ref B::GX) R sn sub ab col dd k0 k1 k2 k3 k5 "ValueError.__new__")/\ZU K N=R/\UU K N "__init__"=S (S (.ref fI))
 base:XD K B GX "ValueError.__new__"=R
 sa:U7 K (.ref C) "__setattr__"=S (S (.builtin "object.__setattr__"))
def wf{K:lD}(q:XD K B GX n=R):YJ K GX (.ref B::GX)=R:=by
 unfold XD at q;split at q
 .rename_i dd f e b
  split at q
  .simp only[Ur,beq_iff_eq,Xr]at q;let(((((_,_),_),_),VF),a):=q;ext YJ;dsimp only;rw[b];dsimp only;rw[VF,a,show YJ K GX GX=R from by ext YJ;rw[eu,Xq],eu,WW,WW,X1]
  .ext q
 .ext q
section
variable{X:Cx}{B C fI:Uu}{pos U Y:Pos}{Z:UW}{as:b3 UW}{t:TA}{b:Str}
def Gb(h:H a=S o):aW H a o=H:=by
 funext c;by_cases z:c=a
 .rw[z,av,h]
 .rw[ar z]
def PL(C:M)(t:TA):TE:=λf H Q=>t f H λg a=>∃e y,g=[.ref e,.str y]/\a e=S (.ext (GV C e))/\Q .Wu a
def EA{pl:Sem Bool}(V:Gl X b)(hm:X.mg b=cL (.ref B))(D:ZI X.K B (.type "type")=Uq)(hf:ZJ X.K (.ref B) (.type "type") "__init__"=cL (.val (.builtin "ValueError.__init__")))
  (k:Xh X.K (.ref B) "__getattribute__"=cL (cL (.builtin "type.__getattribute__"))) (v:XC X.K C B fI) (ha:PA X (Z::as) t)
  (cH:UO (Z::as) X.env=(Ut,eval Z X.env)::UO as X.env:=by rfl) (ZD:(backTo pos (UO as X.env)).any (·.1)=Ut:=by rfl) (l:(b==("__debug__":Str))=Ut:=by decide)
  (c:eval (.Call (.Attribute (.Name b U) "__init__" Y) (Z::as) [] pos) X.env=(do
   let ov<-eval (.Name b U) X.env
   standAt Y.atName
   let(f,first)<-holding [ov] (getMethod ov "__init__" pl)
   callWith pos f first (backTo pos (UO (Z::as) X.env)) (backToKw pos (keywordEach [] X.env))):=by rfl):
  PE X (.Call (.Attribute (.Name b U) "__init__" Y) (Z::as) [] pos) (PL C t):=by
 intro a s F H Q I h;show Yz (pl:=pl) (iP I V hm ?_ l) c;show PySem.W.method_cls I.XU k (PySem.W.cls_value I.XU D hf () ?_);let A:=ha pos a {s with toks:=s.toks+1} F H _ (I.tok _) h;rw[cH]at A⊢;show Calls.callWith_builtin (by show(Ut||(backTo pos (UO as X.env)).any (·.1))=Ut;rw[ZD]<;>rfl) (Calls.evalArgs_plain (bW A λus p #[vs,E,i,r,e,y,ev,m,q]=>?_));subst ev;let(M,u2,rfl,R,P):=mQ r;obtain rfl:M=.ref e:=R;let(tk,rfl):=P;let((fs,t0,g1,g2,g3),_,gk):=(show ObjOk X.prog X.w E p.heap e (.ext (GV C e))from i.VF e _ m);let(nm,q',N,bs,sn,sub,ab,col,dd,k0,k1,k2,k3,k5,S,VF,hin):=v.obj;let T:=abu i.XU (wf v.base);let(h2,g,d,j,os):=p;show Bm W0 T (i.XU _ _ S) g1 g2 (λh' n e1 e2 e3 e4=>?_) (by show 1<=UD;decide);show#[.Wu,E,?_,W,q];let w:=i.write (x:=e) (e:=e) (o:=.ext (GV C e)) (h':=h') (t':=j) (by rw[m];show True.intro) (.inl W) (λb u hb z=>e4 b u hb z) #[_,e1] #[#[n,_,e1,e2,by rw[e3 1 ()];show g3],#[_,e1],λh1 h2 #[f1,O,L,J,G] hk=>#[f1,O,hk _ L,J,G]];rw[Gb m]at w;show w
def Qf(C:M)(f:Str)(c h:TE):TS:=λD a H=>h a H λv i=>c a i λx g=>∃e,x=.ref e/\g e=S (.ext (GV C e))/\∀p,g p=P->p≠e->D.nx a (aW (aW g e (.ext (P5 C e p))) p (.xd [(f,v)]))
def Kt(O:XC X.K C B fI)(V:U7 X.K (.ref C) f=cL Uo)(ha:PE X o ta)(c:PE X value tv)(d:WO value (cL (.Attribute o f pos')) pos.line X.env=pure Ut):PS X (.Assign [.Attribute o f pos'] value pos) (Qf C f ta tv):=by
 intro l s F H D I h;show aal (bW (c l s F H _ I h) λu s1 #[v,H1,I1,rv,q]=>bW (ha l s1 F H1 _ I1 q) λov p a=>?_) d;let(x,Q,Az0,rx,e,ex,j,q2):=a;subst ex;obtain rfl:=rx;let((fs,t0,P,g2,g3),_,gk):=(show ObjOk X.prog X.w Q p.heap e (.ext (GV C e))from Az0.VF e _ j);let(nm,q',N,bs,sn,sub,ab,col,dd,k0,k1,k2,k3,k5,lk,VF,hin):=O.obj;obtain⟨E,hc,J,L⟩:∃E,Y2 X.K C=cL E/\E.mro=.ref C:: .ref B::GX/\E.hasDict=Uq:=by ext Y2;rw[lk];show#[_,W,W,W]
 show IQ Az0.XU hc J L O.sa V P λh' tk' e1 e2 e3=>?_;let pe:=VI (cn P);let r:=Az0.VF.fresh (UC _);show#[F,_,?_,q2 p.heap.objs.size r pe];let m:∀b o,p.heap.get? b=cL o->b≠p.heap.objs.size:=λb o z=>UY (cn z);show Az0.un #[λb o z n _ _=>e3 b o (λy=>by rw[y,j]at n;ext n) z,λb o z n _ _=>#[o.slots,e3 b o (λy=>by rw[y,j]at n;ext n) z],λb o z n _=>?_,λb o z _=>?_,λb xs z=>?_,λb o u z=>?_,λb ps z=>#[#v[],?_]] ?_
 .rw[ar (m b o z),ar (λy=>by rw[y,j]at n;ext n)];show n
 .by_cases y:b=e
  .subst y;show#[_,e1]
  .show#[o,e3 b o y z]
 .rw[ar (λy=>by rw[y,r]at z;ext z),ar (λy=>by rw[y,j]at z;ext z)];show z
 .rw[ar (λy=>by rw[y,r]at z;ext z),ar (λy=>by rw[y,j]at z;ext z)];show z
 .rw[ar (λy=>by rw[y,r]at z;ext z),ar (λy=>by rw[y,j]at z;ext z),z];simp
 .intro a o z
  by_cases M:a=p.heap.objs.size
  .subst M
   rw[av]at z;ext z;show#[_,e2,λg=>?_];show Ye (match g==f with|true=>cL v|false=>Wv g []) (if g=f then cL u else Uo);cases i:g==f with
   |true=>rw[ax (beq_iff_eq.mp i)];show rv
   |false=>rw[a4 (λw=>by rw[beq_iff_eq.mpr w]at i;ext i)];show True.intro
  .rw[ar M]at z
   by_cases G:a=e
   .subst G;rw[av]at z;ext z;show#[#[fs,_,e1,g2,g3],#[_,e1],λh1 h2 #[f1,t1,T,S1,R1] hk=>#[f1,t1,hk _ T,S1,R1]]
   .rw[ar G]at z
    let own:∀b,Q b=cL (.own a)->b≠e/\b≠p.heap.objs.size:=λb y=>#[(λk=>by rw[k,j]at y;ext y),(λk=>by rw[k,r]at y;ext y)];show(Az0.VF a o z).X8 (λb w i y=>e3 b w (λk=>?_) y) (λb y=>by rw[ar (own b y).2,ar (own b y).1];show y) λb xs y=>by rw[ar (λk=>by rw[k,r]at y;ext y),ar (λk=>by rw[k,j]at y;ext y)];show y
    rcases i with i|i
    .show G (i.symm.trans k)
    .show(own b i).1 k
end
end L9
namespace L9
open PySem PySem.Spec PyProof.Rows L2 L4
def P0(H:Hp)(e:M):Hp:=λa=>if a=e then P else H a
theorem pG:P0 H e e=P:=ax W
theorem iG(h:a≠e):P0 H e a=H a:=a4 h
def xL{K:lD}(X:K.In h)(G:h.Ns N C)(e:UU K N n=S (S v)):C n=S v:=by
 let(o,es,p,f,j,_,g):=G;unfold UU at e;split at e
 .rename_i l m b a
  let:=(X _ _ a).symm.trans f;ext this;ext j;split at e
  .rename_i q i;ext e;rw[<-g];unfold nsFind findBy;rw[<-ab4,i];rfl
  .split at e<;>ext e
 .ext e
def PN{K:lD}(i:WH K (.ref f)=R)(l:K.lookup f=S o):o.cls=.type "function":=by unfold WH Wz at i;dsimp only at i;rw[l]at i;show UI (beq_iff_eq.mp i)
section
variable{X:Cx}{Z:b3 (Uu×Obj)}{Y:L2.St}{H:Hp}{s:Uw}{T:Heap}{e:Uu}{o:HO}
def Iu(I:L2.Inv X Z Y H s)(k:∀b u,s.heap.get? b=S u->T.get? b=S u)(n:s.heap.get? e=P)(new:ObjOk X.prog X.w (aW H e o) T e o):L2.Inv X Z Y (aW H e o) {s with heap:=T,toks:=t'}:=by
 let f:=vV I.VF n;let ne:∀b u,s.heap.get? b=S u->b≠e:=λb u z y=>by rw[y,n]at z;ext z
 show I.un #[λb u z _ _ _=>k b u z,λb u z _ _ _=>#[u.slots,k b u z],λb u z q _=>by rw[ar (ne b u z)];show q,λb u z _=>#[u,k b u z],λb xs z=>?_,λb u v z=>?_,λb g z=>#[#v[],?_]] ?_
 .rw[ar (λy=>by rw[y,f]at z;ext z)];show z
 .rw[ar (λy=>by rw[y,f]at z;ext z)];show z
 .rw[ar (λy=>by rw[y,f]at z;ext z),z];simp
 .intro a u z
  by_cases y:a=e
  .subst y;rw[av]at z;ext z;show new
  .rw[ar y]at z;show(I.VF a u z).X8 (λb w _ q=>k b w q) (λb q=>by rw[ar (λw=>by rw[w,f]at q;ext q)];show q) λb xs q=>by rw[ar (λw=>by rw[w,f]at q;ext q)];show q
def G2(I:L2.Inv X Z Y H s)(f:H e=S (.ext C)):L2.Inv X Z Y (P0 H e) s:=by
 let:=I.un (t':=s.toks) (H':=P0 H e) #[λb u z _ _ _=>z,λb u z _ _ _=>#[u.slots,z],λb u z q _=>?_,λb u z _=>#[u,z],λb xs z=>?_,λb u v z=>?_,λb g z=>#[#v[],?_]] ?_
 .show this
 .by_cases y:b=e
  .rw[y];show pG
  .rw[iG y];show q
 .rw[iG (λy=>by rw[y,f]at z;ext z)];show z
 .rw[iG (λy=>by rw[y,f]at z;ext z)];show z
 .rw[iG (λy=>by rw[y,f]at z;ext z),z];simp
 .intro a u z
  let y:a≠e:=λy=>by rw[y,pG]at z;ext z
  rw[iG y]at z;show(I.VF a u z).X8 (λb w _ q=>q) (λb q=>by rw[iG (λw=>by rw[w,f]at q;ext q)];show q) λb xs q=>by rw[iG (λw=>by rw[w,f]at q;ext q)];show q
end
def y8(C:M)(sp:Sp)(E:XK)(c:TA):TS:=λ_ f H=>c f H λg b=>g.length<=UD/\∀e,b e=P->sp (.ref e::(g++[])) (aW b e (.ext (GV C e))) (λv a=>v=.Wu/\∃p,a e=S (.ext (P5 C e p))/\E (.ref C) (S p) (P0 a e)) E0
def BV{K:lD}
  (c:XC K C B fI) (U:K.lookup fI=cL oI) (d:WH K (.ref fI)=Uq) (FI:FnOk Pz0 w K mg base jD k fI fdI ps sp) (bI:Binds K fdI ps [])
  (hr:Wl (k+1) (dR (i7 Pz0 w) Pz0 w K mg base N qual scope f cd Az0 outer s0 H0 E).A)
  (hg:Gl (dR (i7 Pz0 w) Pz0 w K mg base N qual scope f cd Az0 outer s0 H0 E) x) (hm:mg x=cL (.ref C)) (ha:PA (dR (i7 Pz0 w) Pz0 w K mg base N qual scope f cd Az0 outer s0 H0 E) (e0::es) ta)
  (J:(x==("__debug__":Str))=Ut:=by decide)
  (Y:UO (e0::es) (dR (i7 Pz0 w) Pz0 w K mg base N qual scope f cd Az0 outer s0 H0 E).env=(Ut,eval e0 (dR (i7 Pz0 w) Pz0 w K mg base N qual scope f cd Az0 outer s0 H0 E).env)::UO es (dR (i7 Pz0 w) Pz0 w K mg base N qual scope f cd Az0 outer s0 H0 E).env:=by rfl)
  (ZD:(backTo Xk (UO es (dR (i7 Pz0 w) Pz0 w K mg base N qual scope f cd Az0 outer s0 H0 E).env)).any (·.1)=Ut:=by rfl):
  PS (dR (i7 Pz0 w) Pz0 w K mg base N qual scope f cd Az0 outer s0 H0 E) (.Raise (cL (.Call (.Name x np) (e0::es) [] Xk)) Uo pos) (y8 C sp E ta):=by
 intro l s σ H D I h;let(nm,qn,Nn,bs,sn,sub,ab,col,dd,k0,k1,k2,k3,k5,S,VF,G):=c.obj;let a:=I.ok.mod.kin;let oC:=a _ _ S;let R:=Heap.Ns.of_isNs (PySem.W.isNs_of_in a VF);let ni:=xL a R G;let oF:=a _ _ U;let T:=abu a (wf c.base);show vA (nm:=nm) (q:=qn) (N:=Nn) (bs:=bs) (hdct:=Uq) (sn:=sn) (sub:=sub) (ab:=ab) (col:=col) (dd:=dd) (k0:=k0) (k1:=k1) (k2:=k2) (k3:=k3) (k5:=k5) W0 (by left) W0 (T.hasType W0.hasBase) (I.ok.hd W)
  (by rw[Y];show(Yn _).trans ZD) ni (PN d U) (iP I hg hm #[W,?_] J)
 let go:=ha Xk l s σ H _ I h;rw[Y]at go⊢;show Calls.evalArgs_plain (bW go λg j a=>?_);let(vs,H1,i,r,hl,q):=a;show#[W,by rw[<-r.length];show hl,i.bk _ _ oC,R.keeps i.bk,i.bk _ _ oF,T.keeps i.bk,λh' e m=>?_];let(t,y,y2,y3):=m.there;let hn:=vV i.VF m.new;let X:=q e hn;let M:=Iu (t':=j.toks) (o:=.ext (GV C e)) i m.keeps m.new #[#[_,t,y,W,W],#[_,y],λh1 h2 #[f1,t1,z1,z2,z3] hk=>#[f1,t1,hk _ z1,z2,z3]];let Q:Vals (V.ref e::(vs++[])) (CL.ref e::(g++[])):=.cons W (r.append .nil);let n:(CL.ref e::g++[]).length=ps.length:=by let z:=Q.length;rw[FI.len _ _ _ _ X]at z;show z.symm
 let F:s0.heap.get? e=Uo:=by
  cases z:s0.heap.get? e with
  |none=>rfl
  |some o=>let(o',O):=i.base.there e o z (λy=>nomatch y);rw[m.new]at O;ext O
 let bi:=bI {heap:=h',gens:=j.gens,drawn:=j.drawn,toks:=j.toks,os:=j.os} (CL.ref e::g) M.XU n;rw[adp]at bi;show Yp (Yh (FI.run _ (dR (i7 Pz0 w) Pz0 w K mg base N qual scope f cd Az0 outer s0 H0 E).stack _ _ #[CL.ref e::g,[]] (CL.ref e::(g++[])) _ _ E0 (hr.make C g []) (M.adN.make C g []) bi Q X) λr s' b=>?_);cases r with
 |error e=>show b.elim
 |ok fl=>
  cases fl with
  |ret u=>let(v,H',L,rv,ev,p,Z,q3):=M.after b;subst ev;let((fs,a0,g1,g2,g3),_,_):=(show ObjOk _ _ H' s'.heap e (.ext (P5 C e p))from L.VF e _ Z);show#[rv,_,L.XU _ _ S,g1,W,#[fs,W,g3],?_];show L6 (hd:=Uo) (G2 L Z) #[_,_,g1,W,W,W,g2,g3] F (λT z=>nomatch z) pG (λT z=>nomatch z) q3
  |next=>show False.elim b
  |brk=>show False.elim b
  |cont=>show False.elim b
end L9
namespace L9
open PySem PySem.Spec PySem.W PyProof.Rows L2 L3 L4
section
variable{Y:UR}{w:Va}{A:U4}{E:CL->Uw->Prop}{h:Heap}{g:Array YX}{d:acu}{t:Nat}{N:abi}{a C:Uu}{o:Obj}{K:lD}{L:b4 Obj}{T:Str}{v:CL}
  {B q1:Str} {N1:Uu} {b1 J:b3 CL} {d1:Bool} {s1:b3 Str} {u1:b3 CL} {a1:Bool} {c1:b4 Bool} {x1:b4 Uu} {i0 i1 i2 i3 i5:b4 CL} {Z:String}
def x4(X:K.In h)(I:WX h a o C L)(b:findObj K C L T=S (.value v))
  (k:Q (.done (.ret v)) #[h,g,d,t,N]):wpAny (model Y w) A (Vx.«object.__getattribute__» #[[.ref a,.str T tk],[]]) Q E #[h,g,d,t,N]:=by
 let f:=I.type (M:=model Y w);let e:=looks_find (M:=model Y w) X I b;show Ld (UB (Ld (UB (Ld (f.at (Ld (e.at ?_)))))));show UB k
def Br(X:K.In h)(I:WX h a o C L)(n:h.get? C=S (excClassObj B q1 C N1 b1 J d1 s1 u1 a1 c1 x1 i0 i1 i2 i3 i5 Z))(m:J.contains (.type "BaseException")=R)
  (f:findIn K (.ref C) "__getattribute__"=S (S (.builtin "BaseException.__getattribute__"))) (e:findIn K (.ref C) "__getattr__"=S P) (l:findObj K C L T=S (.value v)) (j:handedIn v=R)
  (k:Q v #[h,g,d,t+1,N]):wpAny (model Y w) A (getAttr (.ref a) T expr) Q E #[h,g,d,t,N]:=by
 let y:=WU.ga.bind (.ref a);let b:(CL.builtin "BaseException.__getattribute__"==CL.builtin "object.__getattribute__")=Ut:=by left
 let u:(onTheHeap (CL.ref C)&&CL.builtin "BaseException.__getattribute__"==CL.builtin "object.__getattribute__")=Ut:=by rw[b];rfl
 let r:=I.type (M:=model Y w);let q:=looks_findIn (M:=model Y w) X f;let p:=looks_findIn (M:=model Y w) X e;unfold getAttr getAttrBy
 repeat (any_goals (first|assumption|specialize r.at ?_|specialize q.at ?_|specialize p.at ?_|wp_step))
 rw[show(expr&&onTheHeap (CL.builtin "BaseException.__getattribute__"))=Ut from by ext expr<;>rfl,a4 UH];ext boundAndCalled
 repeat (any_goals (first|assumption|wp_step))
 show WC WU.ga.plain F.entry_bexc_ga (oP n m I.at_ I.cls (x4 X I l ?_));let i:=handedOut_of j;show wpAny _ _ (handedOut v) _ _ _;rw[i];show UB k
end
def LQ(K:lD)(c:TE)(f:Str):TE:=λb H Q=>c b H λx a=>∃e g C m p fs v,x=.ref e/\a e=S (.frz g (.own e))/\g.cls=.ref C/\g.dict=S p/\notCls g=R/\YL K C m/\hasDictIn K C=R/\findIn K (.ref C) f=S P/\
 a p=S (.xd fs)/\fs.lookup f=S v/\Q v a
def tP(S:PE X o ta)(Y:attributeBase o f X.env (eval o X.env)=eval o X.env):PE X (.Attribute o f pos) (LQ X.K ta f):=by intro a s A H Q I h;show y1 Y (bW (S a s A H _ I h) λu n a=>?_);let(x,y,b,B,e,F,C,m,p,fs,v,Z,ea,U2,T,hn,L,w,ha,N,l,q):=a;subst Z;obtain rfl:=B;let z:=(b.VF e _ ea).1;let(mA,G,i):=(show ObjOk X.prog X.w y n.heap p (.xd fs)from b.VF p _ N);let(u',M,r):=Ye.some_of (by rw[<-l];show i f);let(E,O,P):=rR G;let(_,_,_,_,_,_,_,_,_,_,_,_,_,_,_,_,J):=L.cl;let(j,g,d,t,os):=n;show Br b.XU (#[z,U2,hn,by rw[T];show O]:WX j e F C (cL E)) (b.XU _ _ J) L.be L.ga L.gt (findObj_own w ha W (by rw[P,M])) (sI r) #[v,y,b.tok _,r,q]
def sP(C:M)(f:Str):Sp:=λa H Q _=>∃e v,a=[.ref e,v]/\PZ v/\H e=S (.ext (GV C e))/\∀p,H p=P->p≠e->Q .Wu (aW (aW H e (.ext (P5 C e p))) p (.xd [(f,v)]))
def Rk:D->Bool
 |.none=>R
 |.int i=>decide (i.natAbs.log2<1920)
 |_=>A
end L9
namespace L3
open PySem PySem.Spec PyProof.Rows L2
mutual
def Ta:Uv->Bool
 |.tuple ds=>OS ds
 |.int _=>Uq
 |.str _=>Uq
 |.bool _=>Uq
 |.none=>Uq
 |_=>Ut
def OS:b3 Uv->Bool
 |[]=>Uq
 |d::r=>Ta d&&OS r
end
section
variable{K:lD}{E:XK}{B:bE}{Y:Hp}{O Z:bE}{X:L2.St}{H T:Hp}{Q:aL}
def HP(h:Yt K H a xs)(l:H a=S (.lst ys)):Yt K (λ_=>P) a xs:=by
 rcases h with(h|⟨o,h⟩)|h
 .rw[l]at h;ext h
 .rw[l]at h;ext h
 .show .inr h
mutual
theorem J3(f:∀b,O b->¬Z b->∃ys,H b=cL (.lst ys)):∀{v:V} {d:D},DV Z K H v d->Ta d=Uq->DV O K H v d
 |_,_,.Wu,_=>.Wu
 |_,_,.bl b,_=>.bl b
 |_,_,.int i,_=>.int i
 |_,_,.str x,_=>.str x
 |_,_,.tup (a:=a) h hs,e=>.tup ⟨h.1,λz=>by
   by_cases y:Z a
   .exact h.2 y
   .obtain⟨ys,q⟩:=f a z y;exact HP h.1 q⟩ (vd f hs e)
 |_,_,.lst h hs,e=>by cases e
theorem vd(a:∀b,O b->¬Z b->∃ys,H b=cL (.lst ys)):∀{vs:b3 V} {ds:b3 D},Wg Z K H vs ds->OS ds=Uq->Wg O K H vs ds
 |_,_,.nil,_=>.nil
 |_,_,.cons h hs,e=>by have f:=Bool.and_eq_true_iff.mp e;exact .cons (J3 a h f.1) (vd a hs f.2)
end
end
end L3
namespace PyProof.Rows
open PySem
section
variable{Y:UR}{w:Va}{A:U4}{E:CL->Uw->Prop}{s:Uw}
def qN(b:h.get? a=S (seqObj "list" o.toArray n)):∃e,(sortedHeap h a o out).get? a=S (seqObj "list" out e):=by let f:=get?_update_seq b (λ_=> #v[]);show#[_,get?_update_seq (ck _ (ck _ f)) _]
theorem mL(f:b≠a)(e:h.get? b=S o):(sortedHeap h a C out).get? b=S o:=
 (da _ _ (eg f)).trans (ck _ (ck _ ((da _ _ (eg f)).trans e)))
def yR{l:M}{c:b3 U}{j:b3 Int}{Q:U->Uw->Prop}(p:s.heap.IsTuple l c.toArray)(y:IntsAre c j)(i:c.length<64)
  (h:∀(a d:Heap) (out:Array U) (e:Nat) (f:b3 Int),(∀b o,s.heap.get? b=S o->a.get? b=S o)->d.get? a.objs.size=S (seqObj "list" out e)->(∀b o,a.get? b=S o->d.get? b=S o)->IntsAre out.toList f->f.Perm j->f.Pairwise (·<=·)->Q (.ref a.objs.size) {s with heap:=d}):
  wpAny (model Y w) A (call (.builtin "sorted") [.ref l]) Q E s:=by
 let(o,q,v,n,u):=p;show Calls.call_function_entry kind_sorted plain_sorted entry_sorted (args_sorted1 _) (Ld (m:=checkCount "sorted" 1 1 _) (UB (Ld (wpAny_collect_seq l (.inr W) q v u (λa r=>Ld (aj7 ?_)) (by rw[US,WB];ext)))));let g:(a.push (seqObj "list" c.toArray 0)).get? a.objs.size=S (seqObj "list" c.toArray 0):=cv _ W;show Ld (WJ (Xe slot_list_sort #[_,g,W] entry_list_sort (list_sort_tree g y i λout f F C B=>#[_,W,UB #[_,W,?_]]) (args_list_sort _)));let(e,t):=qN (out:=out) g;show h a _ out e f r t (λb G z=>mL (UY (cn z)) (ck _ z)) F C B
end
end PyProof.Rows
namespace L9
open PySem PySem.Spec PyProof.Rows L2 L3
section
variable{K:lD}{E:XK}
def tS:WM X (.builtin "sorted") (λxs H Q=>∃(p:M) (f:b3 Int),xs=[.ref p]/\Yt X.K H p (f.map V.int)/\f.length<64/\∀(l:M) (a:b3 Int),H l=P->a.Perm f->a.Pairwise (·<=·)->Q (.ref l) (aW H l (.lst (a.map V.int)))):=by
 intro j s C H xs F Q I r h;let(p,f,rfl,v,A,q):=h;let(u,rfl,o):=j4 r;ext o;let(L,N,pl,G):=I.tuple v;let w:=N.length;rw[Us]at w;show yR pl (kH N) () λB J g e a y z i T m t=>?_;let b:=m.length_eq;let n:=I.kept (t':=s.toks) y;show#[.ref B.objs.size,_,n.laid i (UC _) ?_,W,q _ a (n.VF.fresh (UC _)) m t];show#[?_,g.toList,e,ib T,z];rw[Us,b];let:(64:Nat)<=UD:=by decide
 ext
theorem tJ:WM X (.builtin "sorted") (λxs H Q=>(∃(p:M) (a:G Int),xs=[.ref p]/\Ys X.K H p (a.map V.int)/\a.length<64/\∀(l:M) (b:G Int),H l=P->b.Perm a->b.Pairwise (·<=·)->Q (.ref l) (aW H l (.lst (b.map V.int))))\/
  (∃(p:M) (a:G Int),xs=[.ref p]/\Yt X.K H p (a.map V.int)/\a.length<64/\∀(l:M) (b:G Int),H l=P->b.Perm a->b.Pairwise (·<=·)->Q (.ref l) (aW H l (.lst (b.map V.int))))):=L2.WM.or vZ tS
def fq:G D->z RV
 |[.tuple ds]=>(match mG ds with
  |some a=>if a.length<64 then S (.ow ((je a).map .int))else P
  |none=>P)
 |ds=>uR ds
def x8:B7 K (λxs H Q=>(∃(p:M) (b:G Int),xs=[.ref p]/\Ys K H p (b.map V.int)/\b.length<64/\∀(l:M) (f:G Int),H l=P->f.Perm b->f.Pairwise (·<=·)->Q (.ref l) (aW H l (.lst (f.map V.int))))\/
  (∃(p:M) (b:G Int),xs=[.ref p]/\Yt K H p (b.map V.int)/\b.length<64/\∀(l:M) (f:G Int),H l=P->f.Perm b->f.Pairwise (·<=·)->Q (.ref l) (aW H l (.lst (f.map V.int))))) fq:=by
 intro O H xs ds u Q n h e q;unfold fq at e;split at e
 .split at e
  .rename_i b j
   split at e
   .rename_i v
    ext e;cases h with
    |cons r o=>ext o;let(a,w,rfl,i,t):=GW r;rw[om t j]at i;show .inr #[a,b,W,i.1,v,λl f m g cH=>?_];let e2:=jx (g.trans (dS b).symm) cH (dk b);subst e2;show q.new (pN _) l m
   .ext e
  .ext e
 .show .inl (A4 O H xs ds u Q n h e q)
end
end L9
namespace L9
open PySem PySem.W PyProof.Rows Builtin Builtin.ObjectAttr
open PySem.Spec L2
open L3 L4
def Gd(C:M)(f g:Str):Sp:=λa H Q _=>∃e v u,a=[.ref e,v,u]/\PZ v/\PZ u/\H e=S (.ext (GV C e))/\∀p,H p=P->p≠e->Q .Wu (aW (aW H e (.ext (P5 C e p))) p (.xd [(g,u),(f,v)]))
end L9
namespace LD
open PySem PyProof.Rows L2 L3
mutual
def kd:Uv->Bool
 |.none=>Uq
 |.int _=>Uq
 |.str x=>Uv.strOk x
 |.tuple xs=>kds xs
 |_=>Ut
def kds:b3 Uv->Bool
 |[]=>Uq
 |x::r=>kd x&&kds r
end
def keyD:Uv->Bool
 |.tuple xs=>kds xs&&decide ((Uv.tuple xs).depth<=8)
 |_=>A
mutual
theorem kd_lay:∀d:Uv,kd d=Uq->d.canLay0=Uq
 |.none,_=>rfl
 |.int _,_=>rfl
 |.str x,h=>by unfold Uv.canLay0;unfold kd at h;exact h
 |.tuple xs,h=>by unfold Uv.canLay0;unfold kd at h;exact Aq xs h
 |.bool _,h|.list _,h|.dict _,h=>by simp[kd]at h
theorem Aq:∀xs:b3 Uv,kds xs=Uq->Uv.canLayAll0 xs=Uq
 |[],_=>rfl
 |x::r,h=>by unfold kds at h;rw[Ur]at h;unfold Uv.canLayAll0;rw[kd_lay x h.1,Aq r h.2];rfl
end
mutual
theorem Gn:∀d e:Uv,kd d=Uq->kd e=Uq->Uv.eqv d e=Uq->d=e
 |.none,e,_,h,q=>by cases e<;>simp_all [kd,Uv.eqv]
 |.int i,e,_,h,q=>by cases e<;>simp_all [kd,Uv.eqv]
 |.str x,e,_,h,q=>by cases e<;>simp_all [kd,Uv.eqv]
 |.tuple xs,e,g,h,q=>by
  cases e with
  |tuple a=>rw[Uv.eqv]at q;unfold kd at g h;rw[zH xs a g h q]
  |_=>simp_all [kd,Uv.eqv]
 |.bool _,_,h,_,_|.list _,_,h,_,_|.dict _,_,h,_,_=>by simp[kd]at h
theorem zH:∀xs ys:b3 Uv,kds xs=Uq->kds ys=Uq->Uv.eqvAll xs ys=Uq->xs=ys
 |[],[],_,_,_=>rfl
 |[],_::_,_,_,q=>by simp[Uv.eqvAll]at q
 |_::_,[],_,_,q=>by simp[Uv.eqvAll]at q
 |x::xs,y::ys,g,h,q=>by unfold kds at g h;rw[Uv.eqvAll]at q;rw[Ur]at g h q;rw[Gn x y g.1 h.1 q.1,zH xs ys g.2 h.2 q.2]
end
def GL[Decidable (d=e)](hd:kd d=R)(a:kd e=R):Uv.eqv d e=decide (d=e):=by
 by_cases q:d=e
 .subst q;rw[a5 W];show SeqAt.eqv_refl d (kd_lay d hd)
 .rw[a6 q]
  cases z:Uv.eqv d e with
  |false=>rfl
  |true=>show bg (Gn d e hd a z) q
def dJ(h:keyD d=R):kd d=R/\d.depth<=8:=by
 cases d with
 |tuple xs=>unfold keyD at h;rw[Ur]at h;show#[by ext kd;show h.1,a7 h.2]
 |_=>simp[keyD]at h
mutual
def qL(w:Va):Uv->Int
 |.none=>reduceHash 0xFCA86420
 |.int i=>hashInt i
 |.str x=>hashStr w x
 |.tuple xs=>reduceHash (Vx.Tuple.tupleHashOf (pB w xs))
 |_=>0
def pB(w:Va):b3 Uv->b3 Int
 |[]=>[]
 |x::r=>qL w x::pB w r
end
mutual
def Se:Uv->Nat
 |.tuple xs=>JW xs+1
 |_=>1
def JW:b3 Uv->Nat
 |[]=>0
 |x::r=>Se x+JW r
end
section
variable{prog:UR}{w:Va}{E:CL->Uw->Prop}
mutual
theorem Ay:∀(d:Uv) (v:CL) (as:b3 Uu) (g:U4) (s:Uw) (Q:Int->Uw->Prop),kd d=Uq->abr s.heap v d as->g.units+d.depth<cLine->Q (qL w d) {s with toks:=s.toks+Se d}->wpAny (model prog w) g (pyHash v) Q E s
 |.none,_,_,g,s,Q,_,r,hu,h=>by cases r;exact abj (T:= "NoneType") rfl F.slot_NoneType_hash F.entry_NoneType_hash (F.args_NoneType_hash_1 _) (afZ _) (.inr (by ext)) (Ld (UB (Ld (wpAny_mkInt (UB ⟨_,_,rfl,h⟩)))))
 |.int i,_,_,g,s,Q,_,r,_,h=>by cases r;exact afM h
 |.str x,_,_,g,s,Q,_,r,_,h=>by cases r;exact afN h
 |.tuple xs,_,_,g,s,Q,hk,r,hu,h=>by
  cases r with
  | @tuple a o vs n _ _ h1 h2 h3 h4=>
   refine abj (T:= "tuple") ⟨_,h1,h2⟩ F.slot_tuple_hash F.entry_tuple_hash (F.args_tuple_hash_1 _) (afZ _) (.inr (by ext)) ?_;show wpAny _ _ (Vx.Tuple.tupleItemsOf (.ref a)>>=_) _ _ s;refine Ld (wpAny_tupleItemsOf h1 h3 ?_);refine Ld ?_;rw[<-ab8];unfold kd at hk;refine r8 xs vs.toList _ g.in1 s #v[] _ hk h4 (by simp only[Uv.depth,U4.in1_units]at hu⊢;ext) λb e=>?_;show wpAny _ _ (retInt (Vx.Tuple.tupleHashOf b.toList)) _ _ _;rw[e];refine Ld (wpAny_mkInt (UB ⟨_,_,rfl,?_⟩));unfold qL Se at h
   simpa [XT]using h
 |.bool _,_,_,_,_,_,h,_,_,_|.list _,_,_,_,_,_,h,_,_,_|.dict _,_,_,_,_,_,h,_,_,_=>by simp[kd]at h
theorem r8:∀(xs:b3 Uv) (vs:b3 CL) (as:b3 Uu) (g:U4) (s:Uw) (b:Array Int) (Q:Array Int->Uw->Prop),kds xs=Uq->Zq s.heap vs xs as->g.units+Uv.depthAll xs<cLine->
  (∀b':Array Int,b'.toList=b.toList++pB w xs->Q b' {s with toks:=s.toks+JW xs})->
  wpAny (model prog w) g (forIn vs b λx r=>do let h<-pyHash x;pure PUnit.unit;pure (ForInStep.yield (r.push h))) Q E s
 |[],_,_,g,s,b,Q,_,x,_,h=>by cases x;exact UB (h b (by simp[pB]))
 |k::xs,_,_,g,s,b,Q,hk,x,hu,h=>by
  cases x with
  |cons e a=>
   unfold kds at hk;simp only[Ur,Uv.depthAll]at hk hu;rw[XX];refine Ld (Ld (Ay k _ _ g s _ hk.1 e (by ext) ?_));refine Ld (UB (UB ?_));refine r8 xs _ _ g _ _ Q hk.2 a (by ext) λb' f=>?_;have:=h b' (by simp[f,pB]);unfold JW at this
   simpa [XT]using this
end
theorem vF:∀(n:Nat) (d:Uv) (v:U) (as:G M) (p:U4) (s:Uw) (Q:Bool->Uw->Prop),kd d=R->abr s.heap v d as->d.depth<=n->Q R s->wpAny (model prog w) p (eqIsQuiet n v) Q E s
 |n,.none,_,_,p,s,Q,_,r,_,h=>by ext r;rw[aae _ W];show UB h
 |n,.int i,_,_,p,s,Q,_,r,_,h=>by ext r;rw[aae _ W];show UB h
 |n,.str i,_,_,p,s,Q,_,r,_,h=>by ext r;rw[aae _ W];show UB h
 |0,.tuple xs,_,_,p,s,Q,u,r,t,h=>by simp only[Uv.depth]at t;ext
 |n+1,.tuple xs,_,_,p,s,Q,u,r,t,h=>by
  cases r with
  | @tuple a o J m _ _ h1 I C B=>
   let g:s.TypeIs (.ref a) "tuple":=#[_,h1,I];simp only[Uv.depth]at t;ext eqIsQuiet;show Ld (ag2 g F.slot_tuple_eq.lookup ?_);show Ld (aaw g isSubtype_tuple_tuple ?_);simp only[aaR,Xf,if_false];show Ld (VW h1 C ?_);show Ld ?_;rw[<-ab8];unfold kd at u;show wpAny_forIn_list _ (λb r e=>r.1=P/\e=s/\∃ys bs,kds ys=R/\Zq s.heap b ys bs/\Uv.depthAll ys<=n) _ ?_ ?_ _ _ #[W,W,xs,_,u,B,by ext]
   .rintro v b r e ⟨f,rfl,ys,bs,k1,k2,k3⟩
    cases k2 with
    | @cons _ _ y q _ _ g1 g2=>unfold kds at k1;simp only[Ur,Uv.depthAll]at k1 k3;show Ld (vF n y v _ p e _ k1.1 g1 () ?_);simp only[aaR,Xf,if_false];show UB #[W,W,q,_,k1.2,g2,by ext]
   .rintro⟨l,j⟩ e ⟨f,rfl,_⟩;simp only at f;subst f;show UB h
 |_,.bool _,_,_,_,_,_,h,_,_,_|_,.list _,_,_,_,_,_,h,_,_,_|_,.dict _,_,_,_,_,_,h,_,_,_=>by simp[kd]at h
end
mutual
theorem rH{h h':Heap}{x:Uu}{b:Obj}{es:Array Xy}{i:Nat}(e:h.get? x=cL b)(g:b.data=.dict es i)(f:Heap.SameBut x h h'):∀(d:Uv) (v:CL) (as:b3 Uu),kd d=Uq->abr h v d as->abr h' v d as
 |.none,_,_,_,r=>by cases r;exact .none
 |.int _,_,_,_,r=>by cases r;exact .int _ _
 |.str _,_,_,_,r=>by cases r;exact .str _ _
 |.tuple xs,_,_,k,r=>by
  cases r with
  | @tuple a o vs n _ _ h1 h2 h3 h4=>
   have j:a≠x:=by rintro rfl;rw[e]at h1;cases h1;rw[g]at h3;exact nomatch h3
   unfold kd at k;exact .tuple ((f.2 a j).trans h1) h2 h3 (pA e g f xs _ _ k h4)
 |.bool _,_,_,h,_|.list _,_,_,h,_|.dict _,_,_,h,_=>by simp[kd]at h
theorem pA{h h':Heap}{x:Uu}{a:Obj}{es:Array Xy}{j:Nat}(b:h.get? x=cL a)(f:a.data=.dict es j)(e:Heap.SameBut x h h'):∀(ds:b3 Uv) (vs:b3 CL) (as:b3 Uu),kds ds=Uq->Zq h vs ds as->Zq h' vs ds as
 |[],_,_,_,r=>by cases r;exact .nil
 |d::ds,_,_,k,r=>by
  cases r with
  |cons i g=>unfold kds at k;rw[Ur]at k;exact .cons (rH b f e d _ _ k.1 i) (pA b f e ds _ _ k.2 g)
end
abbrev KD:={d:Uv//keyD d=R}
noncomputable instance kdDec:DecidableEq KD:=λ_ _=>Classical.propDecidable _
def fx(prog:UR)(w:Va):HeapKind prog w KD where
 is:=λh k a=>∃as,abr h (.ref a) k.1 as
 hash:=λk=>qL w k.1
 draws:=λk=>Se k.1
 room:=λg=>g.units+8<cLine
 inj:=λ#[_,r] #[_,f]=>Subtype.ext (abr.unique r _ _ f).1
 keeps:=λ{h m k a d o es n} #[as,r] l hd j=>#[as,rH l hd j k.1 _ _ (dJ k.2).1 r]
 pyHash:=λ{g E s k a Q} i #[as,r] q=>Ay k.1 _ as g s Q (dJ k.2).1 r (by let:=(dJ k.2).2;ext) q
 eqBool:=λ{g E s x y a b Q} i #[as,r] #[bs,f] q=>SeqAt.eqAt_reads x.1 y.1 g s _ _ as bs r f (kd_lay _ (dJ x.2).1) (kd_lay _ (dJ y.2).1) (by let:=(dJ x.2).2;ext) prog w E Q (by
  haveI:Decidable (x.1=y.1):=Classical.propDecidable _
  rw[GL (dJ x.2).1 (dJ y.2).1];by_cases e:x=y
  .rw[a5 e]at q;rw[a5 (en Subtype.val e)];show q
  .rw[a6 e]at q;rw[a6 λz=>e (Subtype.ext z)];show q)
 quiet:=λ{g E s k a Q} #[as,r] q=>vF 8 k.1 _ as g s Q (dJ k.2).1 r (dJ k.2).2 q
def Ub(a:M)(xs:G (KD×M×V))(w:Va)(h:Heap):Prop:=
 (xs.length<=UD/\(a==Wr)=A/\(xs.map (·.1)).Nodup)/\∃o es b,h.get? a=S o/\o.ExactDict/\o.data=.dict es b/\Paired (λ(x:KD×M×V) (e:Xy)=>e.hash=qL w x.1.1/\e.key=.ref x.2.1/\RelV x.2.2 e.val) xs es.toList
abbrev DkO(a:M)(xs:G (KD×M×V)):HO:=.exw (Ub a xs)
abbrev PrD(O:bE)(K:lD)(H:Hp):G (KD×M×V)->G (D×D)->Prop:=
 Paired λx a=>x.1.1=a.1/\L3.DV O K H (.ref x.2.1) a.1/\L3.DV O K H x.2.2 a.2
end LD
namespace L10
open PySem L2 L3
inductive AV where
 |fz (d:D)
 |rf (i:Nat)
inductive SV where
 |fz (d:D)
 |rf (i:Nat)
 |tp (l:G AV)
def AV.sv:AV->SV
 |.fz d=>.fz d
 |.rf i=>.rf i
inductive Cell where
 |lst (xs:G SV)
 |Zm (UZ:G (b5×SV))
 |obj (C:Str) (fs:G (Str×SV))
 |dd (UZ:G (D×D))
 |dead
abbrev aJ:=G Cell
abbrev aP:=G (z SV)
inductive RS(α:Type) where
 |ok (a:α) (ω:aJ)
 |er (x:Xc) (ω:aJ)
 |bad
def RS.bind(r:RS α)(f:α->aJ->RS β):RS β:=match r with
 |.ok a b=>f a b
 |.er x b=>.er x b
 |.bad=>.bad
def RS.Vu(b:aJ):z α->RS α
 |some a=>.ok a b
 |none=>.bad
theorem RS.bind_ok(a:α)(b:aJ)(f:α->aJ->RS β):(RS.ok a b).bind f=f a b:=W
abbrev eH:=@RS.bind_ok
def Lv(α:G M)(a:aJ):bE:=λb=>∃(i:Nat) (c:Cell),α[i]?=S b/\a[i]?=S c/\c≠Cell.dead
def ow(B:bE)(α:G M)(a:aJ):bE:=λb=>B b\/Lv α a b
section
variable(O:bE)(K:lD)(H:Hp)(Z:b3 Uu)
def AOk(v:V):AV->Prop
 |.fz d=>DV O K H v d
 |.rf i=>∃a,Z[i]?=S a/\v=.ref a
def Xn(v:V):SV->Prop
 |.fz d=>DV O K H v d
 |.rf i=>∃a,Z[i]?=S a/\v=.ref a
 |.tp l=>∃a xs,v=.ref a/\YO O K H a xs/\Paired (AOk O K H Z) xs l
abbrev W5:G V->G SV->Prop:=Paired (Xn O K H Z)
def COk(a:M):Cell->Prop
 |.lst xs=>∃e,H a=S (.lst e)/\W5 O K H Z e xs
 |.Zm b=>∃ws:G (b5×V),H a=S (.dK ws)/\Paired (λ(p:b5×V) (q:b5×SV)=>p.1=q.1/\Xn O K H Z p.2 q.2) ws b
 |.obj C fs=>∃f g ws,UU K UL C=S (S (.ref f))/\H a=S (.ins f g ws)/\Paired (λ(p:Str×V) (q:Str×SV)=>p.1=q.1/\Xn O K H Z p.2 q.2) ws fs
 |.dd b=>∃xs,H a=S (LD.DkO a xs)/\LD.PrD O K H xs b
 |.dead=>True
def Xb(a:L2.St)(b:aP):Prop:=a.length=b.length/\∀(i:Nat) (x:SV),b[i]?=S (S x)->∃v,a[i]?=S (S v)/\Xn O K H Z v x
end
structure U6(B:bE)(K:lD)(H:Hp)(α:G M)(ω:aJ):Prop where
 len:α.length=ω.length
 nd:∀(i j:Nat) (a:M),α[i]?=S a->α[j]?=S a->i=j
 bn:∀a,B a->H a≠P
 ba:∀a,B a->∀i:Nat,α[i]?≠S a
 al:∀(i:Nat) (a:M),α[i]?=S a->H a≠P
 cel:∀(i:Nat) (a:M) (c:Cell),α[i]?=S a->ω[i]?=S c->COk (ow B α ω) K H α a c
structure Wc(α:G M)(ω:aJ)(H:Hp)(α':G M)(ω':aJ)(H':Hp):Prop where
 pre:∀(i:Nat) (a:M),α[i]?=S a->α'[i]?=S a
 kp:∀b o,H b=S o->¬Lv α ω b->H' b=S o
 lv:∀b,Lv α' ω' b->Lv α ω b\/H b=P
section
variable{B O Q:bE}{K:lD}{E:XK}{H J S N:Hp}{Z Y U T:b3 Uu}{L X I R:aJ}{t:L2.St}{ρ:aP}{v:V}
theorem Wc.refl:Wc Z L H Z L H:=#[λ_ _ h=>h,λ_ _ h _=>h,λ_ h=>.inl h]
def Wc.trans(a:Wc Z L H U I S)(b:Wc U I S T R N):Wc Z L H T R N:=by
 let e:∀b o,H b=cL o->¬Lv Z L b->¬Lv U I b:=λb o h n z=>(a.lv b z).elim n λq=>by simp_all
 show#[λi p h=>b.pre i p (a.pre i p h),λp o h n=>b.kp p o (a.kp p o h n) (e p o h n),λp h=>?_];rcases b.lv p h with h|h
 .show a.lv p h
 .cases q:H p with
  |none=>simp_all
  |some o=>show .inl (Classical.byContradiction λn=>?_);rw[a.kp p o q n]at h;ext h
theorem Wc.same(s:VZ H J):Wc Z L H Z L J:=#[λ_ _ h=>h,λb o h _=>s b o h,λ_ h=>.inl h]
theorem Wc.ev(e:Wc Z L H Y X J):Ev (ow B Z L) H (ow B Y X) J:=λb o h n=>
 #[e.kp b o h λz=>n (.inr z),λz=>z.elim (λq=>n (.inl q)) λq=>(e.lv b q).elim (λq=>n (.inr q)) λq=>by simp_all]
def AOk.ev(e:Ev O H Q J)(p:∀(i:Nat) (a:M),Z[i]?=cL a->Y[i]?=cL a)(h:AOk O K H Z v x):AOk Q K J Y v x:=by
 cases x with
 |fz d=>show DV.ev e h
 |rf i=>let(a,f,b):=h;show#[a,p i a f,b]
def Xn.ev(e:Ev O H Q J)(p:∀(i:Nat) (a:M),Z[i]?=cL a->Y[i]?=cL a)(h:Xn O K H Z v x):Xn Q K J Y v x:=by
 cases x with
 |fz d=>show DV.ev e h
 |rf i=>let(a,f,b):=h;show#[a,p i a f,b]
 |tp l=>let(a,xs,f,b,g):=h;show#[a,xs,f,b.ev e,Paired.Yc g λ_ _ q=>q.ev e p]
theorem Xn.WQ(e:Wc Z L H Y X J)(h:Xn (ow B Z L) K H Z v x):Xn (ow B Y X) K J Y v x:=h.ev e.ev e.pre
theorem W5.WQ(e:Wc Z L H Y X J)(h:W5 (ow B Z L) K H Z vs xs):W5 (ow B Y X) K J Y vs xs:=Paired.Yc h λ_ _ q=>q.WQ e
theorem Xb.WQ(e:Wc Z L H Y X J)(h:Xb (ow B Z L) K H Z t ρ):Xb (ow B Y X) K J Y t ρ:=#[h.1,λi x q=>let#[v,h1,a]:=h.2 i x q;#[v,h1,a.WQ e]]
def COk.ev(e:Ev O H Q J)(p:∀(i:Nat) (a:M),Z[i]?=cL a->Y[i]?=cL a)(d:∀o,H a=cL o->J a=cL o)(h:COk O K H Z a c):COk Q K J Y a c:=by
 cases c with
 |lst xs=>let(l,f,b):=h;show#[l,d _ f,Paired.Yc b λ_ _ q=>q.ev e p]
 |Zm n=>let(ws,f,b):=h;show#[ws,d _ f,Paired.Yc b λ_ _ q=>#[q.1,q.2.ev e p]]
 |obj C fs=>let(j,m,ws,g,f,b):=h;show#[j,m,ws,g,d _ f,Paired.Yc b λ_ _ q=>#[q.1,q.2.ev e p]]
 |dd n=>let(xs,f,b):=h;show#[xs,d _ f,Paired.Yc b λ_ _ q=>#[q.1,q.2.1.ev e,q.2.2.ev e]]
 |dead=>trivial
theorem U6.noO(s:U6 B K H Z L):kR (ow B Z L) H:=λa h z=>z.elim (λq=>s.bn a q h) λ#[i,c,q,_]=>s.al i a q h
theorem U6.owd(s:U6 B K H Z L):∀a,ow B Z L a->H a≠P:=λa z h=>s.noO a h z
def U6.grow(s:U6 B K H Z L)(e:VZ H J):U6 B K J Z L:=by let n:∀a,H a≠P->J a≠P:=λa h z=>h (e.free z);show#[s.len,s.nd,λa h=>n a (s.bn a h),s.ba,λi a h=>n a (s.al i a h),λi a c f b=>(s.cel i a c f b).ev (Ev.grow e) (λ_ _ h=>h) λo h=>e _ _ h]
def U6.at(s:U6 B K H Z L){i:Nat}(h:L[i]?=cL c):∃a,Z[i]?=cL a:=by let:i<L.length:=(Ux.mp h).1;rw[<-s.len]at this;simp_all
theorem U6.adX(s:U6 B K H Z L){i:Nat}(h:Z[i]?=cL a):¬B a:=λz=>s.ba a z i h
def sX{i:Nat}{c m:Cell}(h:L[i]?=cL c)(n:c≠.dead)(g:m≠.dead){b:M}:Lv Z (L.set i m) b↔Lv Z L b:=by
 constructor
 .rintro⟨j,d,f,a,l⟩
  rcases bH a with⟨rfl,rfl⟩|⟨_,a⟩
  .show#[j,c,f,h,n]
  .show#[j,d,f,a,l]
 .rintro⟨j,d,f,a,l⟩
  by_cases e:j=i
  .subst e;show#[j,m,f,by rw[VO (Ux.mp h).1],g]
  .show#[j,d,f,by rw[Vf (λz=>e z.symm)];show a,l]
def FR(h:L[i]?=cL c)(e:c≠.dead)(a:o≠.dead):ow B Z (L.set i o)=ow B Z L:=by funext b;show propext #[λz=>z.imp id (sX h e a).mp,λz=>z.imp id (sX h e a).mpr]
theorem Wc.put(d:Z[i]?=cL a)(h:L[i]?=cL c)(g:c≠.dead)(f:c'≠.dead):Wc Z L H Z (L.set i c') (aW H a o):=
 #[λ_ _ h=>h,λb j q n=>by let z:b≠a:=λe=>n #[i,c,by simp_all,h,g];rw[ar z];show q,λb z=>.inl ((sX h g f).mp z)]
def U6.put(s:U6 B K H Z L)(k:Z[i]?=cL a)(h:L[i]?=cL c)(m:c≠.dead)(f:c'≠.dead)(new:COk (ow B Z L) K (aW H a o) Z a c'):U6 B K (aW H a o) Z (L.set i c'):=by
 let e:Wc Z L H Z (L.set i c') (aW H a o):=Wc.put k h m f;let n:∀b,H b≠P->aW H a o b≠P:=λb h=>by
  by_cases z:b=a
  .subst z;rw[av];simp
  .rw[ar z];show h
 show#[by rw[Vy];show s.len,s.nd,λb h=>n b (s.bn b h),s.ba,λj b h=>n b (s.al j b h),λj b d l g=>?_];rcases bH g with⟨rfl,rfl⟩|⟨p,g⟩
 .rw[k]at l;ext l;rw[FR h m f];show new
 .show(s.cel j b d l g).ev e.ev e.pre λu q=>by rw[ar (λz=>p (s.nd j i a (by simp_all) k))];show q
theorem lQ{i:Nat}{a:M}{c:Cell}{o:HO}(d:Z[i]?=cL a)(h:L[i]?=cL c)(b:c≠.dead):Ev (ow B Z L) H (ow B Z L) (aW H a o):=Ev.mut (.inr #[i,c,d,h,b]) o
def aX{Z:Type}{l:G Z}{x y:Z}{i:Nat}(h:(l++[x])[i]?=cL y):l[i]?=cL y\/(i=l.length/\y=x):=by
 by_cases hi:i<l.length
 .rw[U0 hi]at h;show .inl h
 .rw[U8 ()]at h
  cases q:i - l.length with
  |zero=>rw[q]at h;ext h;show .inr #[by ext,W]
  |succ n=>rw[q]at h;ext h
def dG{Z:Type}{l:G Z}{x y:Z}{i:Nat}(h:l[i]?=cL y):(l++[x])[i]?=cL y:=by rw[U0 (Ux.mp h).1];show h
def aU:(l++[x])[l.length]?=cL x:=by simp
def qH(g:Z.length=L.length)(h:Lv (Z++[p]) (L++[c]) b):Lv Z L b\/b=p:=by
 let(i,d,e,a,f):=h;rcases aX e with e|⟨e1,e2⟩
 .rcases aX a with a|⟨e1,e2⟩
  .show .inl #[i,d,e,a,f]
  simp_all
 .show .inr e2
theorem Wc.aa7(f:Z.length=L.length)(s:VZ H J)(g:H p=P):Wc Z L H (Z++[p]) (L++[c]) J:=
 #[λi a h=>dG h,λb u q _=>s b u q,λb z=>(qH f z).imp id λe=>by simp_all]
def U6.aa7(s:U6 B K H Z L)(e:VZ H J)(l:H p=P)(m:J p≠P)(new:COk (ow B (Z++[p]) (L++[c])) K J (Z++[p]) p c):U6 B K J (Z++[p]) (L++[c]):=by
 let ev:Wc Z L H (Z++[p]) (L++[c]) J:=Wc.aa7 s.len e l;let n:∀b,H b≠P->J b≠P:=λb h z=>h (e.free z);show#[by rw[Uz,Uz,s.len];rfl,λi j a f g=>?_,λa h=>n a (s.bn a h),λa h i q=>?_,λi a h=>?_,λi a d f g=>?_]
 .rcases aX f with g1|⟨e1,e2⟩<;>rcases aX g with g2|⟨e3,e4⟩
  .show s.nd i j a g1 g2
  .show bg (by rw[e4];show l) (s.al i a g1)
  .show bg (by rw[e2];show l) (s.al j a g2)
  .omega
 .rcases aX q with q|⟨_,e2⟩
  .show s.ba a h i q
  .subst e2;show s.bn a h l
 .rcases aX h with h|⟨_,e2⟩
  .show n a (s.al i a h)
  simp_all
 .rcases aX g with g|⟨e1,e2⟩
  .rcases aX f with f|⟨e1,_⟩
   .show(s.cel i a d f g).ev ev.ev ev.pre λo q=>e _ _ q
   .let:=(Ux.mp g).1;let:=s.len;ext
  .rcases aX f with f|⟨_,e3⟩
   .let:=(Ux.mp f).1;let:=s.len;ext
   simp_all
def WS(K:lD)(E:XK)(B:bE)(H:Hp)(Z:G M)(L:aJ)(P:b->G M->aJ->Hp->Prop):RS b->Prop
 |.ok a X=>∀Y J,Wc Z L H Y X J->U6 B K J Y X->P a Y X J
 |.er x X=>∀c e Y J,Wc Z L H Y X J->U6 B K J Y X->XOk K (ow B Y X) J c e x->E c e J
 |.bad=>False
def WS.from(e:Wc Z L H U I S)(h:WS K E B H Z L f r):WS K E B S U I f r:=by
 cases r with
 |ok a R=>show λT N e2 b=>h T N (e.trans e2) b
 |er x R=>show λc g T N e2 b=>h c g T N (e.trans e2) b
 |bad=>show h
def WS.bind(h:WS K E B H Z L b (r.bind k)):WS K E B H Z L (λa U I S=>WS K E B S U I b (k a I)) r:=by
 cases r with
 |ok a I=>show λU S e1 _=>WS.from e1 h
 |er x I=>show h
 |bad=>show h
def WS.Vu(h:WS K E B H Z L b ((RS.Vu L o).bind k)):∃a,o=cL a/\WS K E B H Z L b (k a L):=by
 cases o with
 |none=>show h.elim
 |some a=>show#[a,W,h]
def WS.imp(h:WS K E B H Z L e r)(g:∀a Y X J,Wc Z L H Y X J->U6 B K J Y X->e a Y X J->P' a Y X J):WS K E B H Z L P' r:=by
 cases r with
 |ok a I=>show λU S e1 b=>g a U I S e1 b (h U S e1 b)
 |er x I=>show h
 |bad=>show h
theorem WS.now(s:U6 B K H Z L)(h:WS K E B H Z L b (.ok a L)):b a Z L H:=h Z H .refl s
end
abbrev cM:=aP->aJ->RS SV
abbrev qE:=aP->aJ->RS Bool
abbrev wM:=aP->aJ->RS (G SV)
def b6(K:lD)(E:XK)(t:TE)(f:cM):Prop:=
 ∀(B:bE) (e:L2.St) (H:Hp) (α:G M) (h:aJ) (i:aP) (Q:VK),U6 B K H α h->Xb (ow B α h) K H α e i->WS K E B H α h (λx a b g=>∀v,Xn (ow B a b) K g a v x->Q v g) (f i h)->t e H Q
def rB(K:lD)(E:XK)(t:TT)(f:qE):Prop:=
 ∀(B:bE) (a:L2.St) (H:Hp) (α:G M) (g:aJ) (h:aP) (Q:Bool->Hp->Prop),U6 B K H α g->Xb (ow B α g) K H α a h->WS K E B H α g (λb _ _ e=>Q b e) (f h g)->t a H Q
def sO(K:lD)(E:XK)(t:TA)(f:wM):Prop:=
 ∀(B:bE) (e:L2.St) (H:Hp) (α:G M) (h:aJ) (i:aP) (Q:G V->Hp->Prop),U6 B K H α h->Xb (ow B α h) K H α e i->WS K E B H α h (λxs a b g=>∀j,W5 (ow B a b) K g a j xs->Q j g) (f i h)->t e H Q
section
variable{B O N:bE}{K:lD}{E:XK}{H H' U H2:Hp}{Z P Y J:b3 Uu}{ω M I T:aJ}{X:L2.St}{ρ:aP}{v:V}
def Lo:z SV->z PV
 |some (.fz d)=>S (.fz d)
 |_=>Uo
def a8(ρ:aP):aL:=ρ.map Lo
def jF{i:Nat}(h:(a8 ρ)[i]?=S (S x)):∃d,x=.fz d/\ρ[i]?=S (S (.fz d)):=by
 unfold a8 at h;rw[UG]at h;cases q:ρ[i]? with
 |none=>simp_all
 |some o=>
  rw[q]at h;let a:=UI h;unfold Lo at a;split at a
  .ext a;show#[_,W,W]
  .ext a
def De(s:U6 B K H Z ω)(a:Xb (ow B Z ω) K H Z X ρ):Rl K (ow B Z ω) H (ow B Z ω) X H (a8 ρ):=by
 show#[VZ.refl _,λ_ h=>h,s.owd,s.noO,by ext a8;rw[Us];show a.1,λi x h=>?_,λi j ds es w h=>?_]
 .let(d,rfl,b):=jF h;let(v,g,f):=a.2 i _ b;show#[v,g,f]
 .let(d,e,_):=jF h;ext e
def j6(ω:aJ):RV->RS SV
 |.fz d=>.ok (.fz d) ω
 |.ow ds=>.ok (.rf ω.length) (ω++[.lst (ds.map .fz)])
abbrev PQ(B:bE)(K:lD)(Q:VK):SV->G Uu->aJ->Hp->Prop:=λx P M H'=>∀v,Xn (ow B P M) K H' P v x->Q v H'
theorem iC(O:bE)(Z:G Uu):∀{a:G V} {ds:G D},Wg O K H a ds->W5 O K H Z a (ds.map .fz)
 |_,_,.nil=>.nil
 |_,_,.cons h t=>.cons h (iC O Z t)
theorem Fg:∀{a:G V} {ds:G D},W5 O K H Z a (ds.map .fz)->Wg O K H a ds
 |_,[],.nil=>.nil
 |_,_::_,.cons h t=>.cons h (Fg t)
def qK(s:U6 B K H Z ω)(w:WS K E B H Z ω (PQ B K Q) (j6 ω (.ow ds)))(e:VZ H H')(a:H p=Uo)(h:H' p=S (.lst o))(hd:Wg N K H' o ds)(f:∀b,ow B Z ω b->N b)(g:N p):Q (.ref p) H':=by
 let sub:∀b,ow B (Z++[p]) (ω++[.lst (ds.map .fz)]) b->N b:=λb z=>z.elim (λq=>f b (.inl q)) λq=>(qH s.len q).elim (λq=>f b (.inr q)) λq=>by simp_all
 show w (Z++[p]) H' (Wc.aa7 s.len e a) (s.aa7 e a (by rw[h];simp) #[o,h,iC _ _ (hd.ev (Ev.sub sub))]) (.ref p) #[p,by rw[<-s.len];show aU,W]
def E4(s:U6 B K H Z ω)(w:WS K E B H Z ω (PQ B K Q) (j6 ω o)):Fin (ow B Z ω) K H Q o:=by
 cases o with
 |fz d=>show λv H' e a=>w Z H' (Wc.same e) (s.grow e) v a
 |ow ds=>show λp g H' e f h a=>qK s w e f h a (λb z=>.inl z) (.inr W)
def ae(f:FE):cM:=λρ ω=>match f (a8 ρ)with
 |.ok (.fz d,_)=>.ok (.fz d) ω
 |.ok (.ow ds,_)=>j6 ω (.ow ds)
 |.ok (.pl _,_)=>.bad
 |.er x=>.er x ω
 |.bad=>.bad
def EG(h:EO K E t f):b6 K E t (ae f):=by
 intro B X H Z ω ρ Q s g w;show h (ow B Z ω) H (ow B Z ω) X H (a8 ρ) Q (De s g) ?_;unfold ae at w;cases q:f (a8 ρ)with
 |bad=>rw[q]at w;show w.elim
 |er x=>rw[q]at w;show λc u H' e k=>w c u Z H' (Wc.same e) (s.grow e) k
 |ok r=>
  let(pv,b):=r;rw[q]at w;intro N v H' e R p;cases pv with
  |fz d=>show w Z H' (Wc.same R.same) (s.grow R.same) v (DV.ev (Ev.sub R.bo) p)
  |ow ds=>let(a,y,rfl,n,m,l,j,o):=p;show qK s w R.same m l j R.bo n
  |pl i=>show w.elim
def bM(f:FT):qE:=λρ ω=>match f (a8 ρ)with
 |.ok (b,_)=>.ok b ω
 |.er x=>.er x ω
 |.bad=>.bad
def Es(h:TTO K E t f):rB K E t (bM f):=by
 intro B X H Z ω ρ Q s g w;show h (ow B Z ω) H (ow B Z ω) X H (a8 ρ) Q (De s g) ?_;unfold bM at w;cases q:f (a8 ρ)with
 |bad=>rw[q]at w;show w.elim
 |er x=>rw[q]at w;show λc i H' e k=>w c i Z H' (Wc.same e) (s.grow e) k
 |ok r=>let(b,a):=r;rw[q]at w;show λN H' e R=>w Z H' (Wc.same R.same) (s.grow R.same)
def am(i:Nat):cM:=λρ ω=>match ρ[i]? with
 |some (S x)=>.ok x ω
 |_=>.bad
def IP:b6 K E (oK i) (am i):=by
 intro B X H Z ω ρ Q s a w;unfold am at w;cases q:ρ[i]? with
 |none=>rw[q]at w;show w.elim
 |some o=>
  cases o with
  |none=>rw[q]at w;show w.elim
  |some x=>rw[q]at w;let(v,e,b):=a.2 i x q;show#[v,e,WS.now s w v b]
def jV(K:lD)(C:Str)(fs:G Str):Prop:=∃a,UU K UL C=S (S (.ref a))/\Cls K a/\∀f∈fs,Yf K a f
def aV(C f:Str)(e:cM):cM:=λρ ω=>(e ρ ω).bind λx I=>match x with
 |.rf i=>(match I[i]? with
  |some (.obj D fs)=>if D=C then RS.Vu I (fs.lookup f)else .bad
  |_=>.bad)
 |_=>.bad
def AN:∀{ws:G (Str×V)} {fs:G (Str×SV)},Paired (λ(p:Str×V) (q:Str×SV)=>p.1=q.1/\Xn O K H Z p.2 q.2) ws fs->fs.lookup f=S x->∃v,ws.lookup f=S v/\Xn O K H Z v x:=by
 intro ws fs p
 induction p with
 |nil=>intro h;ext h
 | @cons a b _ _ q t i=>
  let(a,v):=a;let(b,y):=b;let(g,e):=q;intro h;ext g;rw[Vi]at h⊢;split at h
  .ext h;show#[v,W,e]
  .show i h
def Bi:∀{ws:G (Str×V)} {fs:G (Str×SV)},Paired (λ(p:Str×V) (q:Str×SV)=>p.1=q.1/\Xn O K H Z p.2 q.2) ws fs->fs.lookup f=Uo->ws.lookup f=Uo:=by
 intro ws fs p
 induction p with
 |nil=>intro h;rfl
 | @cons a b _ _ q t i=>
  let(a,v):=a;let(b,y):=b;let(e,g):=q;intro h;ext e;rw[Vi]at h⊢;split at h
  .ext h
  .show i h
def J0(o:jV K C L)(n:f∈L)(k:b6 K E ta fa):b6 K E (Oi K ta f) (aV C f fa):=by
 intro B X H Z ω ρ Q s h w;show k B X H Z ω ρ _ s h (w.bind.imp λx Y I U e1 e b v j=>?_);cases x with
 |fz d=>show b.elim
 |tp l=>show b.elim
 |rf i=>
  let(a,k,rfl):=j;dsimp only at b;cases q:I[i]? with
  |none=>rw[q]at b;show b.elim
  |some c=>
   rw[q]at b;cases c with
   |obj D fs=>
    dsimp only at b;by_cases z:D=C
    .subst z
     rw[ax W]at b;let(F,dx,ws,t,r,p):=e.cel i a _ k q;cases ql:fs.lookup f with
     |none=>rw[ql]at b;show b.elim
     |some x=>rw[ql]at b;let(u,m,g):=AN p ql;let(G,g0,A,y):=o;rw[t]at g0;ext g0;show#[a,F,dx,ws,u,W,r,A,y f n,m,WS.now e b u g]
    .rw[a4 z]at b;show b.elim
   |_=>show b.elim
def aA{Z a:Type}(f:Z->z a):G Z->z (G a)
 |[]=>S []
 |x::r=>match f x with
  |some y=>(match aA f r with
   |some b=>S (y::b)
   |none=>Uo)
  |none=>Uo
def tR:Nat->aJ->SV->z D
 |_,_,.fz d=>S d
 |0,_,_=>Uo
 |n+1,ω,.rf i=>match ω[i]? with
  |some (.lst xs)=>(aA (tR n ω) xs).map .list
  |_=>Uo
 |n+1,ω,.tp l=>(aA (λx=>tR n ω x.sv) l).map .tuple
theorem cK{Z a:Type}{f:Z->z a}{R:V->Z->Prop}{S:V->a->Prop}(h:∀v x y,R v x->f x=cL y->S v y):∀{c:G V} {xs:G Z} {g:G a},Paired R c xs->aA f xs=cL g->Paired S c g
 |_,_,_,.nil,e=>by ext e;show .nil
 |_,_,_,.cons (b:=x) (l₂:=xs) r t,e=>by
  unfold aA at e;cases q:f x with
  |none=>simp_all
  |some y=>
   rw[q]at e;dsimp only at e;cases i:aA f xs with
   |none=>simp_all
   |some g=>rw[i]at e;ext e;show .cons (h _ _ _ r q) (cK h t i)
def ky:∀{b:G V} {ds:G D},Paired (DV O K H) b ds->Wg O K H b ds:=by
 intro _ _ p
 induction p with
 |nil=>show .nil
 |cons h t a=>show .cons h a
theorem Me:Ev O H noO H:=Ev.sub λ_ z=>z.elim
theorem iy(s:U6 B K H Z ω):∀(n:Nat) {v:V} {x:SV} {d:D},Xn (ow B Z ω) K H Z v x->tR n ω x=S d->DV noO K H v d
 |n,v,.fz o,d,h,e=>by
  let g:S o=S d:=by ext n<;>show e
  ext g;show DV.ev Me h
 |0,v,.rf i,d,h,e=>by ext e
 |0,v,.tp l,d,h,e=>by ext e
 |n+1,v,.rf i,d,h,e=>by
  let(a,m,rfl):=h;unfold tR at e;cases q:ω[i]? with
  |none=>simp_all
  |some c=>
   rw[q]at e;cases c with
   |lst xs=>
    dsimp only at e;cases j:aA (tR n ω) xs with
    |none=>simp_all
    |some ds=>rw[j]at e;ext e;let(p,f,b):=s.cel i a _ m q;show .lst #[X7.of f,λz=>z.elim] (ky (cK (R:=Xn (ow B Z ω) K H Z) (λv x y r e=>iy s n r e) b j))
   |_=>ext e
 |n+1,v,.tp l,d,h,e=>by
  let(a,xs,rfl,f,b):=h;unfold tR at e;cases j:aA (λx=>tR n ω x.sv) l with
  |none=>simp_all
  |some ds=>rw[j]at e;ext e;show .tup (f.ev Me) (ky (cK (λv x y r e=>iy s n (by ext x<;>show r) e) b j))
def vB:SV->z D
 |.fz d=>S d
 |_=>Uo
def sh(ω:aJ):SV->z D
 |.fz d=>S d
 |.rf i=>match ω[i]? with
  |some (.lst xs)=>(aA vB xs).map .list
  |_=>Uo
 |.tp _=>Uo
def F8(s:U6 B K H Z ω)(h:Xn (ow B Z ω) K H Z v x)(e:sh ω x=S d):DX (ow B Z ω) K H v d:=by
 cases x with
 |fz g=>ext e;show DV.x h
 |tp l=>ext e
 |rf i=>
  let(a,n,rfl):=h;unfold sh at e;dsimp only at e;cases q:ω[i]? with
  |none=>simp_all
  |some c=>
   rw[q]at e;cases c with
   |lst xs=>
    dsimp only at e;cases j:aA vB xs with
    |none=>simp_all
    |some ds=>
     rw[j]at e;ext e;let(m,f,b):=s.cel i a _ n q;show#[a,m,W,X7.of f,ky (cK (λv x y r e=>?_) b j)];cases x with
     |fz d=>ext e;show r
     |rf i=>ext e
     |tp l=>ext e
   |_=>ext e
def yr:D->Bool
 |.none=>R
 |.bool _=>R
 |.int _=>R
 |.str _=>R
 |_=>A
def Kl(h:yr d=R)(a:DV O K H v d):DV N K H' v d:=by
 cases a with
 |Wu=>show .Wu
 |bl b=>show .bl b
 |int i=>show .int i
 |str x=>show .str x
 |tup _ _=>ext h
 |lst _ _=>ext h
def vH(ω:aJ):RV->RS SV
 |.fz d=>if yr d=R then .ok (.fz d) ω else .bad
 |.ow _=>.bad
def Gg(s:U6 B K H Z ω)(w:WS K E B H Z ω (PQ B K Q) (vH ω o)):Fin noO K H Q o:=by
 cases o with
 |fz d=>
  let w:WS K E B H Z ω (PQ B K Q) (if yr d=R then RS.ok (SV.fz d) ω else RS.bad):=w;by_cases z:yr d=R
  .rw[ax z]at w;show λv H' e a=>w Z H' (Wc.same e) (s.grow e) v (Kl z a)
  .rw[a4 z]at w;show w.elim
 |ow ds=>show w.elim
theorem Er:kR noO H:=λ_ _ z=>z
def tj(f:D->D->z RV)(x y:SV)(ω:aJ):RS SV:=match sh ω x,sh ω y with
 |some g,S b=>(RS.Vu ω (f g b)).bind λe I=>j6 I e
 |_,_=>(RS.Vu ω (tR 6 ω x)).bind λg I=>(RS.Vu I (tR 6 I y)).bind λb T=>(RS.Vu T (f g b)).bind λe a=>vH a e
def CJ(n:jL K r f)(s:U6 B K H Z ω)(m:Xn (ow B Z ω) K H Z x a)(l:Xn (ow B Z ω) K H Z y b)(w:WS K E B H Z ω (PQ B K Q) (tj f a b ω)):r x y H Q:=by
 let o:WS K E B H Z ω (PQ B K Q) ((RS.Vu ω (tR 6 ω a)).bind λq I=>(RS.Vu I (tR 6 I b)).bind λe T=>(RS.Vu T (f q e)).bind λp i=>vH i p)->r x y H Q:=λw=>by let(q,h,w):=w.Vu;let(e,g,w):=w.Vu;let(p,j,w):=w.Vu;show n noO H x y q e p Q Er (DV.x (iy s 6 m h)) (DV.x (iy s 6 l g)) j (Gg s w)
 unfold tj at w;cases h:sh ω a with
 |none=>simp_all
 |some q=>
  cases g:sh ω b with
  |none=>simp_all
  |some e=>rw[h,g]at w;let(p,j,w):=w.Vu;show n _ H x y q e p Q s.noO (F8 s m h) (F8 s l g) j (E4 s w)
def iS(f:D->D->z RV)(b a:cM):cM:=λρ ω=>(b ρ ω).bind λx I=>(a ρ I).bind λy T=>tj f x y T
def E3(l:jL K r f)(c:b6 K E C fa)(m:b6 K E o fb):b6 K E (D7 r C o) (iS f fa fb):=by intro B X H Z ω ρ Q s a w;show c B X H Z ω ρ _ s a (w.bind.imp λx Y I U e1 h e v i=>?_);show m B X U Y I ρ _ h (a.WQ e1) (e.bind.imp λy J T H2 e2 g b u j=>?_);show CJ l g (i.WQ e2) j b
def Ki:SV->z Bool
 |.fz (.bool b)=>S b
 |_=>Uo
def Hq(e:Ki x=S b)(h:Xn O K H Z v x):v=.bl b:=by
 unfold Ki at e;split at e
 .ext e;ext h;rfl
 .ext e
def aQ(a:cM):qE:=λρ ω=>(a ρ ω).bind λx I=>RS.Vu I (Ki x)
def qu(c:b6 K E o C):rB K E (AI o) (aQ C):=by
 intro B X H Z ω ρ Q s e w;show c B X H Z ω ρ _ s e (w.bind.imp λx Y I U e1 f a v g=>?_);cases q:Ki x with
 |none=>rw[q]at a;show a.elim
 |some b=>rw[q]at a;show#[b,Hq q g,WS.now f a]
theorem Ff(a:b6 K E o C):rB K E (tB o) (aQ C):=qu a
def kB(c a:qE):qE:=λρ ω=>(c ρ ω).bind λb I=>if b=R then a ρ I else .ok A I
def uV(c a:qE):qE:=λρ ω=>(c ρ ω).bind λb I=>if b=R then .ok R I else a ρ I
def kJ(a:qE):qE:=λρ ω=>(a ρ ω).bind λb I=>.ok (!b) I
def Hd(j:rB K E t f)(i:rB K E u g):rB K E (N0 t u) (kB f g):=by
 intro B X H Z ω ρ Q s e w;show j B X H Z ω ρ _ s e (w.bind.imp λb Y I U e1 h a=>?_);cases b with
 |true=>show i B X U Y I ρ Q h (e.WQ e1) a
 |false=>show WS.now h a
def Nh(j:rB K E t f)(i:rB K E u g):rB K E (RY t u) (uV f g):=by
 intro B X H Z ω ρ Q s e w;show j B X H Z ω ρ _ s e (w.bind.imp λb Y I U e1 h a=>?_);cases b with
 |true=>show WS.now h a
 |false=>show i B X U Y I ρ Q h (e.WQ e1) a
def Iy(h:rB K E t f):rB K E (HW t) (kJ f):=by intro B X H Z ω ρ Q s e w;show h B X H Z ω ρ _ s e (w.bind.imp λb Y I U e1 g a=>WS.now g a)
def hG:qE:=λ_ ω=>.ok R ω
theorem D1:rB K E Fo hG:=λB X H Z ω ρ Q s a w=>WS.now s w
def vW(c a:cM):cM:=λρ ω=>(aQ c ρ ω).bind λb I=>if b=R then a ρ I else .ok (.fz (.bool A)) I
def Jn(d:b6 K E C fa)(g:b6 K E o fb):b6 K E (zk C o) (vW fa fb):=by
 intro B X H Z ω ρ Q s e w;show qu d B X H Z ω ρ (λc U=>if c=R then o X U Q else Q (.bl A) U) s e (w.bind.imp λb Y I U e1 f a=>?_);cases b with
 |true=>show g B X U Y I ρ Q f (e.WQ e1) a
 |false=>show WS.now f a _ (.bl A)
def LM(c:qE)(d a:cM):cM:=λρ ω=>(c ρ ω).bind λb I=>if b=R then d ρ I else a ρ I
def MO(g:rB K E t c)(d:b6 K E C fa)(h:b6 K E o fb):b6 K E (Sf t C o) (LM c fa fb):=by
 intro B X H Z ω ρ Q s a w;show g B X H Z ω ρ _ s a (w.bind.imp λb Y I U e1 f e=>?_);cases b with
 |true=>show d B X U Y I ρ Q f (a.WQ e1) e
 |false=>show h B X U Y I ρ Q f (a.WQ e1) e
def aC:wM:=λ_ ω=>.ok [] ω
def ah(b:cM)(a:wM):wM:=λρ ω=>(b ρ ω).bind λx I=>(a ρ I).bind λxs T=>.ok (x::xs) T
theorem z9:sO K E iq aC:=λB X H Z ω ρ Q s a w=>WS.now s w [] .nil
def D3(c:b6 K E o C)(j:sO K E tr fr):sO K E (eO o tr) (ah C fr):=by intro B X H Z ω ρ Q s b w;show c B X H Z ω ρ _ s b (w.bind.imp λx Y I U e1 h f v i=>?_);show j B X U Y I ρ _ h (b.WQ e1) (f.bind.imp λxs J T H2 e2 g e l a=>?_);show WS.now g e (v::l) (.cons (i.WQ e2) a)
def Sb:SV->z AV
 |.fz d=>S (.fz d)
 |.rf i=>S (.rf i)
 |.tp _=>Uo
def Sg(xs:G SV):z SV:=match aA vB xs with
 |some ds=>S (.fz (.tuple ds))
 |none=>(aA Sb xs).map .tp
def kr(a:wM):cM:=λρ ω=>(a ρ ω).bind λxs I=>if xs.length<=1000 then RS.Vu I (Sg xs)else .bad
def yD(r:Xn O K H Z v x)(e:vB x=S d):DV O K H v d:=by
 cases x with
 |fz d=>ext e;show r
 |rf i=>ext e
 |tp l=>ext e
def Nf(r:Xn O K H Z v x)(e:Sb x=S d):AOk O K H Z v d:=by
 cases x with
 |fz d=>ext e;show r
 |rf i=>ext e;show r
 |tp l=>ext e
def HH(c:sO K E C fa):b6 K E (Gz C) (kr fa):=by
 intro B X H Z ω ρ Q s m w;show c B X H Z ω ρ _ s m (w.bind.imp λxs Y I U e1 f a n g=>?_);by_cases hn:xs.length<=1000
 .rw[ax hn]at a
  show#[by rw[g.length];show yz hn,λp j=>?_];let b:VZ U (aW U p (.tup n)):=bj j _;let e:Wc Y I U Y I (aW U p (.tup n)):=Wc.same b;let i:YO (ow B Y I) K (aW U p (.tup n)) p n:=#[Yt.of av,λz=>bg z (f.noO p j)];unfold Sg at a;cases q:aA vB xs with
  |some ds=>rw[q]at a;show a Y _ e (f.grow b) _ (.tup i (ky (cK (R:=Xn (ow B Y I) K U Y) (λv x y r h=>(yD r h).ev e.ev) g q)))
  |none=>
   rw[q]at a;dsimp only at a;cases o:aA Sb xs with
   |none=>rw[o]at a;show a.elim
   |some l=>rw[o]at a;show a Y _ e (f.grow b) _ #[p,n,W,i,cK (R:=Xn (ow B Y I) K U Y) (λv x y r h=>(Nf r h).ev e.ev e.pre) g o]
 .rw[a4 hn]at a;show a.elim
def C4(f:G D->z RV)(xs:G SV)(ω:aJ):RS SV:=match aA (sh ω) xs with
 |some ds=>(RS.Vu ω (f ds)).bind λb I=>j6 I b
 |_=>(RS.Vu ω (aA (tR 6 ω) xs)).bind λds I=>(RS.Vu I (f ds)).bind λb a=>vH a b
def pL(f:G D->z RV)(a:wM):cM:=λρ ω=>(a ρ ω).bind λxs I=>C4 f xs I
def Nq(i:B7 K r f)(c:sO K E C fa):b6 K E (zP r C) (pL f fa):=by
 intro B X H Z ω ρ Q s j w;show c B X H Z ω ρ _ s j (w.bind.imp λxs Y I U e1 b a o h=>?_);unfold C4 at a;cases n:aA (sh I) xs with
 |none=>rw[n]at a;let(ds,l,a):=a.Vu;let(m,g,a):=a.Vu;show i noO U o ds m Q Er (cK (R:=Xn (ow B Y I) K U Y) (λv x y r e=>DV.x (iy b 6 r e)) h l) g (Gg b a)
 |some ds=>rw[n]at a;let(m,g,a):=a.Vu;show i _ U o ds m Q b.noO (cK (R:=Xn (ow B Y I) K U Y) (λv x y r e=>F8 b r e) h n) g (E4 b a)
end
section
variable{B O O':bE}{K:lD}{E:XK}{H H' N M:Hp}{Z L U T:b3 Uu}{ω X ω1 Y:aJ}{S:L2.St}{ρ:aP}{v:V}
theorem xJ:∀{c:G V} {xs:G β} {i:Nat} {x:β},Paired f c xs->xs[i]?=cL x->∃v,c[i]?=cL v/\f v x
 |_,_,_,_,.nil,e=>by simp at e
 |_,_,0,_,.cons h _,e=>by simp_all
 |_,_,i+1,x,.cons _ t,e=>by let(v,b,a):=xJ t (by simpa using e);simp_all
def LL{b:G V}(h:Paired a b xs)(e:jS xs i=cL x):∃v,jS b i=cL v/\a v x:=by
 unfold jS at e⊢;rw[h.length];cases q:LJ xs.length i with
 |none=>simp_all
 |some j=>rw[q]at e;show xJ h e
def AU:SV->z Int
 |.fz (.int i)=>cL i
 |_=>P
def An(e:AU x=cL i)(h:Xn O K H Z v x):v=.int i:=by
 unfold AU at e;split at e
 .ext e;ext h;rfl
 .ext e
def GY(x y:SV)(ω:aJ):RS SV:=match x with
 |.fz _=>tj aZ x y ω
 |.rf j=>(match ω[j]? with
  |some (.lst xs)=>(RS.Vu ω (AU y)).bind λi ω1=>RS.Vu ω1 (jS xs i)
  |_=>.bad)
 |.tp l=>(RS.Vu ω (AU y)).bind λi ω1=>RS.Vu ω1 ((jS l i).map AV.sv)
def gh(b a:cM):cM:=λρ ω=>(b ρ ω).bind λx ω1=>(a ρ ω1).bind λy Y=>GY x y Y
def OJ(k:b6 K E ta fa)(C:b6 K E tb fb):b6 K E (D7 (RD K) ta tb) (gh fa fb):=by
 intro B S H Z ω ρ Q s r w;show k B S H Z ω ρ _ s r (w.bind.imp λx U ω1 N e1 A t v e=>?_);show C B S N U ω1 ρ _ A (r.WQ e1) (t.bind.imp λy T Y M e2 f b u n=>?_);let e:=e.WQ e2;unfold GY at b;cases x with
 |fz d=>show CJ Du f e n b
 |rf j=>
  let(a,k,rfl):=e;dsimp only at b;cases q:Y[j]? with
  |none=>rw[q]at b;show b.elim
  |some c=>
   rw[q]at b;cases c with
   |lst xs=>
    let(i,h,b):=WS.Vu b;cases I:jS xs i with
    |none=>rw[I]at b;show b.elim
    |some x=>rw[I]at b;let(J,p,o):=f.cel j a _ k q;let(z,m,g):=LL o I;show .inl #[a,J,i,z,W,An h n,Ys.of p,m,WS.now f b z g]
   |_=>show b.elim
 |tp l=>
  let(a,xs,rfl,p,o):=e;let(i,h,b):=WS.Vu b;cases I:jS l i with
  |none=>rw[I]at b;show b.elim
  |some x=>rw[I]at b;let(z,m,g):=LL o I;show .inr (.inl #[a,xs,i,z,W,An h n,p.1,m,WS.now f b z (by ext x<;>show g)])
def sQ(h:Lv Z (ω.set i .dead) b):Lv Z ω b:=by
 let(j,c,f,a,e):=h;rcases bH a with⟨rfl,rfl⟩|⟨_,a⟩
 .simp_all
 .show#[j,c,f,a,e]
theorem Wc.kill:Wc Z ω H Z (ω.set i .dead) H:=#[λ_ _ h=>h,λ_ _ h _=>h,λ_ h=>.inl (sQ h)]
def U6.kill(s:U6 B K H Z ω)(i:Nat):U6 B K H Z (ω.set i .dead):=by
 let e:Wc Z ω H Z (ω.set i .dead) H:=Wc.kill;show#[by rw[Vy];show s.len,s.nd,s.bn,s.ba,s.al,λj b d f a=>?_];rcases bH a with⟨rfl,rfl⟩|⟨g,a⟩
 .show trivial
 .show(s.cel j b d f a).ev e.ev e.pre λu q=>q
def U6.ac9(s:U6 B K H Z ω)(d:Z[i]?=cL a):¬ow B Z (ω.set i .dead) a:=by
 rintro(z|⟨j,c,f,e,b⟩)
 .show s.adX d z
 .let:=s.nd j i a f d
  subst this;rcases bH e with⟨_,rfl⟩|⟨g,_⟩
  .show b W
  .show g W
def lz(g:aJ->SV->z (D×aJ)):aJ->G SV->z (G D×aJ)
 |ω,[]=>cL ([],ω)
 |ω,x::r=>match g ω x with
  |some (d,ω1)=>(match lz g ω1 r with
   |some (ds,Y)=>cL (d::ds,Y)
   |none=>P)
  |none=>P
def frz:Nat->aJ->SV->z (D×aJ)
 |_,ω,.fz d=>cL (d,ω)
 |0,_,_=>P
 |n+1,ω,.rf i=>match ω[i]? with
  |some (.lst xs)=>(match lz (frz n) ω xs with
   |some (ds,ω1)=>cL (.list ds,ω1.set i .dead)
   |none=>P)
  |_=>P
 |n+1,ω,.tp l=>match lz (frz n) ω (l.map AV.sv)with
  |some (ds,ω1)=>cL (.tuple ds,ω1)
  |none=>P
theorem uL(a:∀{ω X:aJ} {v:V} {x:SV} {d:D},U6 B K H Z ω->Xn (ow B Z ω) K H Z v x->g ω x=cL (d,X)->U6 B K H Z X/\Wc Z ω H Z X H/\L3.DV (ow B Z X) K H v d):
  ∀{c:G V} {xs:G SV} {ds:G D} {ω X:aJ},U6 B K H Z ω->W5 (ow B Z ω) K H Z c xs->lz g ω xs=cL (ds,X)->U6 B K H Z X/\Wc Z ω H Z X H/\L3.Wg (ow B Z X) K H c ds
 |_,_,_,ω,X,s,.nil,e=>by ext e;show#[s,.refl,.nil]
 |_,_,_,ω,X,s,.cons (b:=x) (l₂:=xs) r t,e=>by
  unfold lz at e;cases q:g ω x with
  |none=>simp_all
  |some p=>
   let(d,ω1):=p;rw[q]at e;dsimp only at e;let(h,e1,l):=a s r q;cases m:lz g ω1 xs with
   |none=>simp_all
   |some i=>let(ds,Y):=i;rw[m]at e;ext e;let(f,e2,j):=uL a h (W5.WQ e1 t) m;show#[f,e1.trans e2,.cons (l.ev e2.ev) j]
theorem um:∀{a:G V} {l:G AV},Paired (AOk O K H Z) a l->W5 O K H Z a (l.map AV.sv)
 |_,_,.nil=>.nil
 |_,_,.cons (b:=x) h t=>.cons (by ext x<;>show h) (um t)
theorem tO:∀(n:Nat) {ω X:aJ} {v:V} {x:SV} {d:D},U6 B K H Z ω->Xn (ow B Z ω) K H Z v x->frz n ω x=cL (d,X)->U6 B K H Z X/\Wc Z ω H Z X H/\L3.DV (ow B Z X) K H v d
 |n,ω,X,v,.fz t,d,s,h,e=>by
  let m:cL (t,ω)=cL (d,X):=by ext n<;>show e
  ext m;show#[s,.refl,h]
 |0,_,_,v,.rf i,d,s,h,e=>by ext e
 |0,_,_,v,.tp l,d,s,h,e=>by ext e
 |n+1,ω,X,v,.rf i,d,s,h,e=>by
  let(a,r,rfl):=h;unfold frz at e;cases q:ω[i]? with
  |none=>simp_all
  |some c=>
   rw[q]at e;cases c with
   |lst xs=>
    dsimp only at e;let(u,g,f):=s.cel i a _ r q;cases o:lz (frz n) ω xs with
    |none=>simp_all
    |some p=>let(ds,ω1):=p;rw[o]at e;ext e;let(b,e1,j):=uL (λs h e=>tO n s h e) s f o;show#[b.kill i,e1.trans Wc.kill,uD g (b.ac9 r) (j.ev (Wc.kill).ev)]
   |_=>ext e
 |n+1,ω,X,v,.tp l,d,s,h,e=>by
  let(a,xs,rfl,g,f):=h;unfold frz at e;cases o:lz (frz n) ω (l.map AV.sv)with
  |none=>simp_all
  |some p=>let(ds,ω1):=p;rw[o]at e;ext e;let(b,e1,j):=uL (λs h e=>tO n s h e) s (um f) o;show#[b,e1,.tup (g.ev e1.ev) j]
def Nt(x:SV)(ω:aJ):RS SV:=match frz 4 ω x with
 |some (d,ω1)=>.ok (.fz d) ω1
 |none=>.bad
def l7(f:cM):cM:=λρ ω=>(f ρ ω).bind λx ω1=>Nt x ω1
def Ad(h:b6 K E t f):b6 K E t (l7 f):=by
 intro B S H Z ω ρ Q s b w;show h B S H Z ω ρ _ s b (w.bind.imp λx U ω1 N e1 g a v i=>?_);unfold Nt at a;cases q:frz 4 ω1 x with
 |none=>rw[q]at a;show a.elim
 |some p=>let(d,Y):=p;rw[q]at a;let(e,e2,j):=tO 4 g i q;show a U N e2 e v j
def XOk.sub(h:∀b,O' b->O b)(k:XOk K O H c dx x):XOk K O' H c dx x:=by let(i,fs,g,a):=k;show#[i,fs,g,λf d e=>let#[g1,v,g2,g3]:=a f d e;#[g1,v,g2,g3.ev (Ev.sub h)]]
def vM(F:FN)(n:Nat)(xs:G SV)(ω:aJ):RS SV:=if xs.length=n then(match aA vB xs with
 |some ds=>(match F ds with
  |.ok a=>j6 ω a
  |.er x=>.er x ω
  |.bad=>.bad)
 |none=>(RS.Vu ω (aA (tR 6 ω) xs)).bind λds ω1=>(match F ds with
  |.ok a=>vH ω1 a
  |_=>.bad))else .bad
def eF:RS a->RS a
 |.er _ _=>.bad
 |r=>r
def gP(F:FN)(n:Nat)(a:wM):cM:=λρ ω=>(a ρ ω).bind λxs ω1=>eF (vM F n xs ω1)
def WS.e0(h:WS K E B H Z ω b (eF r)):WS K E0 B H Z ω b r:=by
 cases r with
 |ok a ω=>show h
 |er x ω=>show h.elim
 |bad=>show h
def KA(s:U6 B K H Z ω)(b:W5 (ow B Z ω) K H Z o xs)(w:WS K E B H Z ω (PQ B K Q) (vM F n xs ω)):Bh K n F o H Q E:=by
 unfold vM at w;by_cases hn:xs.length=n
 .rw[ax hn]at w
  show#[b.length.trans hn,?_];cases q:aA vB xs with
  |some ds=>
   rw[q]at w;show#[ow B Z ω,ds,s.owd,ky (cK (R:=Xn (ow B Z ω) K H Z) (λv x y r e=>yD r e) b q),?_];dsimp only at w;cases g:F ds with
   |ok h=>rw[g]at w;show E4 s w
   |er x=>rw[g]at w;show λc i H' e k=>w c i Z H' (Wc.same e) (s.grow e) k
   |bad=>rw[g]at w;show w.elim
  |none=>
   rw[q]at w;let(ds,f,w):=WS.Vu w;show#[noO,ds,λa z=>z.elim,ky (cK (R:=Xn (ow B Z ω) K H Z) (λv x y r e=>iy s 6 r e) b f),?_];cases g:F ds with
   |ok h=>rw[g]at w;show Gg s w
   |er x=>rw[g]at w;show w.elim
   |bad=>rw[g]at w;show w.elim
 .rw[a4 hn]at w;show w.elim
def Hb(c:sO K E o C):b6 K E (jp (Bh K n F) [] E0 o) (gP F n C):=by intro B S H Z ω ρ Q s b w;show c B S H Z ω ρ _ s b (w.bind.imp λxs U ω1 N e1 e a g f=>?_);rw[U9];show KA e f (WS.e0 a)
abbrev fD:=G SV->aJ->RS SV
def jW(K:lD)(n:Nat)(F:fD):Sp:=λa H Q E=>a.length=n/\∃(B:bE) (Z:G Uu) (ω:aJ) (xs:G SV),U6 B K H Z ω/\W5 (ow B Z ω) K H Z a xs/\WS K E B H Z ω (PQ B K Q) (F xs ω)
def pX(F:fD)(n:Nat)(a:wM):cM:=λρ ω=>(a ρ ω).bind λxs ω1=>if xs.length=n then eF (F xs ω1)else .bad
def B0(c:sO K E o C):b6 K E (jp (jW K n F) [] E0 o) (pX F n C):=by
 intro B S H Z ω ρ Q s e w;show c B S H Z ω ρ _ s e (w.bind.imp λxs U ω1 N e1 f a g b=>?_);rw[U9];by_cases hn:xs.length=n
 .rw[ax hn]at a;show#[b.length.trans hn,B,U,ω1,xs,f,b,WS.e0 a]
 .rw[a4 hn]at a;show a.elim
def j8(ω:aJ)(C m:Str):SV->Bool
 |.rf i=>match ω[i]? with
  |some (.obj D fs)=>decide (D=C)&&(fs.lookup m).isNone
  |_=>A
 |_=>A
def iT(C m:Str)(F:fD)(n:Nat)(a:cM)(b:wM):cM:=λρ ω=>(a ρ ω).bind λx ω1=>if j8 ω1 C m x=R then(b ρ ω1).bind λxs Y=>(if(x::xs).length=n then F (x::xs) Y else .bad)else .bad
def aK(C m:Str)(F:fD)(n:Nat)(a:cM)(b:wM):cM:=λρ ω=>(a ρ ω).bind λx ω1=>if j8 ω1 C m x=R then(b ρ ω1).bind λxs Y=>(if(x::xs).length=n then eF (F (x::xs) Y)else .bad)else .bad
def Dg(f:UU K UL C=cL (cL (.ref I)))(s:U6 B K H Z ω)(b:Xn (ow B Z ω) K H Z v x)(h:j8 ω C m x=R):∃a k fs,v=.ref a/\H a=cL (.ins I k fs)/\fs.lookup m=P:=by
 cases x with
 |fz d=>ext h
 |tp l=>ext h
 |rf i=>
  let(a,r,rfl):=b;unfold j8 at h;dsimp only at h;cases q:ω[i]? with
  |none=>simp_all
  |some c=>
   rw[q]at h;cases c with
   |obj D fs=>rw[Ur]at h;let(j,g):=h;let e:=a7 j;subst e;let(p,k,ws,g0,o,n):=s.cel i a _ r q;rw[f]at g0;ext g0;show#[a,k,ws,W,o,Bi n (aaf.mp g)]
   |_=>ext h
def CM(q:UU K UL C=cL (cL (.ref Ca)))(p:b6 K E to J)(c:sO K E I fa):b6 K E (rQ Ca m (jW K n F) [] E to I) (iT C m F n J fa):=by
 intro B S H Z ω ρ Q s g w;show p B S H Z ω ρ _ s g (w.bind.imp λx U ω1 N e1 i e v j=>?_);by_cases h:j8 ω1 C m x=R
 .rw[ax h]at e
  let(a,y,fs,rfl,t,r):=Dg q i j h;show#[a,y,fs,W,t,r,?_];show c B S N U ω1 ρ _ i (g.WQ e1) (e.bind.imp λxs T Y M e2 o b u f=>?_);rw[U9];let l:W5 (ow B T Y) K M T (.ref a::u) (x::xs):=.cons (j.WQ e2) f;by_cases hn:(x::xs).length=n
  .rw[ax hn]at b;show#[l.length.trans hn,B,T,Y,_,o,l,b]
  .rw[a4 hn]at b;show b.elim
 .rw[a4 h]at e;show e.elim
def B2(q:UU K UL C=cL (cL (.ref Ca)))(p:b6 K E to J)(c:sO K E I fa):b6 K E (rQ Ca m (jW K n F) [] E0 to I) (aK C m F n J fa):=by
 intro B S H Z ω ρ Q s g w;show p B S H Z ω ρ _ s g (w.bind.imp λx U ω1 N e1 i e v j=>?_);by_cases h:j8 ω1 C m x=R
 .rw[ax h]at e
  let(a,y,fs,rfl,t,r):=Dg q i j h;show#[a,y,fs,W,t,r,?_];show c B S N U ω1 ρ _ i (g.WQ e1) (e.bind.imp λxs T Y M e2 o b u f=>?_);rw[U9];let l:W5 (ow B T Y) K M T (.ref a::u) (x::xs):=.cons (j.WQ e2) f;by_cases hn:(x::xs).length=n
  .rw[ax hn]at b;show#[l.length.trans hn,B,T,Y,_,o,l,WS.e0 b]
  .rw[a4 hn]at b;show b.elim
 .rw[a4 h]at e;show e.elim
def AX:SV->Bool
 |.fz .none=>R
 |_=>A
def rK(C:Str)(F:fD)(n:Nat)(xs:G SV)(ω:aJ):RS SV:=if(SV.rf ω.length::xs).length=n then(F (.rf ω.length::xs) (ω++[.obj C []])).bind λr Y=>(if AX r=R then .ok (.rf ω.length) Y else .bad)else .bad
def AR(C:Str)(F:fD)(n:Nat)(a:wM):cM:=λρ ω=>(a ρ ω).bind λxs ω1=>rK C F n xs ω1
def pT(C:Str)(F:fD)(n:Nat)(a:wM):cM:=λρ ω=>(a ρ ω).bind λxs ω1=>eF (rK C F n xs ω1)
def Iv(h:AX x=R)(a:Xn O K H Z v x):v=.Wu:=by
 unfold AX at h;split at h
 .ext a;rfl
 .ext h
def FQ(p:UU K UL C=cL (cL (.ref I)))(s:U6 B K H Z ω)(o:W5 (ow B Z ω) K H Z J xs)(w:WS K E B H Z ω (PQ B K Q) (rK C F n xs ω)):
  ∀x c,H x=P->H c=P->c≠x->jW K n F (.ref x::(J++[])) (aW (aW H c (.own x)) x (.ins I c [])) (λv M=>v=.Wu/\Q (.ref x) M) E:=by
 intro x c f h q;rw[U9];unfold rK at w;let i:VZ H (aW (aW H c (.own x)) x (.ins I c [])):=(bj h _).trans (bj (by rw[ar (λz=>q z.symm)];show f) _);let e:Wc Z ω H (Z++[x]) (ω++[.obj C []]) (aW (aW H c (.own x)) x (.ins I c [])):=Wc.aa7 s.len i f;let m:U6 B K (aW (aW H c (.own x)) x (.ins I c [])) (Z++[x]) (ω++[.obj C []]):=s.aa7 i f (by rw[av];simp) #[I,c,[],p,av,.nil];let a:∀{L:G Uu} {X:aJ} {H':Hp},Wc (Z++[x]) (ω++[.obj C []]) (aW (aW H c (.own x)) x (.ins I c [])) L X H'->Xn (ow B L X) K H' L (.ref x) (.rf ω.length):=λe=>#[x,e.pre _ _ (by rw[<-s.len];show aU),W];by_cases hn:(SV.rf ω.length::xs).length=n
 .rw[ax hn]at w
  let j:W5 (ow B (Z++[x]) (ω++[.obj C []])) K (aW (aW H c (.own x)) x (.ins I c [])) (Z++[x]) (.ref x::J) (.rf ω.length::xs):=.cons (a .refl) (W5.WQ e o);show#[j.length.trans hn,B,_,_,_,m,j,?_];show WS.imp (WS.from e w.bind) λr T Y M e2 l b v g=>?_;by_cases z:AX r=R
  .rw[ax z]at b;show#[Iv z g,WS.now l b _ (a e2)]
  .rw[a4 z]at b;show b.elim
 .rw[a4 hn]at w;show w.elim
def Kd(g:UU K UL C=cL (cL (.ref J)))(c:sO K E o I):b6 K E (wG J (jW K n F) [] E o) (AR C F n I):=by intro B S H Z ω ρ Q s b w;show c B S H Z ω ρ _ s b (w.bind.imp λxs U ω1 N e1 e a h f=>?_);show FQ g e f a
def GP(g:UU K UL C=cL (cL (.ref J)))(c:sO K E o I):b6 K E (wG J (jW K n F) [] E0 o) (pT C F n I):=by intro B S H Z ω ρ Q s b w;show c B S H Z ω ρ _ s b (w.bind.imp λxs U ω1 N e1 e a h f=>?_);show FQ g e f (WS.e0 a)
def d5(ω:aJ):SV->z (Nat×G SV)
 |.rf i=>match ω[i]? with
  |some (.lst xs)=>cL (i,xs)
  |_=>P
 |_=>P
def tM(s:U6 B K H Z ω)(b:Xn (ow B Z ω) K H Z v x)(h:d5 ω x=cL (i,xs)):ω[i]?=cL (.lst xs)/\∃a k,Z[i]?=cL a/\v=.ref a/\H a=cL (.lst k)/\W5 (ow B Z ω) K H Z k xs:=by
 cases x with
 |fz d=>ext h
 |tp l=>ext h
 |rf j=>
  let(a,n,rfl):=b;unfold d5 at h;dsimp only at h;cases q:ω[j]? with
  |none=>simp_all
  |some c=>
   rw[q]at h;cases c with
   |lst m=>let e:=UI h;ext e;let(k,g,f):=s.cel i a _ n q;show#[q,a,k,n,W,g,f]
   |_=>ext h
def y6(h:Paired e o xs)(r:e v x):Paired e (o++[v]) (xs++[x]):=by
 induction h with
 |nil=>show .cons r .nil
 |cons a _ b=>show .cons a b
def jf(b c:cM):cM:=λρ ω=>(b ρ ω).bind λo ω1=>(RS.Vu ω1 (d5 ω1 o)).bind λ_ ω1=>(c ρ ω1).bind λx Y=>(RS.Vu Y (d5 Y o)).bind λp a=>
 if p.2.length<1000000 then .ok (.fz .none) (a.set p.1 (.lst (p.2++[x])))else .bad
def Hl(F:b6 K E to fo)(G:b6 K E te fe):b6 K E (Q7 K "list" uv to (eO te iq)) (jf fo fe):=by
 intro B S H Z ω ρ Q s j w;show F B S H Z ω ρ _ s j (w.bind.imp λo U ω1 N e1 m e v n=>?_);let((P,y),A,e):=WS.Vu e;let(_,t,f,_,rfl,g0,_):=tM m n A;show#[.inl #[W,f,Ys.of g0],?_];show G B S N U ω1 ρ _ m (j.WQ e1) (e.bind.imp λx T Y M e2 l b u C=>?_);let((i,xs),q,b):=WS.Vu b;let(g,a,vs,ha,J,I,p):=tM l (n.WQ e2) q;ext J;dsimp only at b;by_cases hn:xs.length<1000000
 .rw[ax hn]at b;let ev:Ev (ow B T Y) M (ow B T Y) (aW M t (.lst (vs++[u]))):=lQ ha g (by nofun);show#[t,vs,u,W,W,I,r9 (by rw[p.length];show hn),?_];show b T _ (Wc.put ha g (by nofun) (by nofun)) (l.put ha g (by nofun) (by nofun) #[_,av,y6 (Paired.Yc p λ_ _ r=>r.ev ev λ_ _ h=>h) (C.ev ev λ_ _ h=>h)]) _ .Wu
 .rw[a4 hn]at b;show b.elim
end
inductive FlS where
 |nx (ρ:aP)
 |bk (ρ:aP)
 |ct (ρ:aP)
 |rt (x:SV)
abbrev dw:=aP->aJ->RS FlS
abbrev wA:=SV->aP->aJ->RS aP
abbrev BM:=G SV->aP->aJ->RS aP
def vT(B:bE)(K:lD)(D:Ends):FlS->G M->aJ->Hp->Prop
 |.nx b,α,a,H=>∀σ,Xb (ow B α a) K H α σ b->D.nx σ H
 |.bk b,α,a,H=>∀σ,Xb (ow B α a) K H α σ b->D.bk σ H
 |.ct b,α,a,H=>∀σ,Xb (ow B α a) K H α σ b->D.ct σ H
 |.rt x,α,a,H=>∀v,Xn (ow B α a) K H α v x->D.rt v H
def nI(K:lD)(E:XK)(t:TS)(g:dw):Prop:=
 ∀(B:bE) (a:L2.St) (H:Hp) (α:G M) (b:aJ) (e:aP) (D:Ends),U6 B K H α b->Xb (ow B α b) K H α a e->WS K E B H α b (vT B K D) (g e b)->t D a H
def Fy(K:lD)(E:XK)(g:TG)(f:wA):Prop:=
 ∀(B:bE) (h:L2.St) (H:Hp) (α:G M) (j:aJ) (m:aP) (v:V) (x:SV) (Q:L2.St->Hp->Prop),U6 B K H α j->Xb (ow B α j) K H α h m->Xn (ow B α j) K H α v x->WS K E B H α j (λe a b i=>∀l,Xb (ow B a b) K i a l e->Q l i) (f x m j)->g v h H Q
def Df(K:lD)(E:XK)(g:yc)(f:BM):Prop:=
 ∀(B:bE) (h:L2.St) (H:Hp) (α:G M) (j:aJ) (m:aP) (n:G V) (xs:G SV) (Q:L2.St->Hp->Prop),U6 B K H α j->Xb (ow B α j) K H α h m->W5 (ow B α j) K H α n xs->WS K E B H α j (λe a b i=>∀l,Xb (ow B a b) K i a l e->Q l i) (f xs m j)->g n h H Q
section
variable{B O O':bE}{K:lD}{E:XK}{H H' S P:Hp}{X M U Y:b3 Uu}{ω N ω1 Z:aJ}{T:L2.St}{ρ:aP}{v:V}
def Xb.set(a:Xb O K H X T ρ)(h:Xn O K H X v x):Xb O K H X (T.set i (cL v)) (ρ.set i (cL x)):=by
 show#[by rw[Vy,Vy];show a.1,λj y f=>?_];rcases bH f with⟨rfl,e⟩|⟨m,b⟩
 .ext e;show#[v,?_,h];rw[VO];let:=uI f;rw[a.1];show this
 .let(u,l,g):=a.2 j y b;show#[u,by rw[Vf (λz=>m z.symm)];show l,g]
def fw(i:Nat):wA:=λx ρ ω=>.ok (ρ.set i (cL x)) ω
theorem pW:Fy K E (kY i) (fw i):=λB T H X ω ρ v x Q s a h w=>WS.now s w _ (a.set h)
def xS:BM:=λxs ρ ω=>match xs with
 |[]=>.ok ρ ω
 |_=>.bad
def mZ(f:wA)(g:BM):BM:=λxs ρ ω=>match xs with
 |x::r=>(f x ρ ω).bind λa ω1=>g r a ω1
 |[]=>.bad
def Kc:Df K E Jj xS:=by
 intro B T H X ω ρ b xs Q s a h w;cases h with
 |nil=>show#[W,WS.now s w _ a]
 |cons _ _=>show w.elim
def GN(p:Fy K E t f)(o:Df K E u g):Df K E (Ai t u) (mZ f g):=by
 intro B T H X ω ρ q xs Q s m h w;cases h with
 |nil=>show w.elim
 |cons a b=>show#[_,_,W,p B T H X ω ρ _ _ _ s m a (WS.imp (WS.bind w) λi U ω1 S e1 n l e j=>?_)];show o B e S U ω1 i _ _ _ n j (W5.WQ e1 b) l
def EH:SV->z (G SV)
 |.fz (.tuple ds)=>cL (ds.map .fz)
 |.tp l=>cL (l.map AV.sv)
 |_=>Uo
def O8(h:Xn O K H X v x)(e:EH x=cL xs):∃a c,v=.ref a/\YO O K H a c/\W5 O K H X c xs:=by
 unfold EH at e;split at e
 .ext e
  cases h with
  |tup h f=>show#[_,_,W,h,iC _ _ f]
 .ext e;let(a,b,rfl,i,g):=h;show#[a,b,W,i,um g]
 .ext e
def Nx(n:Nat)(f:BM):wA:=λx ρ ω=>(RS.Vu ω (EH x)).bind λxs ω1=>if xs.length=n then f xs ρ ω1 else .bad
def JQ(h:Df K E t f):Fy K E (Jc K n t) (Nx n f):=by
 intro B T H X ω ρ v x Q s e g w;let(xs,q,w):=WS.Vu w;let(a,j,rfl,i,b):=O8 g q;by_cases hn:xs.length=n
 .rw[ax hn]at w;show#[a,j,W,i.1,b.length.trans hn,h B T H X ω ρ j xs Q s e b w]
 .rw[a4 hn]at w;show w.elim
def bX:dw:=λρ ω=>.ok (.nx ρ) ω
def aB(f g:dw):dw:=λρ ω=>(f ρ ω).bind λa ω1=>match a with
 |.nx b=>g b ω1
 |a=>.ok a ω1
def bc(f:cM):dw:=λρ ω=>(f ρ ω).bind λ_ ω1=>.ok (.nx ρ) ω1
def cU(f:cM)(g:wA):dw:=λρ ω=>(f ρ ω).bind λx ω1=>(g x ρ ω1).bind λa Z=>.ok (.nx a) Z
def bR(c:qE)(f g:dw):dw:=λρ ω=>(c ρ ω).bind λb ω1=>if b=R then f ρ ω1 else g ρ ω1
def fy(f:cM):dw:=λρ ω=>(f ρ ω).bind λx ω1=>.ok (.rt x) ω1
def pE:dw:=λ_ ω=>.ok (.rt (.fz .none)) ω
theorem Fw:nI K E za bX:=λB T H X ω ρ D s a w=>WS.now s w T a
theorem Cp:nI K E LZ pE:=λB T H X ω ρ D s a w=>WS.now s w .Wu .Wu
def HD(m:nI K E t f)(l:nI K E u g):nI K E (CD t u) (aB f g):=by
 intro B T H X ω ρ D s j w;show m B T H X ω ρ {D with nx:=u D} s j (WS.imp (WS.bind w) λn U ω1 S e1 e b=>?_);cases n with
 |nx a=>show λh i=>l B h S U ω1 a D e i b
 |rt x=>show WS.now (E:=E) e b
 |bk a=>show WS.now (E:=E) e b
 |ct a=>show WS.now (E:=E) e b
def Dq(h:b6 K E t f):nI K E (sg t) (bc f):=by intro B T H X ω ρ D s a w;show h B T H X ω ρ _ s a (WS.imp (WS.bind w) λx U ω1 S e1 e b v g=>WS.now e b T (a.WQ e1))
def zA(h:b6 K E t f)(p:Fy K E g C):nI K E (xt t g) (cU f C):=by intro B T H X ω ρ D s e w;show h B T H X ω ρ _ s e (WS.imp (WS.bind w) λx U ω1 S e1 n l v o=>?_);show p B T S U ω1 ρ v x _ n (e.WQ e1) o (WS.imp (WS.bind l) λi Y Z P e2 m j a b=>WS.now m j a b)
def MY(i:rB K E c o)(l:nI K E t f)(j:nI K E u g):nI K E (Ek c t u) (bR o f g):=by
 intro B T H X ω ρ D s a w;show i B T H X ω ρ _ s a (WS.imp (WS.bind w) λb U ω1 S e1 h e=>?_);cases b with
 |true=>show l B T S U ω1 ρ D h (a.WQ e1) e
 |false=>show j B T S U ω1 ρ D h (a.WQ e1) e
def G3(h:b6 K E t f):nI K E (DJ t) (fy f):=by intro B T H X ω ρ D s b w;show h B T H X ω ρ _ s b (WS.imp (WS.bind w) λx U ω1 S e1 e a v g=>WS.now e a v g)
def gx(f:Str)(x:SV):G (Str×SV)->G (Str×SV)
 |[]=>[(f,x)]
 |(g,y)::r=>if g=f then(g,x)::r else(g,y)::gx f x r
def Pd(h:Xn O K H X v x):∀{ws:G (Str×V)} {fs:G (Str×SV)},Paired (λ(p:Str×V) (q:Str×SV)=>p.1=q.1/\Xn O K H X p.2 q.2) ws fs->Paired (λ(p:Str×V) (q:Str×SV)=>p.1=q.1/\Xn O K H X p.2 q.2) (gX f v ws) (gx f x fs):=by
 intro ws fs p
 induction p with
 |nil=>show .cons #[W,h] .nil
 | @cons a b _ _ q t j=>
  let(g,u):=a;let(i,y):=b;let(e,k):=q;ext e;unfold gX gx;by_cases z:g=f
  .rw[ax z,ax z];show .cons #[W,h] t
  .rw[a4 z,a4 z];show .cons #[W,k] j
def D2(ω:aJ)(C:Str):SV->z (Nat×G (Str×SV))
 |.rf i=>match ω[i]? with
  |some (.obj D fs)=>if D=C then cL (i,fs)else Uo
  |_=>Uo
 |_=>Uo
def QR(s:U6 B K H X ω)(b:Xn (ow B X ω) K H X v x)(h:D2 ω C x=cL (i,fs)):ω[i]?=cL (.obj C fs)/\∃a k n ws,X[i]?=cL a/\v=.ref a/\UU K UL C=cL (cL (.ref k))/\H a=cL (.ins k n ws)/\Paired (λ(p:Str×V) (q:Str×SV)=>p.1=q.1/\Xn (ow B X ω) K H X p.2 q.2) ws fs:=by
 cases x with
 |fz d=>ext h
 |tp l=>ext h
 |rf j=>
  let(a,o,rfl):=b;unfold D2 at h;dsimp only at h;cases q:ω[j]? with
  |none=>simp_all
  |some c=>
   rw[q]at h;cases c with
   |obj D gs=>
    dsimp only at h;by_cases z:D=C
    .subst z;rw[ax W]at h;let e:=UI h;ext e;let(k,n,ws,m,g,f):=s.cel i a _ o q;show#[q,a,k,n,ws,o,W,m,g,f]
    simp_all
   |_=>ext h
def d4(C f:Str)(b c:cM):dw:=λρ ω=>(c ρ ω).bind λx ω1=>(b ρ ω1).bind λo Z=>(RS.Vu Z (D2 Z C o)).bind λp a=>if p.2.length<100 then .ok (.nx ρ) (a.set p.1 (.obj C (gx f x p.2)))else .bad
def Ji(I:jV K C L)(F:f∈L)(A:b6 K E to fo)(G:b6 K E te fe):nI K E (MR K to te f) (d4 C f fo fe):=by
 intro B T H X ω ρ D s g w;show G B T H X ω ρ _ s g (WS.imp (WS.bind w) λx U ω1 S e1 t p v y=>?_);show A B T S U ω1 ρ _ t (g.WQ e1) (WS.imp (WS.bind p) λo Y Z P e2 l b u z=>?_);let((i,fs),q,b):=WS.Vu b;let(j,a,e,dx,ws,ha,rfl,n,J,m):=QR l z q;let(Cb,g0,R,Q):=I;rw[n]at g0;ext g0;dsimp only at b;by_cases hn:fs.length<100
 .rw[ax hn]at b;let ev:Ev (ow B Y Z) P (ow B Y Z) (aW P a (.ins e dx (gX f v ws))):=lQ ha j (by simp_all);let e3:Wc Y Z P Y (Z.set i (.obj C (gx f x fs))) (aW P a (.ins e dx (gX f v ws))):=Wc.put ha j (by simp_all) (by simp_all);let hl:=Paired.length m;show#[a,e,dx,ws,W,J,R,Q f F,by ext,?_];show b Y _ e3 (l.put ha j (by simp_all) (by simp_all) #[e,dx,_,n,av,Pd ((y.WQ e2).ev ev λ_ _ h=>h) (Paired.Yc m λ_ _ r=>#[r.1,r.2.ev ev λ_ _ h=>h])]) T ((g.WQ (e1.trans e2)).WQ e3)
 .rw[a4 hn]at b;show b.elim
abbrev IC:=aP->aJ->RS (G D)
def PO(K:lD)(E:XK)(b:TI)(e:IC):Prop:=
 ∀(B:bE) (T:L2.St) (H:Hp) (X:G Uu) (ω:aJ) (ρ:aP) (a:It->Hp->Prop),U6 B K H X ω->Xb (ow B X ω) K H X T ρ->WS K E B H X ω (λds M N H'=>∀J,xI K J (ow B M N) H' ds->a J H') (e ρ ω)->b T H a
def gz(f:FI):IC:=λρ ω=>match f (a8 ρ)with
 |.ok (ds,_)=>.ok ds ω
 |.er x=>.er x ω
 |.bad=>.bad
def DY(h:IO K E C f):PO K E C (gz f):=by
 intro B T H X ω ρ j s g w;show h (ow B X ω) H (ow B X ω) T H (a8 ρ) j (De s g) ?_;unfold gz at w;cases q:f (a8 ρ)with
 |bad=>rw[q]at w;show w.elim
 |er x=>rw[q]at w;show λc m H' e k=>w c m X H' (Wc.same e) (s.grow e) k
 |ok r=>let(ds,a):=r;rw[q]at w;show λO' J H' e R i=>w X H' (Wc.same R.same) (s.grow R.same) J λl P e2 n=>i l P (λb o h z=>e2 b o h λy=>z (R.bo b y)) n
def jY(a:cM):IC:=λρ ω=>(a ρ ω).bind λx ω1=>(match frz 4 ω1 x with
 |some (d,Z)=>RS.Vu Z (dZ d)
 |none=>.bad)
def Kn(h:b6 K E o C):PO K E (zq K o) (jY C):=by
 intro B T H X ω ρ l s f w;show h B T H X ω ρ _ s f (WS.imp (WS.bind w) λx U ω1 S e1 g a v i=>?_);cases q:frz 4 ω1 x with
 |none=>rw[q]at a;show a.elim
 |some p=>
  let(d,Z):=p;rw[q]at a;let(e,e2,j):=tO 4 g i q;dsimp only at a;cases m:dZ d with
  |none=>rw[m]at a;show a.elim
  |some ds=>
   rw[m]at a;cases j with
   |tup h b=>ext m;show#[_,W,.inr #[#[_,h.1],a U S e2 e _ (GQ h b)]]
   |lst h b=>ext m;show#[_,W,.inl #[#[_,h.1.sq],a U S e2 e _ (zu h b)]]
   |_=>ext m
def jd(gt:wA)(b:dw):G D->dw
 |[],ρ,ω=>.ok (.nx ρ) ω
 |d::r,ρ,ω=>(gt (.fz d) ρ ω).bind λa ω1=>(b a ω1).bind λe Z=>match e with
  |.nx f=>jd gt b r f Z
  |.ct f=>jd gt b r f Z
  |.bk f=>.ok (.nx f) Z
  |.rt x=>.ok (.rt x) Z
def wX(a:IC)(gt:wA)(b:dw):dw:=λρ ω=>(a ρ ω).bind λds ω1=>jd gt b ds ρ ω1
def KL(c:PO K E wi fi)(k:Fy K E g gt)(hb:nI K E tb b):nI K E (KM wi g tb) (wX fi gt b):=by
 intro B T H X ω ρ D s Q w;show c B T H X ω ρ _ s Q (WS.imp (WS.bind w) λds U ω1 S e1 s1 w1 J it=>?_);show#[λi m a H'=>m=ds.length - i/\i<=ds.length/\∃Y Z ρ2,Wc U ω1 S Y Z H'/\U6 B K H' Y Z/\Xb (ow B Y Z) K H' Y a ρ2/\WS K E B H' Y Z (vT B K D) (jd gt b (ds.drop i) ρ2 Z),#[_,W,Vm _,U,ω1,ρ,.refl,s1,Q.WQ e1,w1],?_];rintro i m l P ⟨rfl,c,Y,Z,ρ2,e2,s2,sl2,w2⟩;let(go,o):=it (ow B Y Z) P e2.ev s2.noO;by_cases u:i<ds.length
 .let(g1,g2):=go i u
  show .inr #[g1,λa H'=>i+1<=ds.length/\∃Y Z ρ2,Wc U ω1 S Y Z H'/\U6 B K H' Y Z/\Xb (ow B Y Z) K H' Y a ρ2/\WS K E B H' Y Z (vT B K D) (jd gt b (ds.drop (i+1)) ρ2 Z),λa H' #[h1,h2]=>#[ds.length - (i+1),by ext,W,h1,h2],λx L y=>?_];let(R,d,hd,dv):=g2 x L y;let ed:ds.drop i=d::ds.drop (i+1):=by let(_,q):=Ux.mp hd;rw[W8 u,q]
  rw[ed]at w2;let e3:Wc Y Z P Y Z L:=Wc.same R;show k B l L Y Z ρ2 x (.fz d) _ (s2.grow R) (sl2.WQ e3) dv (WS.imp (WS.bind (WS.from e3 w2)) λF G z H4 e4 s4 w3 C I=>?_);show hb B C H4 G z F _ s4 I (WS.imp (WS.bind w3) λfl n j H5 e5 t r=>?_);let p:=e2.trans (e3.trans (e4.trans e5));cases fl with
  |nx f=>show λA h=>#[u,n,j,f,p,t,h,r]
  |ct f=>show λA h=>#[u,n,j,f,p,t,h,r]
  |bk f=>show WS.now (E:=E) t r
  |rt x=>show WS.now (E:=E) t r
 .let e:i=ds.length:=by ext
  subst e;rw[Xp (UC _)]at w2;show .inl #[o,WS.now s2 w2 l sl2]
def rh(c:qE)(b:dw):Nat->dw
 |0,_,_=>.bad
 |n+1,ρ,ω=>(c ρ ω).bind λk ω1=>if k=R then(b ρ ω1).bind λa Z=>match a with
  |.nx e=>rh c b n e Z
  |.ct e=>rh c b n e Z
  |.bk e=>.ok (.nx e) Z
  |.rt x=>.ok (.rt x) Z else .ok (.nx ρ) ω1
def pQ(c:qE)(b:dw):dw:=rh c b 1000000
def Bt(G:rB K E c fc)(I:nI K E tb b):nI K E (Cs c tb) (pQ fc b):=by
 intro B T H X ω ρ D s C w;show#[λm e H'=>∃Y Z a,Wc X ω H Y Z H'/\U6 B K H' Y Z/\Xb (ow B Y Z) K H' Y e a/\WS K E B H' Y Z (vT B K D) (rh fc b m a Z),#[_,X,ω,ρ,.refl,s,C,w],?_];rintro m g P ⟨Y,Z,a,e2,F,i,z⟩;cases m with
 |zero=>show z.elim
 |succ m=>
  show G B g P Y Z a _ F i (WS.imp (WS.bind z) λk y t L e3 A p=>?_);cases k with
  |true=>
   rw[ax W]at p⊢;show#[λe H'=>∃Y Z a,Wc X ω H Y Z H'/\U6 B K H' Y Z/\Xb (ow B Y Z) K H' Y e a/\WS K E B H' Y Z (vT B K D) (rh fc b m a Z),λe H' q=>#[m,XI m,q],?_];show I B g L y t a _ A (i.WQ e3) (WS.imp (WS.bind p) λJ l j Q e5 r o=>?_);let n:=e2.trans (e3.trans e5);cases J with
   |nx f=>show λu h=>#[l,j,f,n,r,h,o]
   |ct f=>show λu h=>#[l,j,f,n,r,h,o]
   |bk f=>show WS.now (E:=E) r o
   |rt x=>show WS.now (E:=E) r o
  |false=>rw[a4 UH]at p⊢;show WS.now A p g (i.WQ e3)
end
section
variable{B O O':bE}{K:lD}{E:XK}{H H' T M:Hp}{U S X Y:b3 Uu}{ω ω' ω1 Z:aJ}{R:L2.St}{ρ:aP}{v:V}
def ce(gt:wA)(c:qE)(f:cM):G D->aP->aJ->G SV->RS (G SV)
 |[],_,ω,acc=>.ok acc ω
 |d::r,ρ,ω,acc=>(gt (.fz d) ρ ω).bind λa ω1=>(c a ω1).bind λb Z=>if b=Uq then(f a Z).bind λx e=>(if acc.length<1000000 then ce gt c f r a e (acc++[x])else .bad)else ce gt c f r a Z acc
def fP(n:Nat)(a:G Nat)(ρ:aP):aP:=UA n P++a.map λj=>(ρ[j]?).join
def jj(n:Nat)(a:G Nat)(b:IC)(gt:wA)(c:qE)(d:cM):cM:=λρ ω=>(b ρ ω).bind λds ω1=>(eF (ce gt c d ds (fP n a ρ) ω1 [])).bind λxs Z=>.ok (.rf Z.length) (Z++[.lst xs])
def KG{own:G Str}{c:G (Str×Nat)}{n:Nat}{f:G Nat}(d:own.length=n)(h:c.map (·.2)=f)(i:Xb O K H U R ρ):Xb O K H U (gU own c R) (fP n f ρ):=by
 unfold gU fP;rw[zM d];let l:c.length=f.length:=by rw[<-h,Us]
 show#[by simp_all,λj x b=>?_];by_cases g:j<n
 .rw[U0 (by rw[VS];show g),WG,ax g]at b;ext b
 .rw[U8 (by simp_all),VS,UG]at b⊢
  subst h;rw[UG]at b;cases q:c[j - n]? with
  |none=>simp_all
  |some p=>
   rw[q]at b;let a:(ρ[p.2]?).join=cL x:=UI b;let e:ρ[p.2]?=cL (cL x):=by
    cases t:ρ[p.2]? with
    |none=>rw[t]at a;ext a
    |some o=>rw[t]at a;show en cL a
   let(u,r,m):=i.2 p.2 x e;simp_all
def wv{p:Uu}{c:Cell}(a:U.length=ω.length)(e:c≠.dead):ow (bF B p) U ω=ow B (U++[p]) (ω++[c]):=by
 funext b;show propext #[λz=>?_,λz=>?_]
 .rcases z with(z|z)|⟨i,d,h1,g,f⟩
  .show .inl z
  .show .inr #[U.length,c,by rw[z];show aU,by rw[a];show aU,e]
  .show .inr #[i,d,dG h1,dG g,f]
 .rcases z with z|z
  .show .inl (.inl z)
  .rcases qH a z with z|z
   .show .inr z
   .show .inl (.inr z)
def U6.adopt{p:Uu}{c:G V}{xs:G SV}(s:U6 (bF B p) K H U ω)(l:H p=cL (.lst c))(g:W5 (ow (bF B p) U ω) K H U c xs)(n:¬B p):U6 B K H (U++[p]) (ω++[.lst xs]):=by
 let eo:ow (bF B p) U ω=ow B (U++[p]) (ω++[.lst xs]):=wv s.len (by simp_all);let b:∀(i:Nat) (a:Uu),U[i]?=cL a->(U++[p])[i]?=cL a:=λi a h=>dG h;let m:∀i:Nat,U[i]?≠cL p:=s.ba p (.inr W);show#[by rw[Uz,Uz,s.len];rfl,λi j a e f=>?_,λa h=>s.bn a (.inl h),λa h i q=>?_,λi a h=>?_,λi a d e f=>?_]
 .rcases aX e with g1|⟨e1,e2⟩<;>rcases aX f with g2|⟨e3,e4⟩
  .show s.nd i j a g1 g2
  .simp_all
  .simp_all
  .omega
 .rcases aX q with q|⟨_,e2⟩
  .show s.ba a (.inl h) i q
  simp_all
 .rcases aX h with h|⟨_,e2⟩
  .show s.al i a h
  simp_all
 .rw[<-eo]
  rcases aX f with g2|⟨e1,e2⟩
  .rcases aX e with g1|⟨e1,_⟩
   .show(s.cel i a d g1 g2).ev .refl b λo q=>q
   .let:=(Ux.mp g2).1;let:=s.len;ext
  .rcases aX e with g1|⟨_,e3⟩
   .let:=(Ux.mp g1).1;let:=s.len;ext
   .rw[e2,e3];show#[c,l,Paired.Yc g λ_ _ r=>r.ev .refl b]
def U6.hide{p:Uu}{o:HO}(s:U6 B K H U ω)(j:H p=P):U6 (bF B p) K (aW H p o) U ω:=by let f:VZ H (aW H p o):=bj j o;let g:=s.grow f;let ev:Ev (ow B U ω) H (ow (bF B p) U ω) (aW H p o):=λb u h n=>#[f b u h,λz=>z.elim (λz=>z.elim (λz=>n (.inl z)) λz=>by simp_all) λz=>n (.inr z)];show#[g.len,g.nd,λa h=>h.elim (g.bn a) λe=>by rw[e,av];simp,λa h i q=>h.elim (λh=>g.ba a h i q) λe=>by rw[e]at q;show s.al i p q j,g.al,λi a c m l=>?_];show(s.cel i a c m l).ev ev (λ_ _ h=>h) λo q=>f _ _ q
def U6.ags{p:Uu}{o e:HO}(s:U6 (bF B p) K H U ω)(j:H p=cL o):U6 (bF B p) K (aW H p e) U ω:=by
 let ev:Ev (ow (bF B p) U ω) H (ow (bF B p) U ω) (aW H p e):=Ev.mut (.inl (.inr W)) e;let n:∀b,H b≠P->aW H p e b≠P:=λb h=>by
  by_cases z:b=p
  .subst z;rw[av];simp
  .rw[ar z];show h
 show#[s.len,s.nd,λa h=>n a (s.bn a h),s.ba,λi a h=>n a (s.al i a h),λi a c f g=>(s.cel i a c f g).ev ev (λ_ _ h=>h) λu q=>?_];let:a≠p:=λz=>s.ba p (.inr W) i (by rw[<-z];show f);rw[ar this];show q
theorem Wc.dd{p:Uu}{o:HO}(e:Wc X ω1 T U ω H)(a:T p=P):Wc X ω1 T U ω (aW H p o):=#[e.pre,λb u h n=>by rw[ar (bC h a)];show e.kp b u h n,e.lv]
theorem U6.aeQ{p:Uu}(s:U6 (bF B p) K H U ω):U6 B K H U ω:=
 #[s.len,s.nd,λa h=>s.bn a (.inl h),λa h=>s.ba a (.inl h),s.al,λi a c f e=>(s.cel i a c f e).ev (λb o h n=>#[h,λy=>n (y.elim (λy=>.inl (.inl y)) .inr)]) (λ_ _ h=>h) λ_ h=>h]
def p9{own:b3 Str}{fv:b3 (Str×Nat)}{g:TG}{tc:TT}{te:TE}{gt:wA}{s:qE}{k:cM}{n:Nat}{fj:b3 Nat}{J:It}{Q:VK}{ds:b3 D}(hn:own.length=n)(hf:fv.map (·.2)=fj)
  (hg:Fy K E g gt) (ht:rB K E tc s) (he:b6 K E te k) (s1:U6 B K T X ω1) (sl1:Xb (ow B X ω1) K T X R ρ) (it:xI K J (ow B X ω1) T ds) (w1:WS K E B T X ω1 (PQ B K Q) ((ce gt s k ds (fP n fj ρ) ω1 []).bind λxs Z=>.ok (.rf Z.length) (Z++[.lst xs]))):
  ∀D,T D=Uo->C2 J D (gU own fv R) g tc te T λH'=>Q (.ref D) H':=by
 intro p hD;let slc:Xb (ow B X ω1) K T X (gU own fv R) (fP n fj ρ):=KG hn hf sl1;generalize qr:ce gt s k ds (fP n fj ρ) ω1 []=rr at w1;by_cases F:rr=.bad
 .subst F;show w1.elim
 .
  let hB:¬B p:=λz=>s1.bn p z hD;let evH:∀{Y:b3 Uu} {Z:aJ} {H':Hp},Wc X ω1 T Y Z H'->Ev (ow B X ω1) T (ow (bF B p) Y Z) H':=λe b o h n=>#[e.kp b o h λz=>n (.inr z),λz=>by
   rcases z with(z|z)|z
   .show n (.inl z)
   .simp_all
   .show(e.lv b z).elim (λq=>n (.inr q)) λq=>by simp_all]
  show#[λi m σ' H'=>m=ds.length - i/\i<=ds.length/\∃Y Z ρc acc ys,Wc X ω1 T Y Z H'/\U6 (bF B p) K H' Y Z/\Xb (ow (bF B p) Y Z) K H' Y σ' ρc/\H' p=cL (.lst ys)/\W5 (ow (bF B p) Y Z) K H' Y ys acc/\ce gt s k (ds.drop i) ρc Z acc=rr,
   #[_,W,Vm _,X,ω1,fP n fj ρ,[],[],Wc.same (bj hD _),s1.hide hD,?_,av,.nil,qr],?_]
  .show#[slc.1,λj x hx=>let#[v,h1,h2]:=slc.2 j x hx;#[v,h1,h2.ev (evH (Wc.same (bj hD _))) λ_ _ h=>h]]
  .rintro i m σ2 M ⟨rfl,hi,Y,Z,ρ2,acc,ys,e2,s2,sl2,hy,vy,f⟩
   let(go,stop):=it (ow (bF B p) Y Z) M (evH e2) s2.noO;by_cases X3:i<ds.length
   .let(g1,g2):=go i X3
    show .inr #[g1,λσ5 I=>i+1<=ds.length/\∃Y Z ρc acc ys,Wc X ω1 T Y Z I/\U6 (bF B p) K I Y Z/\Xb (ow (bF B p) Y Z) K I Y σ5 ρc/\I p=cL (.lst ys)/\W5 (ow (bF B p) Y Z) K I Y ys acc/\ce gt s k (ds.drop (i+1)) ρc Z acc=rr,
     λσ5 I #[h1,h2]=>#[ds.length - (i+1),by ext,W,h1,h2],λx H3 y=>?_]
    let(s3,d,hd,dv):=g2 x H3 y;let ed:ds.drop i=d::ds.drop (i+1):=by let(_,q):=Ux.mp hd;rw[W8 X3,q]
    rw[ed]at f;unfold ce at f;let e3:Wc Y Z M Y Z H3:=Wc.same s3;let kD:∀{αx αy:b3 Uu} {ωx ωy:aJ} {Hx Hy:Hp} {o:HO},U6 (bF B p) K Hx αx ωx->Wc αx ωx Hx αy ωy Hy->Hx p=cL o->Hy p=cL o:=λsx ex h=>ex.kp _ _ h λ#[i,c,q,_]=>sx.ba p (.inr W) i q;let w:∀{Pz0:b3 Uu} {u:aJ} {H3:Hp} {z:Xc} {t:aJ},Wc X ω1 T Pz0 u H3->RS.er z t=rr->∀c dx S H',Wc Pz0 u H3 S t H'->U6 (bF B p) K H' S t->XOk K (ow (bF B p) S t) H' c dx z->E c dx H':=λ{Pz0 u H3 z t} e3 q c dx S H' e s' x'=>by subst q;show w1 c dx S H' (e3.trans e) s'.aeQ (XOk.sub (λb y=>y.elim (λy=>.inl (.inl y)) .inr) x')
    show hg (bF B p) σ2 H3 Y Z ρ2 x (.fz d) _ (s2.grow s3) (sl2.WQ e3) dv ?_;cases qg:gt (.fz d) ρ2 Z with
    |er z t=>rw[qg]at f;show w (e2.trans e3) f
    |bad=>rw[qg]at f;show F f.symm
    |ok l L=>
     rw[qg]at f;intro α4 H4 e4 s4 σ4 sl4;show ht (bF B p) σ4 H4 α4 L l _ s4 sl4 ?_;let f:((s l L).bind λb Z=>if b=Uq then(k l Z).bind λx u=>(if acc.length<1000000 then ce gt s k (ds.drop (i+1)) l u (acc++[x])else .bad)else ce gt s k (ds.drop (i+1)) l Z acc)=rr:=f;cases qt:s l L with
     |er z t=>rw[qt]at f;show w (e2.trans (e3.trans e4)) f
     |bad=>rw[qt]at f;show F f.symm
     |ok b A=>
      rw[qt]at f;intro α5 I e5 s5;let sl5:=sl4.WQ e5;let C:=e3.trans (e4.trans e5);cases b with
      |false=>let f:ce gt s k (ds.drop (i+1)) l A acc=rr:=f;show#[X3,α5,A,l,acc,ys,e2.trans C,s5,sl5,kD s2 C hy,W5.WQ C vy,f]
      |true=>
       let f:((k l A).bind λx u=>(if acc.length<1000000 then ce gt s k (ds.drop (i+1)) l u (acc++[x])else .bad))=rr:=f;rw[ax W];show he (bF B p) σ4 I α5 A l _ s5 sl5 ?_;cases qe:k l A with
       |er z t=>rw[qe]at f;show w (e2.trans C) f
       |bad=>rw[qe]at f;show F f.symm
       |ok x6 G=>
        rw[qe]at f;intro N H6 e6 s6 v6 hv6;let f:(if acc.length<1000000 then ce gt s k (ds.drop (i+1)) l G (acc++[x6])else .bad)=rr:=f;by_cases hl6:acc.length<1000000
        .rw[ax hl6]at f;let Qj:=C.trans e6;let hy6:H6 p=cL (.lst ys):=kD s2 Qj hy;let vy6:=W5.WQ Qj vy;let em:Ev (ow (bF B p) N G) H6 (ow (bF B p) N G) (aW H6 p (.lst (ys++[v6]))):=Ev.mut (.inl (.inr W)) _;let sl6:=sl5.WQ e6;show#[ys,hy6,r9 (by rw[vy6.length];show hl6),X3,N,G,l,acc++[x6],ys++[v6],(e2.trans Qj).dd hD,s6.ags hy6,#[sl6.1,λj x hx=>let#[v,h1,h2]:=sl6.2 j x hx;#[v,h1,h2.ev em λ_ _ h=>h]],av,y6 (Paired.Yc vy6 λ_ _ r=>r.ev em λ_ _ h=>h) (hv6.ev em λ_ _ h=>h),f]
        .rw[a4 hl6]at f;show bg f.symm F
   .let e:i=ds.length:=by ext
    subst e;rw[Xp (UC _)]at f;let f:RS.ok acc Z=rr:=f;subst f;show .inl #[stop,?_];show w1 (Y++[p]) M #[λi a h=>dG (e2.pre i a h),e2.kp,λb z=>(qH s2.len z).elim (e2.lv b) λz=>.inr (by rw[z];show hD)] (s2.adopt hy vy hB) (.ref p) #[p,by rw[<-s2.len];show aU,W]
def OG{A C:Type}{P:C->G Uu->aJ->Hp->Prop}{r:RS A}{k:A->aJ->C}{m:A->aJ->aJ}(w:WS K E B H U ω P ((eF r).bind λa o=>.ok (k a o) (m a o))):WS K E0 B H U ω P (r.bind λa o=>.ok (k a o) (m a o)):=by
 cases r with
 |ok a o=>show w
 |er x o=>show w.elim
 |bad=>show w
def wO{own:G Str}{d:G (Str×Nat)}{a:TI}{g:TG}{b:TT}{c:TE}{h:IC}{gt:wA}{k:qE}{r:cM}{n:Nat}{f:G Nat}(t:own.length=n)(p:d.map (·.2)=f)
  (u:PO K E a h) (o:Fy K E0 g gt) (m:rB K E0 b k) (q:b6 K E0 c r):b6 K E (mM own d a g b c) (jj n f h gt k r):=by
 intro B R H U ω ρ Q s e w;show u B R H U ω ρ _ s e (WS.imp (WS.bind w) λds X ω1 T e1 j i J l=>?_);show p9 t p o m q j (e.WQ e1) l (OG i)
def cB(N:Nat)(g:dw):fD:=λxs ω=>(g (xs.map cL++UA (N - xs.length) P) ω).bind λa ω1=>match a with
 |.rt x=>.ok x ω1
 |.nx _=>.ok (.fz .none) ω1
 |_=>.bad
def Fe{N:G Str}{c:G V}{xs:G SV}(h:W5 O K H U c xs):Xb O K H U (L2.start N c) (xs.map cL++UA (N.length - xs.length) P):=by
 let e:c.length=xs.length:=Paired.length h;ext L2.start;show#[by simp_all,λi x a=>?_];by_cases hi:i<xs.length
 .rw[U0 (by simp_all),UG]at a
  cases q:xs[i]? with
  |none=>rw[q]at a;ext a
  |some d=>rw[q]at a;ext a;let(v,b,f):=xJ h q;show#[v,?_,f];rw[U0 (by rw[Us,e];show hi),UG,b];rfl
 .rw[U8 (by rw[Us];ext),WG]at a;split at a<;>ext a
def yq{N:G Str}{c:G V}{xs:G SV}{g:dw}{t:TS}{Q:VK}{n:Nat}(f:nI K E t g)(h:jW K n (cB N.length g) c H Q E):t {nx:=λ_ H'=>Q .Wu H',rt:=Q} (L2.start N c) H:=by
 let(l,B,U,ω,xs,s,e,w):=h;show f B _ H U ω _ _ s (Fe e) (WS.imp (WS.bind w) λi X ω1 T e1 b a=>?_);cases i with
 |rt x=>show WS.now (E:=E) b a
 |nx ρ=>show λR j=>WS.now (E:=E) b a .Wu .Wu
 |bk ρ=>show a.elim
 |ct ρ=>show a.elim
end
def Tl{P:UR}{w:Va}{K:lD}{d:Str->z U}{base:Heap}{x a:Str}{b:Wm}{f:M}{fd:Vv}{N c:G Str}{k n m:Nat}{g:dw}{i:fD}(F:Zo K x a b f fd)(S:Wy N c (au b))(u:c.length=n)(hm:N.length=m)(p:i=cB m g)
  (q:∀(e:U) (A:U4) (outer:G Env) (s:Uw) (H:Hp) (E:XK),Wl k (A.deeper (Vd a (au b) s.heap.objs.size f e))->
   ∃t,Z9 (dR jD P w K d base N a (au b) f e A outer s H E).nox (bQ b) t/\nI K E t g):FnOk P w K d base jD (k+1) f fd c (jW K n i):=by
 subst p hm;show F.ok S (λr H Q E h=>h.1.trans u.symm) (λe A outer s H r Q E o h=>?_);let(t,j,l):=q e A outer s H E o;show#[t,j,yq (xs:=[]) l h]
def Sk{P:UR}{w:Va}{K:lD}{d:Str->b4 U}{base:Heap}{x a:Str}{b:Wm}{f:M}{fd:Vv}{N c:b3 Str}{k n m:Nat}{g:dw}{l:fD}(F:Zo K x a b f fd)(S:Wy N c (au b))(D:c.length=n)(hm:N.length=m)(v:l=cB m g)
  (z:∀(e:U) (A:U4) (outer:b3 Env) (s:Uw) (H:Hp) (E:XK),Wl k (A.deeper (Vd a (au b) s.heap.objs.size f e))->
   ∃t,Z9 (dR (L4.i7 P w) P w K d base N a (au b) f e A outer s H E) (bQ b) t/\nI K E t g):FnOk P w K d base (L4.i7 P w) (k+1) f fd c (jW K n l):=by
 subst v hm;let(G,C,kV,y,B,I,e,ct,o,rfl,p,j):=F.ex;show FB p j S (λJ H Q E h=>h.1.trans D.symm) λA outer s H J Q E u i=>?_;let(t,q,r):=z e A outer s H E u;show#[t,q,yq (xs:=[]) r i]
end L10
namespace PySem.W
open PySem PySem.Calls PyProof.Rows PyProof.V PySem.Spec
section
variable{Y:UR}{w:Va}{A:U4}{E:CL->Uw->Prop}{s:Uw}{T:String}{r d:Uu}{n:Nat}{P:Nat->CL->Prop}{X:Heap->Prop}
def collect_kdl(K:KdlSrc Y w T r d n P X)(m:A.handled=Uo)(VF:X s.heap)(u:n<=UD)
  (q:∀c k acc,(∀b o,s.heap.get? b=S o->c.get? b=S o)->aj8 P acc n->Q acc.toList {s with heap:=c,toks:=k}):wpAny (model Y w) A (collect (.ref r)) Q E s:=by
 let i:=K.there _ VF;ext collect;show Ld (wpAny_runValue (Xs F.entry_proto_collect ?_));rw[U4.under_plainId F.plain_proto_collect _];show Ld (We ?_);show UB #[Xm F.plain_list_iadd _,Xs F.entry_list_iadd ?_];rw[U4.under_plainId F.plain_list_iadd _];let p:(s.heap.push {cls:=.type "list",data:=.seq ([]:G U).toArray}).get? s.heap.objs.size=S {cls:=.type "list",data:=.seq ([]:G U).toArray}:=cv _ W;show kdl_extend (R:=wants (λv j=>wpAny (model Y w) A (match v with|.ref a=>(load a>>=λo=>match o.data with|.seq xs _=>pure xs.toList|_=>unsupported "internal:collect")|_=>unsupported "internal:collect") Q E j) E) (s:={s with heap:=s.heap.push {cls:=.type "list",data:=.seq ([]:G U).toArray}}) K m (K.keep _ _ VF λb _ o e=>ck _ e) _ (VI i.1) (VI i.2) _ 0 p (λc k h t l f g=>?_) u;show Ld (aey f ?_);show UB (q c k h (λb o e=>l b o (UY (cn e)) (ck _ e)) g)
end
end PySem.W
namespace PyProof.Rows
open PySem
section
variable{Y:UR}{w:Va}{A:U4}{E:CL->Uw->Prop}{s:Uw}{T:String}{r d:Uu}{n:Nat}{P:Nat->CL->Prop}{X:Heap->Prop}
def xU(K:PySem.W.KdlSrc Y w T r d n P X)(p:A.handled=Uo)(VF:X s.heap)(l:n<64)(t:∀acc:Array U,aj8 P acc n->IntsAre acc.toList ns)
  (h:∀(a c:Heap) (g:Nat) (out:Array U) (e:Nat) (f:G Int),(∀b o,s.heap.get? b=S o->a.get? b=S o)->c.get? a.objs.size=S (seqObj "list" out e)->(∀b o,a.get? b=S o->c.get? b=S o)->IntsAre out.toList f->f.Perm ns->f.Pairwise (·<=·)->Q (.ref a.objs.size) {s with heap:=c,toks:=g}):
  wpAny (model Y w) A (call (.builtin "sorted") [.ref r]) Q E s:=by
 show Calls.call_function_entry kind_sorted plain_sorted entry_sorted (args_sorted1 _) (Ld (UB (Ld (PySem.W.collect_kdl K p VF (by rw[WB];ext) (λa g acc m C=>Ld (aj7 ?_ (hsz:=by rw[V9,C.1,WB];ext)))))));let i:(a.push (seqObj "list" acc.toList.toArray 0)).get? a.objs.size=S (seqObj "list" acc.toList.toArray 0):=cv _ W;let j:=t acc C;show Ld (WJ (Xe slot_list_sort #[_,i,W] entry_list_sort (list_sort_tree i j (by rw[V9,C.1];show l) λout f y v u=>#[_,W,UB #[_,W,?_]]) (args_list_sort _)));let(e,q):=qN i;show h a _ g out e f m q (λb B z=>mL (UY (cn z)) (ck _ z)) y v u
end
end PyProof.Rows
namespace L10
open PySem PySem.Spec PyProof.Rows L2 L3
def R0(p d:M):HO:=.ext λh=>h.IsValuesView p d
theorem QT(x:h.IsValuesView p d):ObjOk g w H h p (R0 p d):=#[x,let#[o,a,_]:=x;#[o,a],λf e #[o,a,b] k=>#[o,k o a,b]]
def Lz:V->G V->Hp->VK->Prop:=λx b H Q=>∃a e,x=.ref a/\b=[]/\H a=S (.dK e)/\∀p,H p=P->Q (.ref p) (aW H p (R0 p a))
def Bx:RM X "dict.values" Lz:=by intro g s m H x xs v n Q I i f h;let(a,r,rfl,rfl,e,q):=h;ext i;ext f;let(z,l,p,j,dd):=wS I.VF e;show call_meetsIn aag dd.typeIs PySem.F.entry_dict_values (PySem.F.args_dict_values_1 _) (meets_dict_values (ci X.prog X.w) a l) #[#[p,dd],?_];show#[.ref s.heap.objs.size,_,I.laid (λb o e=>ck _ e) (UC _) (QT #[_,cv _ W,W,W]),W,q _ (I.VF.fresh (UC _))]
def Fr:G V->Hp->VK->Prop:=λxs H Q=>∃p a b,xs=[.ref p]/\H p=S (R0 p a)/\H a=S (.dK b)/\∀l,H l=P->Q (.ref l) (aW H l (.lst (b.map (·.2))))
def Hn:∀{c:G (o×V)} {b:G (o×U)},KV c b->Vals (c.map (·.2)) (b.map (·.2)):=by
 intro _ _ a
 induction a with
 |nil=>show .nil
 | @cons _ _ _ _ h t e=>show .cons h.2 (e)
def yf(n:X.calm=R):WM X (.type "list") Fr:=by intro g s C H xs E Q I r h;let(p,a,N,rfl,w,e,q):=h;let(u,rfl,l):=j4 r;ext l;let(z,G,T,b,dd):=wS I.VF e;let(K,B):=dd.dictAt;let(i,_,_):=I.VF p _ w;show PySem.W.kdl_call (PySem.W.kdl_values) (I.ok.hd n) #[i,B] (by rw[<-b.length];show z) λJ F f c m t L=>?_;let A:=PySem.W.kdl_vals_eq f.toList (by rw[V9];show L.1) λj v y=>L.2 j v (by rw[<-YG];show y);show#[.ref s.heap.objs.size,_,I.laid (o:=.lst (N.map (·.2))) m (UC _) #[by rw[Us];show z,f.toList,c,by rw[A];show Hn b,by rw[Array.toArray_toList];show t],W,q _ (I.VF.fresh (UC _))]
def xy:G V->Hp->VK->Prop:=λxs H Q=>∃(p:M) (e:G (b5×V)) (a:G Int),xs=[.ref p]/\H p=S (.dK e)/\e.map (·.1)=a.map Sum.inl/\a.length<64/\∀(l:M) (b:G Int),H l=P->b.Perm a->b.Pairwise (·<=·)->Q (.ref l) (aW H l (.lst (b.map V.int)))
theorem ox:∀{c:G (b5×U)} {a:G Int} {us:G U},c.map (·.1)=a.map Sum.inl->us.length=c.length->(∀(j:Nat) (u:U),us[j]?=S u->∃k x,c[j]?=S (k,x)/\(ci prog w).is k u=R)->IntsAre us a
 |[],[],[],_,_,_=>.nil
 |[],[],_::_,_,h,_=>by simp at h
 |[],_::_,_,h,_,_=>by simp at h
 |_::_,[],_,h,_,_=>by simp at h
 |_::_,_::_,[],_,h,_=>by simp at h
 |(k,y)::c,n::a,u::us,h1,m,l=>by rw[UK,UK,alT]at h1;let(i,x,e,f):=l 0 u W;ext e;let g:=h1.1;subst g;let(t,rfl):=CL.isInt_shape (show CL.isInt n u=R from f);show .cons _ _ (ox h1.2 (by simpa using m) λj b e=>l (j+1) b (by simpa using e))
def yP(E:X.calm=Uq):WM X (.builtin "sorted") xy:=by
 intro i s N H xs O Q I r h;let(p,UZ,l,rfl,e,J,F,q):=h;let(u,rfl,t):=j4 r;ext t;let(z,C,vs,b,dd):=wS I.VF e;let(T,L):=dd.dictAt;let m:vs.map (·.1)=l.map Sum.inl:=by rw[<-b.keys];show J
 let R:vs.length=l.length:=by let:=en Y0 m;simpa using this
 show xU (PySem.W.kdl_dict C) (I.ok.hd E) L () (λM Y=>ox m (by rw[V9];show Y.1) λj v K=>Y.2 j v (by rw[<-YG];show K)) λG S P f e2 w A B g Y n y=>?_;let a:=n.length_eq;let o:=I.kept (t':=s.toks) A;show#[.ref G.objs.size,_,o.laid g (UC _) ?_,W,q _ w (o.VF.fresh (UC _)) n y];show#[?_,f.toList,e2,ib Y,B];rw[Us,a];let:(64:Nat)<=UD:=by decide
 ext
end L10
namespace PySem
open Sem (wp)
namespace F
def lk_tuple_keys:typeLookup (.type "tuple") "keys"=pure P:=by rw[ag3,adq];kernel_rfl
def lk_tuple_hook:typeLookup (.type "tuple") "__getattr__"=pure P:=by rw[ag3,adq];kernel_rfl
def sub_ae:isSubtype (.type "AttributeError") (.type "AttributeError")=pure R:=by rw[isSubtype_type];kernel_rfl
end F
section
variable{Y:UR}{w:Va}{A:U4}{E:CL->Uw->Prop}{h:Heap}{g:Array YX}{d:acu}{t:Nat}{X:abi}{a:Uu}{o:Obj}
def xp{α:Type}{name f:Str}{Q:α->Uw->Prop}{E:U->Uw->Prop}(hm:f.length<=UD)(l:A.handled=P)(i:∀e c k,(∀b o,h.get? b=S o->c.get? b=S o)->(#[c,g,d,k,X]:Uw).TypeIs e "AttributeError"->E e #[c,g,d,k,X]):
  wpAny (model Y w) A (raiseAttrError (.ref a) name f:Sem α) Q E #[h,g,d,t,X]:=by
 let j:¬f.length>UD:=Nat.not_lt.mpr hm;unfold raiseAttrError newExc newTuple
 repeat (any_goals (first|assumption|wp_step))
 show aaP (a:=R) F.sub_ae ?_
 repeat (any_goals (first|assumption|wp_step))
 show ad8 l (i _ _ _ (λb o e=>?_) ?_)
 .show(da _ _ (eg (UY (cn (ck _ e))))).trans (ck _ (ck _ e))
 .show#[_,dt _ (cv _ W) W,W]
def mi{f:Tok}{Q:Fin->Uw->Prop}{E:U->Uw->Prop}{p:Array U}{n:Nat}{i:Array (z U)}(j:h.get? a=S #[.type "tuple",P,.seq p n,i])(m:A.handled=P)(l:∀e c k,(∀b o,h.get? b=S o->c.get? b=S o)->(#[c,g,d,k,X]:Uw).TypeIs e "AttributeError"->E e #[c,g,d,k,X]):
  wpAny (model Y w) A (Vx.«object.__getattribute__» #[[.ref a,.str "keys" f],[]]) Q E #[h,g,d,t,X]:=by
 let q:(#[h,g,d,t,X]:Uw).TypeIs (.ref a) "tuple":=#[_,j,W];let r:=F.lk_tuple_keys
 repeat (any_goals (first|assumption|wp_step))
 show xp (by left) m l
def re{f:Tok}{Q:U->Uw->Prop}{E:U->Uw->Prop}{u:Array U}{n:Nat}{l:Array (b4 U)}(i:h.get? a=S #[.type "tuple",P,.seq u n,l])(q:A.handled=P)(m:∀e c k,(∀b o,h.get? b=S o->c.get? b=S o)->(#[c,g,d,k,X]:Uw).TypeIs e "AttributeError"->E e #[c,g,d,k,X]):
  wpAny (model Y w) A (getAttrBy (.ref a) (.str "keys" f) Ut) Q E #[h,g,d,t,X]:=by
 let r:(#[h,g,d,t,X]:Uw).TypeIs (.ref a) "tuple":=#[_,i,W];let z:=F.slot_tuple_getattribute.lookup;let y:=F.slot_tuple_getattribute.bind (.ref a);let v:=F.lk_tuple_hook
 repeat (any_goals (first|assumption|wp_step))
 show WC F.slot_tuple_getattribute.plain F.entry_tuple_ga (F.slot_tuple_getattribute.check _ _ _ _ _ _ _ _ r (F.args_tuple_getattribute_2 _ _) (mi i q λe c k p j=>?_));let fs:=F.sub_ae;show wpAny (model Y w) A (getattributeRaised (CL.ref a) (CL.str (Str.ofString "keys") f) (CL.type "tuple") e P Ut Ut) Q E _;ext getattributeRaised;show Ld (aaw j fs ?_)
 repeat (any_goals (first|assumption|wp_step))
 show m e c k p j
def nA(f:h.get? a=S #[.type "tuple",P,.seq I n,C])(l:A.handled=P)(i:∀c k,(∀b o,h.get? b=S o->c.get? b=S o)->Q P #[c,g,d,k,X]):
  wpAny (model Y w) A (getAttr? (.ref a) "keys") Q E #[h,g,d,t,X]:=by
 unfold getAttr? getAttrBy?;let fs:=F.sub_ae;show Ld ?_
 repeat (any_goals (first|assumption|(specialize re f l λe c k j m=>?_)|wp_step))
 show i c k j
namespace F
theorem entry_upd_loop:entryFor table "dict.update.loop"=S Vx.«dict.update.loop»:=entryFor_of_tree (by kernel_rfl)
def plain_upd_loop:plainId "dict.update.loop"=R:=by left
end F
end
section
variable{prog:UR}{w:Va}{A:U4}{E:CL->Uw->Prop}{s:Uw}{K:Type}[DecidableEq K]{knd:KeyKind prog w K}{I dd Y:Uu}{Z:Array CL}{ks:b3 (K×CL)}{R:aau->Uw->Prop}
def yK(a:G (K×U))(k:K)(v:U):(stored a k v).length<=a.length+1:=by
 ext stored;split
 .rw[Us];ext
 .rw[Uz];show UC _
theorem mP:∀(a c:G (K×U)),(merged c a).length<=c.length+a.length
 |[],c=>UC _
 |p::r,c=>by let e:=mP r (stored c p.1 p.2);let b:=yK c p.1 p.2;show(merged (stored c p.1 p.2) r).length<=_;rw[UJ];ext
def x5(a:G (K×U)):(merged [] a).length<=a.length:=by let:=mP a [];simpa using this
def FC{P:Heap}(D:A.handled=Uo)(Za:Y≠I)(O:I≠dd)(N:Y≠dd)(d:∀(i:Nat) (v:CL),Z[i]?=cL v->∃q key k x,v=.ref q/\q≠dd/\q≠I/\ks[i]?=cL (k,x)/\knd.is k key=Uq/\P.IsTuple q #v[key,x])(hs:ks.length=Z.size)(hz:Z.size<=UD)
  (V:∀c l,c.DictOf knd dd (merged [] ks)->(∀b o,b≠dd->b≠I->P.get? b=cL o->c.get? b=cL o)->R (.ok (.ret .none)) {s with heap:=c,toks:=l}):
  ∀(m i:Nat) (h:Heap) (l:Nat),Z.size - i=m->i<=Z.size->h.IsTupleIter I Y i->h.IsTuple Y Z->h.DictOf knd dd (merged [] (ks.take i))->(∀b o,b≠dd->b≠I->P.get? b=cL o->h.get? b=cL o)->
   codeAny (model prog w) A (.builtin "dict.update.loop" #[[.ref dd,.ref I,rawInt i,.none],[]]) R {s with heap:=h,toks:=l}:=by
 let W:=Walks.tuple (prog:=prog) (w:=w) (A:=A.in1) D I Y Za Z;intro m
 induction m with
 |zero=>
  intro i h l hm hi B u t r;let e:i=Z.size:=by ext
  subst e;show Xs F.entry_upd_loop ?_;rw[U4.under_plainId F.plain_upd_loop _];show Ld (W.done _ _ _ #[B,u] λc f g=>?_);rw[List.take_of_length_le ()]at t;show Ld (UB (UB ?_));show V c f (t.at λo e=>g dd o (by simp;show λz=>O z.symm) e) λb o j a e=>g b o (by simp;show a) (r b o j a e)
 |succ m ih=>
  intro i h l hm hi B u t r;let T:i<Z.size:=by ext
  show Xs F.entry_upd_loop ?_;rw[U4.under_plainId F.plain_upd_loop _];show Ld (W.item i _ _ _ T #[B,u] λv c f hv S g=>?_);let(q,key,k,x,rfl,G,n,J,H,ht):=d i v hv;let C:=ht.at λo e=>g q o (by simp;show n) (r q o G n e);let Q:=t.at λo e=>g dd o (by simp;show λz=>O z.symm) e;let y:=λb o j a e=>g b o (by simp;show a) (r b o j a e);let(oq,p,M,nq,L):=C;let(cq,dq,dtq,U):=oq;ext M;ext L;let hT:({s with heap:=c,toks:=f}:Uw).TypeIs (.ref q) "tuple":=#[_,p,rfl];show Ld (WJ (Ld ?_));show Zs ?_;ext Vx.Dict.pairItems;show Ld (acG hT ?_);rw[ax ()];show Ld ?_;unfold seqItems?;show Ld (aey p (UB (UB ?_)));show WJ (wpAny_dictSet_pairs H Q (λa d2 X=>?_) ?_)
  .show UB #[Xm F.plain_upd_loop _,?_];let e2:∀b o,b≠dd->c.get? b=cL o->a.get? b=cL o:=λb o hb e=>(X.2 b hb).trans e;show ih (i+1) a (f+1) () T (S.1.at λo e=>e2 I o O e) (S.2.at λo e=>e2 Y o N e) ?_ λb o j a e=>e2 b o j (y b o j a e);rw[merged_take_succ [] ks i (k,x) J];show d2
  .let:(merged [] (ks.take i)).length<=(ks.take i).length:=x5 _;rw[V1]at this;ext
end
end PySem
namespace PySem
open Sem (wp)
open PyProof.Rows
section
variable{T:UR}{w:Va}{A:U4}{E:CL->Uw->Prop}{s:Uw}{K:Type}[DecidableEq K]{X:KeyKind T w K}{Y:Uu}{Z:Array CL}{N:b3 (K×CL)}{R:aau->Uw->Prop}
def nK(B:A.handled=P)(z:s.heap.get? Y=S #[.type "tuple",P,.seq Z n,sl])(G:N.length=Z.size)(D:Z.size<=UD)
  (H:∀(i:Nat) (v:U),Z[i]?=S v->∃q key k x,v=.ref q/\N[i]?=S (k,x)/\X.is k key=Uq/\s.heap.IsTuple q #v[key,x])
  (h:∀c d,c.DictOf X s.heap.objs.size (merged [] N)->(∀b o,s.heap.get? b=S o->c.get? b=S o)->Q (.ref s.heap.objs.size) {s with heap:=c,toks:=d}):
  wpAny (model T w) A (call (.type "dict") [.ref Y]) Q E s:=by
 show callType_codes (Q₁:=λobj f=>obj=.ref s.heap.objs.size/\f={s with heap:=s.heap.push {cls:=.type "dict",data:=.dict #v[]}}) F.kt_called_dict (F.kt_typeCall_dict_1 _) F.entry_dict_init (kt_code_dict_new _ #[W,W]) ?_;rintro obj f ⟨rfl,rfl⟩;let a:(s.heap.push {cls:=.type "dict",data:=.dict #v[]}).DictOf X s.heap.objs.size []:=Heap.DictOf.new s.heap;let g:(s.heap.push {cls:=.type "dict",data:=.dict #v[]}).get? Y=S #[.type "tuple",P,.seq Z n,sl]:=ck _ z;let I:({s with heap:=s.heap.push {cls:=.type "dict",data:=.dict #v[]}}:Uw).TypeIs (.ref Y) "tuple":=#[_,g,W];show#[a.typeIs,F.args_dict_init_2 _ _,?_];unfold Vx.«dict.__init__»;show Ld ?_;ext Vx.Dict.selfAndRest;show Ld (wpAny_notOrdered_dict a.typeIs ?_);show UB ?_;show wpAny _ _ (Vx.Dict.updateFrom "dict.__init__" s.heap.objs.size (.ref Y) [] .none) _ _ _;ext Vx.Dict.updateFrom;show Ld (acG I ?_);rw[ax ()];show Ld (nA g B λc C m=>?_);rw[ax (show(P:b4 U).isNone=Uq from rfl)];show Ld (ZS ?_);let l:=m _ _ g;let t:c.IsTuple Y Z:=#[_,l,W,n,W];show Ld (Zh t ?_);show UB #[Xm F.plain_upd_loop _,?_];let PU:s.heap.objs.size<c.objs.size:=by let(o,_,_,p,_):=a;show cn (m _ _ p)
 let j:=cn z;show FC (A:=A.in1) (knd:=X) B (UY (Xv j PU)) (VI PU) (UY j) (λi v e=>?_) G D (λu r M k2=>?_) Z.size 0 _ C () (Vm _) #[_,cv _ W,W,W] #[_,ck _ l,W,n,W] ?_ λb o _ _ e=>e
 .let(q,key,k,x,rfl,L,u,o,p,J):=H i v e;let y:=cn p;show#[q,key,k,x,W,UY y,UY (Xv y PU),L,u,o,ck _ (m _ _ (ck _ p)),J]
 .show#[W,h u r M λb o e=>?_];let lb:=cn e;show k2 b o (UY lb) (UY (Xv lb PU)) (ck _ (m _ _ (ck _ e)))
 .let:=a.at (h':=c.push {cls:=.type "tuple_iterator",data:=.fields #v[.ref Y,.int 0 0]}) λo e=>ck _ (m _ _ e);show this
end
end PySem
namespace L10
open PySem PySem.Spec PyProof.Rows L2 L3
inductive aap(K:lD)(H:Hp):G V->G (b5×V)->Prop
 |nil:aap K H [] []
 |cons {q:M} {k:b5} {v:V} {vs:G V} {UZ:G (b5×V)}:Yt K H q [kV k,v]->aap K H vs UZ->aap K H (.ref q::vs) ((k,v)::UZ)
def xg(K:lD):G V->Hp->VK->Prop:=λxs H Q=>∃p ys a,xs=[.ref p]/\Yt K H p ys/\aap K H ys a/\∀d,H d=P->Q (.ref d) (aW H d (.dK (lX [] a)))
theorem CF(I:Inv X pins σ H s):∀{j:G V} {B:G (b5×V)} {us:G U},aap X.K H j B->Vals j us->∃d:G (b5×U),KV B d/\d.length=us.length/\∀(i:Nat) (v:U),us[i]?=S v->∃q key k x,v=.ref q/\d[i]?=S (k,x)/\(ci X.prog X.w).is k key=R/\s.heap.IsTuple q #v[key,x]
 |_,_,_,.nil,.nil=>#[[],.nil,W,λi v e=>by simp at e]
 |_,_,_,.cons (q:=q) (k:=k) (v:=v) h t,.cons r rs=>by
  let(d,p,o,n):=CF I t rs;let(y,C,pl,_):=I.tuple h;ext r;obtain⟨g,f,rfl,m,l⟩:∃g f,y=[g,f]/\RelV (kV k) g/\RelV v f:=by
   cases C with
   |cons a b=>cases b with
    |cons b c=>ext c;show#[_,_,W,a,b]
  show#[(k,f)::d,.cons #[W,l] p,by rw[UJ,UJ,o],λi u e=>?_];cases i with
  |zero=>ext e;show#[q,g,k,f,W,W,sd m,pl]
  |succ i=>show n i u (by simpa using e)
def yJ(E:X.calm=Uq):WM X (.type "dict") (xg X.K):=by
 intro f s F H xs J Q I r h;let(p,G,Y,rfl,t,w,q):=h;let(u,rfl,g):=j4 r;ext g;let(R,T,(o,y,(b,n,C),a),m):=I.ae1 t;let(O,k1,k2,k3):=CF I w T;let(N,M,l,j):=o;ext b;ext C;ext a;let z:=T.length;let A:=k1.length;show nK (I.ok.hd E) y (by rw[US];show k2) (by rw[US,<-z];show m) (λi v e=>k3 i v (by simpa using e)) λP L dd B=>?_;show#[.ref s.heap.objs.size,_,I.laid B (UC _) ?_,W,q _ (I.VF.fresh (UC _))];show xq ?_ ?_ (KV.merge k1 .nil) dd
 .let:=jZ Y [];rw[Wt]at this;ext
 .show beq_eq_false_iff_ne.mpr (VI I.big)
end L10
namespace L10
open PySem PyProof.Rows L2 L3
def NZ:Vl "dict"=S (.type "dict"):=by left
section
variable{B O O':bE}{K:lD}{E:XK}{H H' S R:Hp}{Y α' X U:b3 Uu}{ω ω' ω1 Z:aJ}{T:L2.St}{ρ:aP}{v:V}
def rl:SV->z b5
 |.fz (.int i)=>cL (.inl i)
 |.fz (.str x)=>cL (.inr x)
 |_=>P
def n9(e:rl x=cL k)(h:Xn O K H Y v x):v=kV k:=by
 unfold rl at e;split at e
 .ext e;ext h;rfl
 .ext e;ext h;rfl
 .ext e
abbrev ul(O:bE)(K:lD)(H:Hp)(Y:G M):G (b5×V)->G (b5×SV)->Prop:=Paired (λ(p:b5×V) (q:b5×SV)=>p.1=q.1/\Xn O K H Y p.2 q.2)
def gu(ω:aJ):SV->z (Nat×G (b5×SV))
 |.rf i=>match ω[i]? with
  |some (.Zm a)=>cL (i,a)
  |_=>P
 |_=>P
def ki(s:U6 B K H Y ω)(b:Xn (ow B Y ω) K H Y v x)(h:gu ω x=cL (i,o)):ω[i]?=cL (.Zm o)/\∃a ws,Y[i]?=cL a/\v=.ref a/\H a=cL (.dK ws)/\ul (ow B Y ω) K H Y ws o:=by
 cases x with
 |fz d=>ext h
 |tp l=>ext h
 |rf j=>
  let(a,n,rfl):=b;unfold gu at h;dsimp only at h;cases q:ω[j]? with
  |none=>rw[q]at h;ext h
  |some c=>
   rw[q]at h;cases c with
   |Zm m=>let e:=UI h;ext e;let(ws,g,f):=s.cel i a _ n q;show#[q,a,ws,n,W,g,f]
   |_=>ext h
def iK(b:G (b5×SV))(k:b5):z SV:=(b.find? λa=>decide (a.1=k)).map (·.2)
def iR(b:G (b5×SV))(k:b5)(x:SV):G (b5×SV):=
 if(b.any λa=>decide (a.1=k))=Uq then b.map (λa=>if a.1=k then(a.1,x)else a)else b++[(k,x)]
def kj(b:G (b5×SV))(k:b5):G (b5×SV):=b.filter λa=>decide (a.1≠k)
def tf:∀{ws:G (b5×V)} {c:G (b5×SV)},ul O K H Y ws c->(∀x,iK c k=cL x->∃v,iV ws k=cL v/\Xn O K H Y v x)/\(iK c k=P->iV ws k=P):=by
 intro _ _ f
 induction f with
 |nil=>show#[λx e=>(by ext e),λ_=>W]
 | @cons m l ws c j t n=>
  let(a,u):=m;let(b,y):=l;let(i,g):=j;ext i;unfold iK iV;rw[Vg,Vg];by_cases e:a=k
  .simp only[a5 e];show#[λx h=>#[u,W,by ext h;show g],λh=>by ext h]
  .simp only[a6 e];show n
def S5:∀{ws:G (b5×V)} {d:G (b5×SV)},ul O K H Y ws d->(ws.any λc=>decide (c.1=k))=d.any λc=>decide (c.1=k):=by
 intro _ _ e
 induction e with
 |nil=>show W
 | @cons j i ws d h t l=>let(a,u):=j;let(b,y):=i;let(f,g):=h;ext f;rw[XM,XM,l]
def Si(g:Xn O K H Y v x):∀{ws:G (b5×V)} {d:G (b5×SV)},ul O K H Y ws d->ul O K H Y (ws.map (λc=>if c.1=k then(c.1,v)else c)) (d.map (λc=>if c.1=k then(c.1,x)else c)):=by
 intro _ _ f
 induction f with
 |nil=>show .nil
 | @cons n m ws d l t j=>
  let(a,u):=n;let(b,y):=m;let(i,h):=l;ext i;rw[UK,UK];by_cases e:a=k
  .rw[ax e,ax e];show .cons #[W,g] (j)
  .rw[a4 e,a4 e];show .cons #[W,h] (j)
def CW(h:ul O K H Y ws o)(r:p.1=q.1/\Xn O K H Y p.2 q.2):ul O K H Y (ws++[p]) (o++[q]):=by
 induction h with
 |nil=>show .cons r .nil
 |cons a _ b=>show .cons a b
def zr(a:Xn O K H Y v x)(h:ul O K H Y ws o):ul O K H Y (g6 ws k v) (iR o k x):=by
 unfold g6 iR;rw[S5 h];split
 .show Si a h
 .show CW h #[W,a]
def EJ:∀{ws:G (b5×V)} {c:G (b5×SV)},ul O K H Y ws c->ul O K H Y (kW ws k) (kj c k):=by
 intro _ _ f
 induction f with
 |nil=>show .nil
 | @cons m l ws c j t i=>
  let(a,u):=m;let(b,y):=l;let(h,g):=j;ext h;unfold kW kj;rw[Yu,Yu];by_cases e:a=k
  .let z:decide (a≠k)=A:=a6 λn=>n e;simp only[z];show i
  .let z:=a5 e;simp only[z];show .cons #[W,g] (i)
def rb(neg:Bool)(a fd:cM):cM:=λρ ω=>(a ρ ω).bind λx ω1=>(fd ρ ω1).bind λo Z=>(RS.Vu Z (rl x)).bind λk Z=>(RS.Vu Z (gu Z o)).bind λp Z=>.ok (.fz (.bool ((iK p.2 k).isSome !=neg))) Z
def FL(h:ul O K H Y ws o):(iV ws k).isSome=(iK o k).isSome:=by
 let(b,a):=tf h;cases q:iK o k with
 |none=>rw[a q];rfl
 |some x=>let(u,e,_):=b x q;rw[e];rfl
def JD(p:b6 K E C J)(hd:b6 K E I fd):b6 K E (QQ C I) (rb A J fd):=by intro B T H Y ω ρ Q s e w;show p B T H Y ω ρ _ s e (w.bind.imp λx X ω1 S e1 h g v m=>?_);show hd B T S X ω1 ρ _ h (e.WQ e1) (g.bind.imp λo U Z R e2 f b u n=>?_);let(k,l,b):=WS.Vu b;let((i,y),j,b):=WS.Vu b;let(_,a,ws,t,rfl,r,q):=ki f n j;show#[a,iV ws k,W,by rw[n9 l m];show aaL.k r,?_];rw[FL q];show WS.now f b _ ?_;rw[ad9];show .bl _
def qC(fd a:cM):cM:=λρ ω=>(fd ρ ω).bind λo ω1=>(a ρ ω1).bind λx Z=>(RS.Vu Z (rl x)).bind λk Z=>(RS.Vu Z (gu Z o)).bind λp Z=>RS.Vu Z (iK p.2 k)
def Fs(hd:b6 K E J fd)(t:b6 K E I fk):b6 K E (K3 J I) (qC fd fk):=by
 intro B T H Y ω ρ Q s e w;show hd B T H Y ω ρ _ s e (w.bind.imp λo X ω1 S e1 j g u r=>?_);show t B T S X ω1 ρ _ j (e.WQ e1) (g.bind.imp λx U Z R e2 f b v p=>?_);let(k,m,b):=WS.Vu b;let((i,L),l,b):=WS.Vu b;let(_,a,ws,N,rfl,C,A):=ki f (r.WQ e2) l;dsimp only at b;cases q:iK L k with
 |none=>rw[q]at b;show b.elim
 |some y=>rw[q]at b;let(z,n,h):=(tf A).1 y q;show#[a,z,W,by rw[n9 m p,<-n];show aaL.k C,WS.now f b z h]
def sH(fd c b:cM):dw:=λρ ω=>(b ρ ω).bind λy ω1=>(fd ρ ω1).bind λo Z=>(c ρ Z).bind λx a=>(RS.Vu a (rl x)).bind λk a=>(RS.Vu a (gu a o)).bind λp a=>if p.2.length<1000000 then .ok (.nx ρ) (a.set p.1 (.Zm (iR p.2 k y)))else .bad
def DQ(hd:b6 K E td fd)(N:b6 K E tk fk)(L:b6 K E tv fv):nI K E (L5 td tk tv) (sH fd fk fv):=by
 intro B T H Y ω ρ D s g w;show L B T H Y ω ρ _ s g (WS.imp (WS.bind w) λy X ω1 S e1 F A n m=>?_);show hd B T S X ω1 ρ _ F (g.WQ e1) (WS.imp (WS.bind A) λo U Z R e2 C t u M=>?_);show N B T R U Z ρ _ C (g.WQ (e1.trans e2)) (WS.imp (WS.bind t) λx b e j e3 p f z J=>?_);let(k,I,f):=WS.Vu f;let((i,UZ),G,f):=WS.Vu f;let(l,a,ws,ha,rfl,P,q):=ki p (M.WQ e3) G;dsimp only at f;by_cases hn:UZ.length<1000000
 .rw[ax hn]at f;let ev:Ev (ow B b e) j (ow B b e) (aW j a (.dK (g6 ws k n))):=lQ ha l (by nofun);let e4:Wc b e j b (e.set i (.Zm (iR UZ k y))) (aW j a (.dK (g6 ws k n))):=Wc.put ha l (by nofun) (by nofun);let Q:=Paired.length q;show#[a,_,W,by rw[n9 I J];show adi.k P (r9 ()),?_];show f b _ e4 (p.put ha l (by nofun) (by nofun) #[_,av,zr ((m.WQ (e2.trans e3)).ev ev λ_ _ h=>h) (Paired.Yc q λ_ _ r=>#[r.1,r.2.ev ev λ_ _ h=>h])]) T ((g.WQ (e1.trans (e2.trans e3))).WQ e4)
 .rw[a4 hn]at f;show f.elim
def sF(fd a:cM):cM:=λρ ω=>(fd ρ ω).bind λo ω1=>(RS.Vu ω1 (gu ω1 o)).bind λ_ ω1=>(a ρ ω1).bind λx Z=>(RS.Vu Z (rl x)).bind λk Z=>(RS.Vu Z (gu Z o)).bind λp Z=>(RS.Vu Z (iK p.2 k)).bind λy Z=>.ok y (Z.set p.1 (.Zm (kj p.2 k)))
def Da(hd:b6 K E td fd)(J:b6 K E tk fk):b6 K E (GK td tk) (sF fd fk):=by intro B T H Y ω ρ Q s j w;show hd B T H Y ω ρ _ s j (w.bind.imp λo X ω1 S e1 m f u n=>?_);let((P,N),F,f):=WS.Vu f;let(_,a,e,_,rfl,g0,_):=ki m n F;show#[a,W,.inl #[e,.inl g0],?_];show J B T S X ω1 ρ _ m (j.WQ e1) (f.bind.imp λx U Z R e2 l b v I=>?_);let(k,C,b):=WS.Vu b;let((i,UZ),A,b):=WS.Vu b;let(g,a',ws,ha,M,L,p):=ki l (n.WQ e2) A;ext M;dsimp only at b;let(y,q,b):=WS.Vu b;let(z,G,t):=(tf p).1 y q;let ev:Ev (ow B U Z) R (ow B U Z) (aW R a (.dK (kW ws k))):=lQ ha g (by nofun);let e4:Wc U Z R U (Z.set i (.Zm (kj UZ k))) (aW R a (.dK (kW ws k))):=Wc.put ha g (by nofun) (by nofun);show#[ws,k,z,L,n9 C I,G,?_];show b U _ e4 (l.put ha g (by nofun) (by nofun) #[_,av,EJ (Paired.Yc p λ_ _ r=>#[r.1,r.2.ev ev λ_ _ h=>h])]) z (t.WQ e4)
def kP(s:U6 B K H Y ω)(a:H p=P)(w:WS K E B H Y ω (PQ B K Q) (.ok (.rf ω.length) (ω++[c])))(f:∀e:Wc Y ω H (Y++[p]) (ω++[c]) (aW H p o),COk (ow B (Y++[p]) (ω++[c])) K (aW H p o) (Y++[p]) p c):Q (.ref p) (aW H p o):=by let b:VZ H (aW H p o):=bj a _;let e:Wc Y ω H (Y++[p]) (ω++[c]) (aW H p o):=Wc.aa7 s.len b a;show w _ _ e (s.aa7 b a (by rw[av];simp) (f e)) _ #[p,by rw[<-s.len];show aU,W]
def v4(fd:cM):cM:=λρ ω=>(fd ρ ω).bind λo ω1=>(RS.Vu ω1 (gu ω1 o)).bind λp ω1=>.ok (.rf ω1.length) (ω1++[.lst (p.2.map (·.2))])
def Gj:∀{ws:G (b5×V)} {b:G (b5×SV)},ul O K H Y ws b->W5 O K H Y (ws.map (·.2)) (b.map (·.2)):=by
 intro _ _ a
 induction a with
 |nil=>show .nil
 | @cons _ _ _ _ h t e=>show .cons h.2 (e)
def Dt(hd:b6 K E I fd):b6 K E (zP Fr (eO (DR K "dict" Lz I) iq)) (v4 fd):=by intro B T H Y ω ρ Q s m w;show hd B T H Y ω ρ _ s m (w.bind.imp λo X ω1 S e1 h f u t=>?_);let((i,L),q,f):=WS.Vu f;let(C,a,ws,J,rfl,g,A):=ki h t q;show#[.inr (.inr (.inl #[W,.inl #[ws,g]])),a,ws,W,W,g,λp y=>?_];let b:VZ S (aW S p (R0 p a)):=bj y _;let n:=h.grow b;let j:=WS.from (Wc.same b) f;show#[p,a,ws,W,av,b _ _ g,λl z=>?_];show kP n z j λe=>#[_,av,Gj (Paired.Yc A λ_ _ r=>#[r.1,(r.2.WQ (Wc.same b)).WQ e])]
def yn:b5->z Int
 |.inl i=>cL i
 |.inr _=>P
def oW(fd:cM):cM:=λρ ω=>(fd ρ ω).bind λo ω1=>(RS.Vu ω1 (gu ω1 o)).bind λp ω1=>(RS.Vu ω1 (aA yn (p.2.map (·.1)))).bind λa ω1=>if a.length<64 then .ok (.rf ω1.length) (ω1++[.lst ((je a).map λi=>SV.fz (.int i))])else .bad
theorem qp:∀{c:G b5} {a:G Int},aA yn c=cL a->c=a.map Sum.inl
 |[],_,e=>by ext e;rfl
 |k::r,a,e=>by
  unfold aA at e;cases k with
  |inr x=>ext e
  |inl i=>
   dsimp only[yn]at e;cases q:aA yn r with
   |none=>rw[q]at e;ext e
   |some b=>rw[q]at e;ext e;rw[UK,<-qp q]
def F6:∀{ws:G (b5×V)} {b:G (b5×SV)},ul O K H Y ws b->ws.map (·.1)=b.map (·.1):=by
 intro _ _ a
 induction a with
 |nil=>show W
 | @cons _ _ _ _ h t e=>rw[UK,UK,h.1,e]
theorem zm(O:bE)(K:lD)(H:Hp)(Y:G M):∀ns:G Int,W5 O K H Y (ns.map V.int) (ns.map λi=>SV.fz (.int i))
 |[]=>.nil
 |n::r=>.cons (.int n) (zm O K H Y r)
def Gy(hd:b6 K E I fd):b6 K E (zP xy (eO I iq)) (oW fd):=by
 intro B T H Y ω ρ Q s h w;show hd B T H Y ω ρ _ s h (w.bind.imp λo X ω1 S e1 g b u n=>?_);let((i,L),m,b):=WS.Vu b;let(A,a,ws,J,rfl,y,t):=ki g n m;let(f,j,b):=WS.Vu b;by_cases hn:f.length<64
 .rw[ax hn]at b;show#[a,ws,f,W,y,by rw[F6 t];show qp j,hn,λl C r q p=>?_];let z:=jx (q.trans (dS f).symm) p (dk f);subst z;show kP g r b λe=>#[_,av,zm _ _ _ _ _]
 .rw[a4 hn]at b;show b.elim
def ou:D->z (b5×SV)
 |.tuple [.int i,d]=>cL (.inl i,.fz d)
 |.tuple [.str x,d]=>cL (.inr x,.fz d)
 |_=>P
def ui:SV->z (G (b5×SV))
 |.fz (.tuple ds)=>aA ou ds
 |_=>P
def BU(e:ui x=cL o):∃ds,x=.fz (.tuple ds)/\aA ou ds=cL o:=by
 unfold ui at e;split at e
 .show#[_,W,e]
 .ext e
def kh(c a:G (b5×SV)):G (b5×SV):=a.foldl (λb e=>iR b e.1 e.2) c
def sG(b:cM):cM:=λρ ω=>(b ρ ω).bind λx ω1=>(RS.Vu ω1 (ui x)).bind λa ω1=>.ok (.rf ω1.length) (ω1++[.Zm (kh [] a)])
theorem wF:∀{k:G V} {ds:G D} {j:G (b5×SV)},L3.Wg O K H k ds->aA ou ds=cL j->∃g,aap K H k g/\ul O K H Y g j
 |_,_,_,.nil,e=>by ext e;show#[[],.nil,.nil]
 |_,_,_,.cons (d:=d) (ds:=ds) h t,e=>by
  unfold aA at e;cases q:ou d with
  |none=>rw[q]at e;ext e
  |some p=>
   rw[q]at e;dsimp only at e;cases i:aA ou ds with
   |none=>rw[i]at e;ext e
   |some j=>
    rw[i]at e;ext e;let(g,k1,k2):=wF t i;unfold ou at q;split at q
    .ext q
     cases h with
     |tup h f=>cases f with
      |cons a b=>cases b with
       |cons b c=>ext c;ext a;show#[(.inl _,_)::g,.cons h.1 k1,.cons #[W,b] k2]
    .ext q
     cases h with
     |tup h f=>cases f with
      |cons a b=>cases b with
       |cons b c=>ext c;ext a;show#[(.inr _,_)::g,.cons h.1 k1,.cons #[W,b] k2]
    .ext q
theorem z7:∀{e:G (b5×V)} {f:G (b5×SV)} {ws:G (b5×V)} {c:G (b5×SV)},ul O K H Y e f->ul O K H Y ws c->ul O K H Y (lX ws e) (kh c f)
 |_,_,_,_,.nil,h=>h
 |(a,u)::e,(b,y)::f,_,_,.cons r t,h=>by let(i,g):=r;ext i;show ul O K H Y (lX (g6 _ a u) e) (kh (iR _ a y) f);show z7 t (zr g h)
def Dk(l:b6 K E o C):b6 K E (zP (xg K) (eO o iq)) (sG C):=by
 intro B T H Y ω ρ Q s f w;show l B T H Y ω ρ _ s f (w.bind.imp λx X ω1 S e1 g b u i=>?_);let(p,q,a):=WS.Vu b;let(ds,rfl,q):=BU q;let a:=a;cases i with
 |tup h j=>let(n,k1,k2):=wF j q;show#[_,_,n,W,h.1,k1,λd m=>kP g m a λe=>#[_,av,z7 (Paired.Yc k2 λ_ _ r=>#[r.1,r.2.WQ e]) .nil]]
end
end L10
namespace PySem
open PyProof.Rows
def jX:z Int->Int->z Int
 |none,x=>S x
 |some m,x=>S (if x>m then x else m)
def Rx:z (Int×Tok)->Array U
 |none=> #v[]
 |some (m,t)=> #v[.int m t,.int m t]
def K0(d:U):z (Int×Tok)->U
 |none=>d
 |some (m,t)=>.int m t
namespace F
def args_maxd(a b:U):checkBuiltinCall "max" #[[a],[("default",b)]]=pure ⟨⟩:=by kernel_rfl
end F
section
variable{prog:UR}{w:Va}{A:U4}{E:CL->Uw->Prop}{R:aau->Uw->Prop}{I l S:Uu}{vs:b3 CL}{d:CL}
def IU(V:A.handled=Uo)(Za:l≠I)(r:S≠I)(O:S≠l){s:Uw}:
  ∀{B:b3 CL} {Y:b3 Int},IntsAre B Y->∀(i:Nat) (h:Heap) (M:Nat) (b:b4 (Int×Tok)) (c:Nat),vs=vs.take i++B->i<=vs.length->h.IsListIter I l i->h.IsList l vs.toArray->h.get? S=cL {cls:=.type "list",dict:=Uo,data:=.seq (Rx b) c,slots:= #v[]}->
  (∀x M D,D.map (·.1)=Y.foldl jX (b.map (·.1))->(∀a o,a≠I->a≠S->h.get? a=cL o->x.get? a=cL o)->R (.ok (.ret (K0 d D))) {s with heap:=x,toks:=M})->
  codeAny (model prog w) A (.builtin "max.loop" #[[.ref I,.none,.ref S],[("default",d)]]) R {s with heap:=h,toks:=M}:=by
 let W:=Walks.list (prog:=prog) (w:=w) (A:=A.in1) V I l Za vs.toArray;intro B Y hi
 induction hi with
 |nil=>
  intro i h M b c u hi it Z Q L;let e:i=vs.toArray.size:=by rw[U9]at u;let:=en Y0 u;rw[V1]at this;rw[US];ext
  show Xs F.entry_max_loop ?_;rw[U4.under_plainId F.plain_max_loop _];show Ld (VW Q rfl ?_);show Ld (Zs (W.done _ _ _ (e▸#[it,Z]) λx g y=>?_));let f:=y S _ (by simpa using r) Q;cases b with
  |none=>show Ld (ZS (UB ?_));show L x g Uo rfl λa o j z e=>y a o (by simpa using j) e
  |some p=>let(m,t):=p;show Ld (aaY f rfl (Ld (XA (UB ?_))) (hz:=by show 2<=UD;decide));show L _ g (cL (m,t)) rfl λa o j z e=>(da _ _ (eg z)).trans (y a o (by simpa using j) e)
 | @cons n t aiD af9 hr ih=>
  intro i h M b c u hi it Z Q L;let X3:i<vs.toArray.size:=by let:=en Y0 u;rw[Uz,V1,UJ]at this;rw[US];ext
  let N:vs[i]?=cL (.int n t):=by rw[u,U8 (by rw[V1];ext),V1,Nat.min_eq_left hi,af0];rfl
  let C:vs=vs.take (i+1)++aiD:=by rw[W2,N];rw[U3];show u
  let G:i+1<=vs.length:=by rw[US]at X3;show X3
  show Xs F.entry_max_loop ?_;rw[U4.under_plainId F.plain_max_loop _];show Ld (VW Q rfl ?_);show Ld (Zs (W.item i _ _ _ X3 #[it,Z] λv x g hP K y=>?_));let ev:v=.int n t:=by let T:=hP;rw[List.getElem?_toArray,N]at T;show(UI T).symm
  subst ev;let f:=y S _ (by simpa using r) Q;let J:(toString "max"++toString ".loop":String)= "max.loop":=by decide
  cases b with
  |none=>
   show wpAny _ A.in1 (updateSeq S (λ_=> #v[CL.int n t,CL.int n t])>>=_) _ _ _;show Ld (aaY f rfl ?_);rw[J];show UB #[Xm F.plain_max_loop _,ih (i+1) _ g (cL (n,t)) _ C G (K.1.at λo e=>?_) (K.2.at λo e=>?_) (dt _ f rfl) λz q U e2 k2=>L z q U e2 λa o j H e=>k2 a o j H ((da _ _ (eg H)).trans (y a o (by simpa using j) e))]
   .show(da _ _ r).trans e
   .show(da _ _ O).trans e
  |some p=>
   let(m,t0):=p;show wpAny _ A.in1 (tryCatch (holding [CL.int n t,CL.int n t] (richCompare .Gt (CL.int n t) (CL.int m t0)>>=_)) _>>=_) _ _ _;let ajn:=CmpOf.ints_gt (prog:=prog) (w:=w) (A:=A.in1) (P:=λ(k:Nat) v=>(k=0/\v=CL.int n t)\/(k=1/\v=CL.int m t0)) (λk=>if k=0 then n else m) λk v u=>by
    rcases u with⟨rfl,rfl⟩|⟨rfl,rfl⟩
    .show#[t,rfl]
    .show#[t0,rfl]
   show Ld (Zs (WJ (Ld (ajn 0 1 _ _ _ _ _ (.inl #[rfl,rfl]) (.inr #[rfl,rfl]) ?_))));show Ld (WJ (WA ?_));show Ld (XA (UB ?_));show wpAny _ A.in1 (if decide (n>m)=Uq then _ else _) _ _ _;by_cases X:n>m
   .rw[ax (a5 X)]
    show Ld (aaY f rfl (Ld (XA ?_)) (hz:=by show 2<=UD;decide));rw[J];show UB #[Xm F.plain_max_loop _,ih (i+1) _ g (cL (n,t)) _ C G (K.1.at λo e=>?_) (K.2.at λo e=>?_) (dt _ f rfl) λz q U e2 k2=>L z q U ?_ λa o j H e=>k2 a o j H ((da _ _ (eg H)).trans (y a o (by simpa using j) e))]
    .show(da _ _ r).trans e
    .show(da _ _ O).trans e
    .rw[e2];show _=af9.foldl jX (cL (if n>m then n else m));rw[ax X];rfl
   .rw[a4 (by rw[a6 X];show UH)];show Ld (XA ?_);rw[J];show UB #[Xm F.plain_max_loop _,ih (i+1) _ g (cL (m,t0)) c C G K.1 K.2 f λz q U e2 k2=>L z q U ?_ λa o j H e=>k2 a o j H (y a o (by simpa using j) e)];rw[e2];show _=af9.foldl jX (cL (if n>m then n else m));rw[a4 X];rfl
def BW(n:A.handled=P)(g:s.heap.IsList l vs.toArray)(r:IntsAre vs ns)
  (q:∀c k b,b.map (·.1)=ns.foldl jX P->(∀a o,s.heap.get? a=cL o->c.get? a=cL o)->Q (K0 d b) {s with heap:=c,toks:=k}):
  wpAny (model prog w) A (call (.builtin "max") [.ref l] [("default",d)]) Q E s:=by
 let j:l<s.heap.objs.size:=by let(_,e,_):=g;show cn e
 let h:(toString "max"++toString ".loop":String)= "max.loop":=by decide
 show Yp (WC F.plain_max F.entry_max (aaP (F.args_maxd _ _) ?_));show Ld (aaP (show Vx.Builtins.bindParams "max" ["key","default"] 0 #[[],[("default",d)]]=pure [P,cL d]from rfl) ?_);show Ld (UB ?_);show Ld (Yg g ?_);show Ld (We ?_);rw[h];let f:(s.heap.push {cls:=.type "list_iterator",data:=.fields #v[.ref l,.int 0 0]}).objs.size=s.heap.objs.size+1:=dN _ _;show UB #[Xm F.plain_max_loop _,IU n (UY j) (by rw[f];show Nat.succ_ne_self _) (by rw[f];show VI (Ym j)) r 0 _ s.toks P 0 W (Vm _) #[_,ck _ (cv _ W),W,W] ((g.push _).push _) (cv _ W) λc k b p m=>?_];show q c k b p λa o e=>?_;let i:=cn e;show m a o (UY i) (by rw[f];show UY (Ym i)) (ck _ (ck _ e))
end
end PySem
namespace L10
open PySem PySem.Spec PyProof.Rows L2 L3
def Lk(K:lD)(i:Int):G V->Hp->VK->Prop:=λxs H Q=>∃(p:M) (a:G Int),xs=[.ref p]/\Ys K H p (a.map V.int)/\Q (.int ((a.foldl jX P).getD i)) H
def Ir(C:X.calm=R)(B:Gl X "max")(hm:X.mg "max"=P)(c:PA X [l] ta)(g:NS l=Ut:=by rfl):
  PE X (.Call (.Name "max" p) [l] [#[S "default",.Constant (.int i) j p1,p2]] pos) (zP (Lk X.K i) ta):=by
 intro e s n H Q I h;show WY (lV I B hm Ml (callWith_kw (bW (c pos e s n H _ I h) λG o #[Y,F,f,v,w]=>?_) (by rw[sC _ _ _ g];rfl) (by rw[sC _ _ _ g];rfl) W W));let(a,y,rfl,z,q):=w;let(u,rfl,r):=j4 v;ext r;let(N,T,pl,L):=f.list z;show ag4 (aew (ag5 ?_));let O:=f.tok (o.toks+1);show BW (f.ok.hd C) pl.isList (kH T) λM J b E A=>?_;show#[.int ((y.foldl jX P).getD i),F,f.kept A,?_,q];rw[<-E];cases b with
 |none=>show#[_,W]
 |some p=>let(m,t):=p;show#[t,W]
def yT(i:Int):G D->z RV
 |[.list ds]=>(mG ds).map λa=>.fz (.int ((a.foldl jX P).getD i))
 |_=>P
def Kr{K:lD}:B7 K (Lk K i) (yT i):=by
 intro O H xs ds p Q n f e q;unfold yT at e;split at e
 .rename_i es
  cases f with
  |cons l j=>
   ext j;cases m:mG es with
   |none=>rw[m]at e;ext e
   |some b=>rw[m]at e;ext e;let(a,o,rfl,h,g):=B5 l;obtain rfl:=om g m;show#[a,b,W,h.sq,q.at (.int _)]
 .ext e
end L10
namespace L10
open PySem L2 L3
section
variable{B O O':bE}{K:lD}{E:XK}{H H' H1 H2:Hp}{X Y U α2:b3 Uu}{ω Z ω1 ω2:aJ}{σ:L2.St}{ρ:aP}{v:V}
def fW{l r:G a}(h:(l++r)[i]?=S y):l[i]?=S y\/∃j,i=l.length+j/\r[j]?=S y:=by
 by_cases hi:i<l.length
 .rw[U0 hi]at h;show .inl h
 .rw[U8 ()]at h;show .inr #[i - l.length,by ext,h]
def Jw{l r:G a}{i:Nat}(h:l[i]?=S y):(l++r)[i]?=S y:=by rw[U0 (Ux.mp h).1];show h
def Dv{l r:G a}(h:r[i]?=S y):(l++r)[l.length+i]?=S y:=by rw[U8 (),YA];show h
def Ee(g:X.length=ω.length)(h:Lv (X++o) (ω++cs) b):Lv X ω b\/b∈o:=by
 let(i,d,f,e,a):=h;rcases fW f with g1|⟨j,e1,g1⟩
 .rcases fW e with g2|⟨k,e2,g2⟩
  .show .inl #[i,d,g1,g2,a]
  .let:=(Ux.mp g1).1;ext
 .show .inr (Vj g1)
theorem Wc.aaC(s:U6 B K H X ω)(e:VZ H H')(f:∀p∈ps,H p=P):Wc X ω H (X++ps) (ω++cs) H':=
 #[λi a h=>Jw h,λb u q _=>e b u q,λb z=>(Ee s.len z).imp id λz=>f b z]
def U6.aaC(s:U6 B K H X ω)(e:VZ H H')(f:∀p∈ps,H p=P)(m:∀p∈ps,H' p≠P)(nd:∀(i j:Nat) (a:M),ps[i]?=S a->ps[j]?=S a->i=j)(t:ps.length=cs.length)
  (new:∀(i:Nat) (a:M) (c:Cell),ps[i]?=S a->cs[i]?=S c->COk (ow B (X++ps) (ω++cs)) K H' (X++ps) a c):U6 B K H' (X++ps) (ω++cs):=by
 let ev:Wc X ω H (X++ps) (ω++cs) H':=Wc.aaC s e f;let n:∀b,H b≠P->H' b≠P:=λb h z=>h (e.free z);show#[by rw[Uz,Uz,s.len,t],λi j a g l=>?_,λa h=>n a (s.bn a h),λa h i q=>?_,λi a h=>?_,λi a d g l=>?_]
 .rcases fW g with g1|⟨y,e1,g1⟩<;>rcases fW l with g2|⟨u,e2,g2⟩
  .show s.nd i j a g1 g2
  .show bg (f a (Vj g2)) (s.al i a g1)
  .show bg (f a (Vj g1)) (s.al j a g2)
  .let:=nd y u a g1 g2;ext
 .rcases fW q with q|⟨j,_,q⟩
  .show s.ba a h i q
  .show s.bn a h (f a (Vj q))
 .rcases fW h with h|⟨j,_,h⟩
  .show n a (s.al i a h)
  .show m a (Vj h)
 .let r:=s.len
  rcases fW l with g2|⟨j,e2,g2⟩
  .rcases fW g with g1|⟨k,e1,g1⟩
   .show(s.cel i a d g1 g2).ev ev.ev ev.pre λo q=>e _ _ q
   .let:=(Ux.mp g2).1;ext
  .rcases fW g with g1|⟨k,e1,g1⟩
   .let:=(Ux.mp g1).1;ext
   .let:k=j:=by ext
    subst this;show new k a d g1 g2
def B3(Z:aJ):Nat->G AV->z (G AV×G (G D)×G Nat)
 |_,[]=>S ([],[],[])
 |n,.fz d::r=>match B3 Z n r with
  |some (l,cs,a)=>S (.fz d::l,cs,a)
  |none=>P
 |n,.rf i::r=>match sh Z (.rf i)with
  |some (.list ds)=>(match B3 Z (n+1) r with
   |some (l,cs,a)=>S (.rf n::l,ds::cs,i::a)
   |none=>P)
  |_=>P
def RT(ds:G D):Cell:=.lst (ds.map .fz)
def oa(x:SV)(Z ω:aJ):RS SV:=match x with
 |.fz d=>.ok (.fz d) ω
 |.rf i=>(match sh Z (.rf i)with
  |some (.list ds)=>j6 ω (.ow ds)
  |_=>.bad)
 |.tp l=>(match B3 Z ω.length l with
  |some (a,cs,b)=>if b.Nodup then .ok (.tp a) (ω++cs.map RT)else .bad
  |none=>.bad)
def nY(h:sh ω (.rf i)=S (.list ds)):∃xs,ω[i]?=S (.lst xs)/\aA vB xs=S ds:=by
 unfold sh at h;dsimp only at h;cases q:ω[i]? with
 |none=>rw[q]at h;ext h
 |some c=>
  rw[q]at h;cases c with
  |lst xs=>
   dsimp only at h;cases a:aA vB xs with
   |none=>rw[a]at h;ext h
   |some es=>rw[a]at h;ext h;show#[xs,W,a]
  |_=>ext h
def iB(s:U6 B K H X ω)(h:sh ω (.rf i)=S (.list ds)):∃a c,X[i]?=S a/\H a=S (.lst c)/\L3.Wg (ow B X ω) K H c ds/\ow B X ω a:=by let(xs,b,f):=nY h;let(a,l):=s.at b;let(c,j,g):=s.cel i a _ l b;show#[a,c,l,j,ky (cK (R:=Xn (ow B X ω) K H X) (λv x y r e=>yD r e) g f),.inr #[i,_,l,b,by intro z;ext z]]
def QH{o:bE}(s:U6 o K H' Y Z):∀{n:Nat} {l u:b3 AV} {cs:b3 (b3 D)} {g:b3 Nat} {xs:b3 V},B3 Z n l=S (u,cs,g)->Paired (AOk (ow o Y Z) K H' Y) xs l->
  ∃c:b3 Uu,c.length=g.length/\cs.length=g.length/\(∀(k j:Nat),g[k]?=S j->∃a ds Q,c[k]?=S a/\cs[k]?=S ds/\Y[j]?=S a/\H' a=S (.lst Q)/\L3.Wg (ow o Y Z) K H' Q ds/\ow o Y Z a)/\
   ∀(b:b3 Uu),b.length=n->Paired (AOk (ow o Y Z) K H' (b++c)) xs u:=by
 intro n l u cs g xs e p
 induction p generalizing n u cs g with
 |nil=>ext e;show#[[],W,W,λk j h=>by simp at h,λb _=>.nil]
 | @cons _ x _ r h t ih=>
  cases x with
  |fz d=>
   unfold B3 at e;cases q:B3 Z n r with
   |none=>rw[q]at e;ext e
   |some p=>let(I,F,w):=p;rw[q]at e;ext e;let(c,C,A,z,y):=ih q;show#[c,C,A,z,λb f=>.cons h (y b f)]
  |rf i=>
   unfold B3 at e;cases T:sh Z (.rf i)with
   |none=>rw[T]at e;ext e
   |some d=>
    rw[T]at e;cases d with
    |list ds=>
     dsimp only at e;cases q:B3 Z (n+1) r with
     |none=>rw[q]at e;ext e
     |some p=>
      let(I,F,w):=p;rw[q]at e;ext e;let(c,C,A,z,y):=ih q;let(a,Q,ha,J,M,L):=iB s T;show#[a::c,by rw[UJ,UJ,C],by rw[UJ,UJ,A],λk j G=>?_,λb f=>?_]
      .cases k with
       |zero=>ext G;show#[a,ds,Q,W,W,ha,J,M,L]
       |succ k=>show z k j (by simpa using G)
      .let e2:b++a::c=(b++[a])++c:=by simp
       let(N,m,rfl):=h;rw[ha]at m;ext m;show .cons #[a,by rw[<-f];show Dv (l:=b) (r:=a::c) (i:=0) W,W] ?_;rw[e2];show y (b++[a]) (by rw[Uz,f];rfl)
    |_=>ext e
def Bl(s:U6 B K H X ω)(w:WS K E B H X ω (PQ B K Q) (oa x Z ω))(D:Wc [] [] H Y Z H')(G:U6 (ow B X ω) K H' Y Z)(J:Xn (ow (ow B X ω) Y Z) K H' Y v x):Q v H':=by
 let C:=λb o h=>D.kp b o h λ#[i,c,q,_]=>by simp at q
 let sub:∀b,ow B X ω b->ow (ow B X ω) Y Z b:=λb z=>.inl z;let fr:=λi a c R h2 h3=>(D.lv a #[i,c,R,h2,h3]).elim (λ#[i,c,q,_]=>by simp at q) id;cases x with
 |fz d=>show w X H' (Wc.same C) (s.grow C) v (DV.ev (Ev.sub sub) J)
 |rf i=>
  unfold oa at w;dsimp only at w;cases qs:sh Z (.rf i)with
  |none=>rw[qs]at w;show w.elim
  |some d=>
   rw[qs]at w;cases d with
   |list ds=>let(a,vs,ha,R,hd,M):=iB G qs;let(xs,e,_):=nY qs;let(a',F,rfl):=J;rw[ha]at F;ext F;show qK s w C (fr i a _ ha e (by nofun)) R hd sub M
   |_=>show w.elim
 |tp l=>
  unfold oa at w;dsimp only at w;cases qg:B3 Z ω.length l with
  |none=>rw[qg]at w;show w.elim
  |some p=>
   let(l',cs,I):=p;rw[qg]at w;dsimp only at w;by_cases hn:I.Nodup
   .rw[ax hn]at w
    let(a,xs,rfl,ht,hl):=J;let(ps,g1,g2,g3,g4):=QH G qg hl;let A:∀(k:Nat) (b:Uu),ps[k]?=cL b->∃j ds vs,I[k]?=cL j/\cs[k]?=cL ds/\Y[j]?=cL b/\H' b=cL (.lst vs)/\L3.Wg (ow (ow B X ω) Y Z) K H' vs ds/\ow (ow B X ω) Y Z b:=λk b hb=>by
     let f:k<I.length:=by rw[<-g1];show(Ux.mp hb).1
     let(b',ds,vs,e,y,u,m,t,g):=g3 k _ (UE f);rw[hb]at e;ext e;show#[_,ds,vs,UE f,y,u,m,t,g]
    let nB:∀(j:Nat) (b:Uu),Y[j]?=cL b->ow (ow B X ω) Y Z b->H b=Uo:=λj b N M=>by
     rcases M with z|⟨i,c,z1,z2,z3⟩
     .show bg N (G.ba b z j)
     .show fr i b c z1 z2 z3
    let fp:∀p∈ps,H p=Uo:=λp L=>by let(k,f):=XF.mp L;let(j,ds,vs,e,y,u,m,t,g):=A k p f;show nB j p u g
    let n:∀b,ow B (X++ps) (ω++cs.map RT) b->ow (ow B X ω) Y Z b:=λb z=>by
     rcases z with z|z
     .show .inl (.inl z)
     .rcases Ee s.len z with z|z
      .show .inl (.inr z)
      .let(k,f):=XF.mp z;let(j,ds,vs,e,y,u,m,t,g):=A k b f;show g
    let ev:=Wc.aaC (cs:=cs.map RT) s C fp;show w (X++ps) H' ev (s.aaC C fp (λp L=>?_) (λi j b hi N=>?_) (by rw[Us,g1,g2]) λi b c hi T=>?_) (.ref a) #[a,xs,W,ht.ev (Ev.sub n),Paired.Yc (g4 X s.len) λ_ _ r=>r.ev (Ev.sub n) λ_ _ h=>h]
    .let(k,f):=XF.mp L;let(j,ds,vs,e,y,u,m,t,g):=A k p f;rw[m];simp
    .let(j1,_,_,S,_,p3,_):=A i b hi;let(j2,_,_,r1,_,r3,_):=A j b N;let:=G.nd j1 j2 b p3 r3;subst this;let P:=(Ux.mp S).1;show(List.getElem?_inj P hn).mp (S.trans r1.symm)
    .let(j,ds,vs,e,y,u,m,t,g):=A i b hi;rw[UG,y]at T;ext T;show#[vs,m,iC _ _ (t.ev (Ev.sub n))]
   .rw[a4 hn]at w;show w.elim
def oG(F:fD)(n:Nat)(xs:G SV)(ω:aJ):RS SV:=if xs.length=n then(match aA vB xs with
 |some ds=>(match F (ds.map .fz) []with
  |.ok x Z=>oa x Z ω
  |.er x _=>.er x ω
  |.bad=>.bad)
 |none=>.bad)else .bad
def j9(F:fD)(n:Nat)(a:wM):cM:=λρ ω=>(a ρ ω).bind λxs ω1=>eF (oG F n xs ω1)
theorem Eh(h:∀a,B a->H a≠P):U6 B K H [] []:=#[W,λi j a h=>by simp at h,h,λa h i=>by simp,λi a h=>by simp at h,λi a c h=>by simp at h]
theorem zh:∀{xs:G SV} {ds:G D},aA vB xs=S ds->xs=ds.map .fz
 |[],_,e=>by ext e;rfl
 |x::r,ds,e=>by
  unfold aA at e;cases x with
  |fz d=>
   dsimp only[vB]at e;cases q:aA vB r with
   |none=>rw[q]at e;ext e
   |some es=>rw[q]at e;ext e;rw[UK,<-zh q]
  |rf i=>ext e
  |tp l=>ext e
def Dl(s:U6 B K H X ω)(e:W5 (ow B X ω) K H X C xs)(w:WS K E B H X ω (PQ B K Q) (oG F n xs ω)):jW K n F C H Q E:=by
 unfold oG at w;by_cases hn:xs.length=n
 .rw[ax hn]at w
  show#[e.length.trans hn,?_];cases q:aA vB xs with
  |none=>rw[q]at w;show w.elim
  |some ds=>
   rw[q]at w;dsimp only at w;let l:=zh q;show#[ow B X ω,[],[],ds.map .fz,Eh s.owd,?_,?_]
   .rw[l]at e;show iC _ _ ((Fg e).ev (Ev.sub λb z=>z.elim id λ#[i,c,q,_]=>by simp at q))
   .cases m:F (ds.map .fz) []with
    |bad=>rw[m]at w;show w.elim
    |ok x Z=>rw[m]at w;show λY H' f j v a=>Bl s w f j a
    |er x Z=>
     rw[m]at w;intro c p Y H' f j k;let g:=λb o h=>f.kp b o h λ#[i,c,q,_]=>by simp at q
     show w c p X H' (Wc.same g) (s.grow g) (XOk.sub (λb z=>.inl z) k)
 .rw[a4 hn]at w;show w.elim
def AQ(c:sO K E o C):b6 K E (jp (jW K n F) [] E0 o) (j9 F n C):=by intro B σ H X ω ρ Q s b w;show c B σ H X ω ρ _ s b (w.bind.imp λxs U ω1 H1 e1 e a g f=>?_);rw[U9];show Dl e f (WS.e0 a)
def QJ(F:fD):FN:=λds=>match F (ds.map .fz) []with
 |.ok (.fz d) _=>.ok (.fz d)
 |.ok (.rf i) ω=>(match sh ω (.rf i)with
  |some (.list ds)=>.ok (.ow ds)
  |_=>.bad)
 |.ok (.tp _) _=>.bad
 |.er x _=>.er x
 |.bad=>.bad
def ON(h:Bh K n (QJ F) vs H Q E):jW K n F vs H Q E:=by
 let(u,B,ds,A,G,w):=h;show#[u,B,[],[],ds.map .fz,Eh A,iC _ _ (G.ev (Ev.sub λb z=>z.elim id λ#[i,c,q,_]=>by simp at q)),?_];unfold QJ at w;cases L:F (ds.map .fz) []with
 |bad=>rw[L]at w;show w.elim
 |er x Z=>rw[L]at w;intro c T Y H' f j k;show w c T H' (λb o h=>f.kp b o h λ#[i,c,q,_]=>by simp at q) (XOk.sub (λb z=>.inl z) k)
 |ok x Z=>
  rw[L]at w;intro Y H' f j v m;let g:=λb o h=>f.kp b o h λ#[i,c,q,_]=>by simp at q
  cases x with
  |fz d=>show w v H' g (DV.ev (Ev.sub λb z=>.inl z) m)
  |tp l=>show w.elim
  |rf i=>
   dsimp only at w;cases J:sh Z (.rf i)with
   |none=>rw[J]at w;show w.elim
   |some d=>
    rw[J]at w;cases d with
    |list es=>let(a,p,N,C,y,t):=iB j J;let(xs,r,_):=nY J;let(I,e,rfl):=m;rw[N]at e;ext e;show w a p H' g ((f.lv a #[i,_,N,r,by intro z;ext z]).elim (λ#[i,c,q,_]=>by simp at q) id) C (y.ev (Ev.sub λb z=>z.elim (λz=>.inl z) λz=>by rw[z];show t))
    |_=>show w.elim
end
def lM(P:UR)(w:Va)(K:lD)(d:Str->z U)(base:Heap)(a:uN)(k:Nat)(C m:Str)(c:G Str)(sp:Sp):Prop:=
 ∃b f fd,UU K UL C=S (S (.ref b))/\Cls K b/\Meth K b m f/\FnOk P w K d base a k f fd c sp/\Binds K fd c []
def vq(P:UR)(w:Va)(K:lD)(d:Str->z U)(base:Heap)(a:uN)(k:Nat)(C:Str)(c:G Str)(sp:Sp):Prop:=
 ∃b f fd,UU K UL C=S (S (.ref b))/\d C=S (.ref b)/\Mk K b f/\FnOk P w K d base a k f fd c sp/\Binds K fd c []
def mf(K:lD)(C m:Str)(sp:Sp)(E:XK)(c:TE)(t:TA):TE:=λa H Q=>∃b,UU K UL C=S (S (.ref b))/\rQ b m sp [] E c t a H Q
def w9(K:lD)(C:Str)(sp:Sp)(E:XK)(t:TA):TE:=λa H Q=>∃b,UU K UL C=S (S (.ref b))/\wG b sp [] E t a H Q
section
variable{X:Cx}{Y:uN}{E:XK}{k j:Nat}{C m:Str}{ps:b3 Str}{sp:Sp}{o e:UW}{es:b3 UW}{U:TE}{t:TA}{Z T p:Pos}
def LV(M:lM X.prog X.w X.K X.mg X.base Y k C m ps sp)(l:dj Y X E)(q:Wl j X.A)(r:PE X o U)(c:PA X (e::es) t)(b:k<=j:=by decide)
  (cH:UO (e::es) X.env=(A,eval e X.env)::UO es X.env:=by rfl) (F:(backTo T (UO es X.env)).any (·.1)=A:=by rfl)
  (n:eval (.Call (.Attribute o m Z) (e::es) [] T) X.env=(do
   let ov<-eval o X.env
   standAt Z.atName
   let(f,first)<-holding [ov] (getMethod ov m pl)
   callWith T f first (backTo T (UO (e::es) X.env)) (backToKw T (keywordEach [] X.env))):=by rfl):PE X (.Call (.Attribute o m Z) (e::es) [] T) (mf X.K C m sp E U t):=by
 let(L,f,G,B,z,y,v,u):=M;intro a s i H Q I #[J,g,h];rw[B]at g;ext g;show Iw r z y v (q.mono b) u .nil l c cH F n a s i H Q I h
def OW(M:lM X.prog X.w X.K X.mg X.base Y k C m ps sp)(l:dj Y X E)(q:Wl j X.A)(r:PE X o U)(b:k<=j:=by decide)
  (n:eval (.Call (.Attribute o m Z) [] [] T) X.env=(do
   let ov<-eval o X.env
   standAt Z.atName
   let(f,first)<-holding [ov] (getMethod ov m pl)
   callWith T f first (backTo T (UO [] X.env)) (backToKw T (keywordEach [] X.env))):=by rfl):PE X (.Call (.Attribute o m Z) [] [] T) (mf X.K C m sp E U iq):=by
 let(J,f,F,B,z,y,v,u):=M;intro a s i H Q I #[G,g,h];rw[B]at g;ext g;show GR r z y v (q.mono b) u .nil l n a s i H Q I h
def LS(M:vq X.prog X.w X.K X.mg X.base Y k C ps sp)(n:dj Y X E)(q:Wl j X.A)(c:PA X (e::es) t)(b:k+1<=j:=by decide)(r:Gl X C:=by rfl)
  (g:(C==("__debug__":Str))=A:=by decide) (u:UO (e::es) X.env=(A,eval e X.env)::UO es X.env:=by rfl) (G:(backTo T (UO es X.env)).any (·.1)=A:=by rfl):
  PE X (.Call (.Name C p) (e::es) [] T) (w9 X.K C sp E t):=by
 let(N,f,J,F,B,z,y,v):=M;intro a s l H Q I #[L,i,h];rw[F]at i;ext i;show GZ z y (q.mono b) r B v .nil n c g u G a s l H Q I h
end
section
variable{K:lD}{E:XK}{C m:Str}{F:fD}{n:Nat}{to:TE}{Z:TA}{X:cM}{Y:wM}{L:b3 Str}
def Gh(a:jV K C L)(f:b6 K E to X)(c:sO K E Z Y):b6 K E (mf K C m (jW K n F) E to Z) (iT C m F n X Y):=by let(g,a,_):=a;show λB b H α h i Q s e w=>#[g,a,CM a f c B b H α h i Q s e w]
def zt(a:jV K C L)(f:b6 K E to X)(c:sO K E Z Y):b6 K E (mf K C m (jW K n F) E0 to Z) (aK C m F n X Y):=by let(g,a,_):=a;show λB b H α h i Q s e w=>#[g,a,B2 a f c B b H α h i Q s e w]
def N7(a:jV K C L)(c:sO K E Z Y):b6 K E (w9 K C (jW K n F) E Z) (AR C F n Y):=by let(f,a,_):=a;show λB b H α g h Q s e w=>#[f,a,Kd a c B b H α g h Q s e w]
def Jv(a:jV K C L)(c:sO K E Z Y):b6 K E (w9 K C (jW K n F) E0 Z) (pT C F n Y):=by let(f,a,_):=a;show λB b H α g h Q s e w=>#[f,a,GP a c B b H α g h Q s e w]
end
section
variable{ρ ρ1 Q:aP}{T ω1 Z Y L:aJ}{x y z:SV}{i n:Nat}{d dx X:D}{ds:b3 D}{b:Bool}
def aO(h:ρ[i]?=S (S x)):am i ρ T=.ok x T:=by ext am;rw[h]
def af(h:f (a8 ρ)=.ok (.fz d,ρ')):ae f ρ T=.ok (.fz d) T:=by ext ae;rw[h]
def df(h:f (a8 ρ)=.ok (.ow ds,ρ')):ae f ρ T=.ok (.rf T.length) (T++[.lst (ds.map .fz)]):=by ext ae;rw[h];rfl
def bS(h:f (a8 ρ)=.ok (b,o)):bM f ρ T=.ok b T:=by ext bM;rw[h]
def lB(h:f (a8 ρ)=.ok (ds,o)):gz f ρ T=.ok ds T:=by ext gz;rw[h]
def iA(g:e ρ T=.ok (.rf i) ω1)(h:ω1[i]?=S (.obj C fs))(a:fs.lookup f=S x):aV C f e ρ T=.ok x ω1:=by ext aV;rw[g,eH];dsimp only;rw[h];dsimp only;rw[ax W,a];rfl
def bT(c:o ρ T=.ok x ω1)(e:fb ρ ω1=.ok y Z)(a:tj f x y Z=.ok z Y):iS f o fb ρ T=.ok z Y:=by ext iS;rw[c,eH,e,eH,a]
def bN(h:f dx X=S (.fz d)):tj f (.fz dx) (.fz X) T=.ok (.fz d) T:=by ext tj;show((RS.Vu T (f dx X)).bind λa ω1=>j6 ω1 a)=_;rw[h];rfl
def ko(e:sh T x=S dx)(a:sh T y=S X)(h:f dx X=S (.fz d)):tj f x y T=.ok (.fz d) T:=by ext tj;rw[e,a];show((RS.Vu T (f dx X)).bind λg ω1=>j6 ω1 g)=_;rw[h];rfl
theorem lA:∀ds:G D,aA vB (ds.map .fz)=S ds
 |[]=>rfl
 |d::r=>by rw[UK];ext aA;rw[lA r];rfl
def cz(h:T[i]?=S (.lst (ds.map .fz))):sh T (.rf i)=S (.list ds):=by ext sh;dsimp only;rw[h];dsimp only;rw[lA];rfl
def aH(h:o ρ T=.ok (.fz (.bool b)) ω1):aQ o ρ T=.ok b ω1:=by ext aQ;rw[h];rfl
def hW(h:o ρ T=.ok R ω1)(k:fb ρ ω1=r):kB o fb ρ T=r:=by ext kB;rw[h,eH,ax W,k]
def gl(h:o ρ T=.ok A ω1):kB o fb ρ T=.ok A ω1:=by ext kB;rw[h,eH,a4 UH]
def pw(h:o ρ T=.ok R ω1):uV o fb ρ T=.ok R ω1:=by ext uV;rw[h,eH,ax W]
def gv(h:o ρ T=.ok A ω1)(k:fb ρ ω1=r):uV o fb ρ T=r:=by ext uV;rw[h,eH,a4 UH,k]
def jN(h:o ρ T=.ok b ω1):kJ o ρ T=.ok (!b) ω1:=by ext kJ;rw[h];rfl
def se(h:aQ o ρ T=.ok R ω1)(k:fb ρ ω1=r):vW o fb ρ T=r:=by ext vW;rw[h,eH,ax W,k]
def B1(h:aQ o ρ T=.ok A ω1):vW o fb ρ T=.ok (.fz (.bool A)) ω1:=by ext vW;rw[h,eH,a4 UH]
def Hj(h:c ρ T=.ok R ω1)(k:o ρ ω1=r):LM c o fb ρ T=r:=by ext LM;rw[h,eH,ax W,k]
def Ka(h:c ρ T=.ok A ω1)(k:fb ρ ω1=r):LM c o fb ρ T=r:=by ext LM;rw[h,eH,a4 UH,k]
theorem aD:aC ρ T=.ok [] T:=W
def aj(c:o ρ T=.ok x ω1)(a:fr ρ ω1=.ok xs Z):ah o fr ρ T=.ok (x::xs) Z:=by ext ah;rw[c,eH,a,eH]
def tq(c:o ρ T=.ok (ds.map .fz) ω1)(a:ds.length<=1000):kr o ρ T=.ok (.fz (.tuple ds)) ω1:=by ext kr;rw[c,eH,Us,ax a];ext Sg;rw[lA];rfl
def Mf(c:o ρ T=.ok xs ω1)(a:xs.length<=1000)(f:aA vB xs=P)(e:aA Sb xs=S l):kr o ρ T=.ok (.tp l) ω1:=by ext kr;rw[c,eH,ax a];ext Sg;rw[f];dsimp only;rw[e];rfl
def rT(c:o ρ T=.ok xs ω1)(a:aA (sh ω1) xs=S ds)(h:f ds=S (.fz d)):pL f o ρ T=.ok (.fz d) ω1:=by ext pL;rw[c,eH];ext C4;rw[a];show((RS.Vu ω1 (f ds)).bind λe ω1=>j6 ω1 e)=_;rw[h];rfl
def xb(e:o ρ T=.ok (ds.map .fz) ω1)(c:ds.length=n)(a:F ds=.ok (.fz d)):gP F n o ρ T=.ok (.fz d) ω1:=by ext gP;rw[e,eH];ext vM;rw[Us,ax c,lA];dsimp only;rw[a];rfl
def sT(e:o ρ T=.ok (ds.map .fz) ω1)(c:ds.length=n)(a:F ds=.ok (.ow es)):gP F n o ρ T=.ok (.rf ω1.length) (ω1++[.lst (es.map .fz)]):=by ext gP;rw[e,eH];ext vM;rw[Us,ax c,lA];dsimp only;rw[a];rfl
theorem lm:eF (RS.ok a T)=.ok a T:=W
def KH(e:o ρ T=.ok (.rf i) ω1)(f:ω1[i]?=S (.obj C fs))(hm:fs.lookup m=P)(h:I ρ ω1=.ok xs Z)(c:(SV.rf i::xs).length=n)(g:F (.rf i::xs) Z=.ok x Y):aK C m F n o I ρ T=.ok x Y:=by
 let a:j8 ω1 C m (.rf i)=R:=by ext j8;dsimp only;rw[f];dsimp only;rw[hm,a5 W];rfl
 ext aK;rw[e,eH,ax a,h,eH,ax c,g];rfl
def OH(e:o ρ T=.ok xs ω1)(c:(SV.rf ω1.length::xs).length=n)(a:F (.rf ω1.length::xs) (ω1++[.obj C []])=.ok (.fz .none) Z):pT C F n o ρ T=.ok (.rf ω1.length) Z:=by ext pT;rw[e,eH];ext rK;rw[ax c,a,eH,ax (show AX (.fz .none)=R from rfl)];rfl
def b7(c:o ρ T=.ok (.fz dx) ω1)(a:fb ρ ω1=.ok (.fz X) Z)(h:aZ dx X=S (.fz d)):gh o fb ρ T=.ok (.fz d) Z:=by ext gh;rw[c,eH,a,eH];show bN h
def oU(a:fo ρ T=.ok (.rf i) ω1)(h:ω1[i]?=S (.lst xs))(f:fe ρ ω1=.ok x Z)(g:Z[i]?=S (.lst ys))(e:ys.length<1000000):jf fo fe ρ T=.ok (.fz .none) (Z.set i (.lst (ys++[x]))):=by
 let e1:d5 ω1 (.rf i)=S (i,xs):=by ext d5;dsimp only;rw[h]
 let e2:d5 Z (.rf i)=S (i,ys):=by ext d5;dsimp only;rw[g]
 ext jf;rw[a,eH,e1];show((fe ρ ω1).bind _)=_;rw[f,eH,e2];show(if ys.length<1000000 then _ else _)=_;rw[ax e]
def ku(h:T[i]?=S (.Zm o)):gu T (.rf i)=S (i,o):=by ext gu;dsimp only;rw[h]
def x9(a:o ρ T=.ok x ω1)(hd:fd ρ ω1=.ok (.rf i) Z)(f:rl x=S k)(e:Z[i]?=S (.Zm C)):rb neg o fd ρ T=.ok (.fz (.bool ((iK C k).isSome !=neg))) Z:=by ext rb;rw[a,eH,hd,eH,f];show((RS.Vu Z (gu Z (.rf i))).bind _)=_;rw[ku e];rfl
def JV(hd:fd ρ T=.ok (.rf i) ω1)(a:C ρ ω1=.ok x Z)(g:rl x=S k)(f:Z[i]?=S (.Zm o))(e:iK o k=S y):qC fd C ρ T=.ok y Z:=by ext qC;rw[hd,eH,a,eH,g];show((RS.Vu Z (gu Z (.rf i))).bind _)=_;rw[ku f];show RS.Vu Z (iK o k)=_;rw[e];rfl
def Jg(a:C ρ T=.ok y ω1)(hd:fd ρ ω1=.ok (.rf i) Z)(f:I ρ Z=.ok x Y)(h:rl x=S k)(g:Y[i]?=S (.Zm o))(e:o.length<1000000):sH fd I C ρ T=.ok (.nx ρ) (Y.set i (.Zm (iR o k y))):=by ext sH;rw[a,eH,hd,eH,f,eH,h];show((RS.Vu Y (gu Y (.rf i))).bind _)=_;rw[ku g];show(if o.length<1000000 then _ else _)=_;rw[ax e]
def II(hd:fd ρ T=.ok (.rf i) ω1)(h:ω1[i]?=S (.Zm I))(a:C ρ ω1=.ok x Z)(g:rl x=S k)(f:Z[i]?=S (.Zm o))(e:iK o k=S y):sF fd C ρ T=.ok y (Z.set i (.Zm (kj o k))):=by ext sF;rw[hd,eH,ku h];show((C ρ ω1).bind _)=_;rw[a,eH,g];show((RS.Vu Z (gu Z (.rf i))).bind _)=_;rw[ku f];show((RS.Vu Z (iK o k)).bind _)=_;rw[e];rfl
def Kv(hd:fd ρ T=.ok (.rf i) ω1)(h:ω1[i]?=S (.Zm o)):v4 fd ρ T=.ok (.rf ω1.length) (ω1++[.lst (o.map (·.2))]):=by ext v4;rw[hd,eH,ku h];rfl
def JX(hd:fd ρ T=.ok (.rf i) ω1)(h:ω1[i]?=S (.Zm o))(e:aA yn (o.map (·.1))=S ns)(a:ns.length<64):oW fd ρ T=.ok (.rf ω1.length) (ω1++[.lst ((je ns).map λi=>SV.fz (.int i))]):=by ext oW;rw[hd,eH,ku h];show((RS.Vu ω1 (aA yn (o.map (·.1)))).bind _)=_;rw[e];show(if ns.length<64 then _ else _)=_;rw[ax a]
def Im(a:C ρ T=.ok x ω1)(h:ui x=S o):sG C ρ T=.ok (.rf ω1.length) (ω1++[.Zm (kh [] o)]):=by ext sG;rw[a,eH,h];rfl
variable{J:FlS}{r:RS FlS}
def cb(h:f ρ T=.ok (.nx ρ1) ω1)(k:g ρ1 ω1=r):aB f g ρ T=r:=by ext aB;rw[h,eH];show k
def lY(h:f ρ T=.ok (.rt x) ω1):aB f g ρ T=.ok (.rt x) ω1:=by ext aB;rw[h];rfl
def dC(h:c ρ T=.ok R ω1)(k:f ρ ω1=r):bR c f g ρ T=r:=by ext bR;rw[h,eH,ax W,k]
def fE(h:c ρ T=.ok A ω1)(k:g ρ ω1=r):bR c f g ρ T=r:=by ext bR;rw[h,eH,a4 UH,k]
def gr(h:f ρ T=.ok x ω1):fy f ρ T=.ok (.rt x) ω1:=by ext fy;rw[h];rfl
def eV(h:f ρ T=.ok x ω1):bc f ρ T=.ok (.nx ρ) ω1:=by ext bc;rw[h];rfl
def ym(h:f ρ T=.ok x ω1)(e:ρ.set i (S x)=ρ1):cU f (fw i) ρ T=.ok (.nx ρ1) ω1:=by subst e;ext cU;rw[h];rfl
theorem eT:bX ρ T=.ok (.nx ρ) T:=W
def lL(h:I ρ T=.ok x ω1)(a:o ρ ω1=.ok (.rf i) Z)(j:Z[i]?=S (.obj C fs))(g:fs.length<100):d4 C f o I ρ T=.ok (.nx ρ) (Z.set i (.obj C (gx f x fs))):=by
 let e:D2 Z C (.rf i)=S (i,fs):=by ext D2;dsimp only;rw[j];dsimp only;rw[ax W]
 ext d4;rw[h,eH,a,eH,e];show(if fs.length<100 then _ else _)=_;rw[ax g]
def qO(h:f ρ T=.ok x ω1)(k:frz 4 ω1 x=S (d,Z)):l7 f ρ T=.ok (.fz d) Z:=by ext l7;rw[h,eH];ext Nt;rw[k]
def ir(e:xs.map S++UA (N - xs.length) P=ρ)(h:g ρ T=.ok (.rt x) ω1):cB N g xs T=.ok x ω1:=by subst e;ext cB;rw[h];rfl
def lg(e:xs.map S++UA (N - xs.length) P=ρ)(h:g ρ T=.ok (.nx ρ1) ω1):cB N g xs T=.ok (.fz .none) ω1:=by subst e;ext cB;rw[h];rfl
end
section
variable{ρ Q J:aP}{Y X Z B u:aJ}{x y z:SV}{i n:Nat}{d t p:D}{ds:b3 D}{b:Bool}
theorem mr(e:α->D)(f:α->SV)(Y:aJ)(I:aP->Prop):∀(xs:G α) (ρ:aP) (acc:G SV),I ρ->acc.length+xs.length<=1000000->(∀x∈xs,∀ρ,I ρ->∃c,gt (.fz (e x)) ρ Y=.ok c Y/\C c Y=.ok R Y/\fe c Y=.ok (f x) Y/\I c)->ce gt C fe (xs.map e) ρ Y acc=.ok (acc++xs.map f) Y
 |[],ρ,acc,_,_,_=>by show RS.ok acc Y=_;rw[W6,U9]
 |x::r,ρ,acc,h0,o,m=>by let(c,l,j,h,g):=m x UX ρ h0;rw[UJ]at o;show((gt (.fz (e x)) ρ Y).bind _)=_;rw[l,eH,j,eH,ax W,h,eH,ax (),mr e f Y I r c _ g (by rw[Uz,YR];ext) λy a=>m y (UN _ a),U3];rfl
def uj(c:I ρ Y=.ok ds X)(a:ce gt o fe ds (fP n C ρ) X []=.ok xs Z):jj n C I gt o fe ρ Y=.ok (.rf Z.length) (Z++[.lst xs]):=by ext jj;rw[c,eH,a,lm,eH]
theorem tT(m:Nat):∀(ds:G D),lz (frz m) Y (ds.map .fz)=S (ds,Y)
 |[]=>rfl
 |d::r=>by rw[UK];ext lz;rw[show frz m Y (.fz d)=S (d,Y) by ext m<;>rfl];dsimp only;rw[tT m r]
def nV(h:Y[i]?=S (.lst (ds.map .fz))):frz 4 Y (.rf i)=S (.list ds,Y.set i .dead):=by ext frz;rw[h];dsimp only;rw[tT]
def Dj(h:o ρ Y=.ok (.rf i) X)(a:X[i]?=S (.lst (ds.map .fz))):jY o ρ Y=.ok ds (X.set i .dead):=by ext jY;rw[h,eH,nV a];rfl
def Sv(N C:aP->aJ->Prop)(T:SV->aJ->Prop):RS FlS->Prop
 |.ok (.nx ρ) Y=>N ρ Y
 |.ok (.ct ρ) Y=>C ρ Y
 |.ok (.rt v) Y=>T v Y
 |_=>False
structure X4(r:RS FlS)(N C:aP->aJ->Prop)(T:SV->aJ->Prop):Prop where
 out:Sv N C T r
variable{f g:dw}{L:cM}{N C:aP->aJ->Prop}{T:SV->aJ->Prop}
def X4.eq(e:r=r')(h:X4 r' N C T):X4 r N C T:=by rw[e];show h
def pM(h:X4 (f ρ Y) (λr o=>X4 (g r o) N C T) C T):X4 (aB f g ρ Y) N C T:=by
 show#[?_];let h:=h.out;ext aB;cases q:f ρ Y with
 |bad=>rw[q]at h;show h.elim
 |er x o=>rw[q]at h;show h.elim
 |ok a o=>
  rw[q]at h;cases a with
  |nx r=>show(show X4 (g r o) N C T from h).out
  |ct r=>show h
  |rt v=>show h
  |bk r=>show h.elim
def wy(h:c ρ Y=.ok b X)(a:b=R->X4 (f ρ X) N C T)(e:b=A->X4 (g ρ X) N C T):X4 (bR c f g ρ Y) N C T:=by
 ext bR;rw[h,eH];cases b with
 |true=>show a W
 |false=>show e W
theorem oQ(e:c ρ Y=.ok R X)(a:X4 (f ρ X) N C T):X4 (bR c f g ρ Y) N C T:=wy e (λ_=>a) λh=>by ext h
theorem dg(e:c ρ Y=.ok A X)(a:X4 (g ρ X) N C T):X4 (bR c f g ρ Y) N C T:=wy e (λh=>by ext h) λ_=>a
def Oz(e:L ρ Y=.ok x X)(a:gt x ρ X=.ok Q Z)(h:N Q Z):X4 (cU L gt ρ Y) N C T:=by show#[?_];ext cU;rw[e,eH,a,eH];show h
theorem lC(a:f ρ Y=.ok (.nx Q) X)(h:N Q X):X4 (f ρ Y) N C T:=#[by rw[a];show h]
theorem RO(a:f ρ Y=.ok (.rt x) X)(h:T x X):X4 (f ρ Y) N C T:=#[by rw[a];show h]
theorem gK(a:L ρ Y=.ok x X)(h:N ρ X):X4 (bc L ρ Y) N C T:=lC (eV a) h
theorem Nv(a:L ρ Y=.ok x X)(h:T x X):X4 (fy L ρ Y) N C T:=RO (gr a) h
theorem KI(h:T (.fz .none) Y):X4 (pE ρ Y) N C T:=#[h]
theorem jJ(h:N ρ Y):X4 (bX ρ Y) N C T:=#[h]
theorem iJ{gt:wA}(e:L ρ Y=.ok x X)(a:gt x ρ X=.ok Q Z)(h:X4 (g Q Z) N C T):X4 (aB (cU L gt) g ρ Y) N C T:=pM (Oz e a h)
theorem yW(a:f ρ Y=.ok (.nx Q) X)(h:X4 (g Q X) N C T):X4 (aB f g ρ Y) N C T:=pM (lC a h)
theorem jy(a:L ρ Y=.ok x X)(h:X4 (g ρ X) N C T):X4 (aB (bc L) g ρ Y) N C T:=pM (gK a h)
def we{h a:dw}(m:c ρ Y=.ok b X)(j:b=R->X4 (aB h g ρ X) N C T)(l:b=A->X4 (aB a g ρ X) N C T):X4 (aB (bR c h a) g ρ Y) N C T:=by
 let e:aB (bR c h a) g ρ Y=if b=R then aB h g ρ X else aB a g ρ X:=by unfold aB bR;rw[m,eH];ext b<;>rfl
 show .eq e ?_;cases b with
 |true=>show j W
 |false=>show l W
theorem uJ{a l:dw}(j:c ρ Y=.ok R X)(e:X4 (aB a g ρ X) N C T):X4 (aB (bR c a l) g ρ Y) N C T:=we j (λ_=>e) λh=>by ext h
theorem p7{l a:dw}(j:c ρ Y=.ok A X)(e:X4 (aB a g ρ X) N C T):X4 (aB (bR c l a) g ρ Y) N C T:=we j (λh=>by ext h) λ_=>e
theorem sV(h:T (.fz .none) Y):X4 (aB pE g ρ Y) N C T:=pM (KI h)
theorem lu(h:X4 (g ρ Y) N C T):X4 (aB bX g ρ Y) N C T:=pM (jJ h)
def NL{a e:dw}(h:X4 (aB a (aB e g) ρ Y) N C T):X4 (aB (aB a e) g ρ Y) N C T:=by
 show .eq ?_ h;ext aB;cases a ρ Y with
 |bad=>rfl
 |er x o=>rfl
 |ok j o=>ext j<;>rfl
def Pp(a:xs.map S++UA (n - xs.length) P=ρ)(h:X4 (g ρ Y) (λ_ c=>T (.fz .none) c) (λ_ _=>False) T):∃x c,cB n g xs Y=.ok x c/\T x c:=by
 let h:=h.out;ext cB;rw[a];cases q:g ρ Y with
 |bad=>rw[q]at h;show h.elim
 |er x o=>rw[q]at h;show h.elim
 |ok e o=>
  rw[q]at h;cases e with
  |nx r=>show#[_,_,W,h]
  |ct r=>show h.elim
  |rt v=>show#[_,_,W,h]
  |bk r=>show h.elim
def gQ{W:aJ->Prop}(a:xs.map S++UA (n - xs.length) P=ρ)(h:X4 (g ρ Y) (λ_ c=>SV.fz .none=v/\W c) (λ_ _=>False) (λr c=>r=v/\W c)):∃c,cB n g xs Y=.ok v c/\W c:=by let(x,c,l,j,e):=Pp (T:=λr c=>r=v/\W c) a h;show#[c,by rw[l,j],e]
end
end L10
namespace L10
open PySem PyProof.Rows L2 L3
section
variable{B O I:bE}{K:lD}{E:XK}{H C u t:Hp}{r Q N L:b3 Uu}{T J Y Z:aJ}{q:L2.St}{X:aP}{v:V}
def yp{c a:cM}{y z:SV}{i:Nat}{n:Int}{xs:G SV}(g:c X T=.ok (.rf i) Y)(f:a X Y=.ok y Z)(d:AU y=S n)(b:Z[i]?=S (.lst xs))(e:jS xs n=S z):gh c a X T=.ok z Z:=by ext gh;rw[g,eH,f,eH];ext GY;simp only[b,d];show RS.Vu Z (jS xs n)=_;rw[e];rfl
end
end L10
namespace L10
open PySem PyProof.Rows L2 L3
section
variable{O Z:bE}{K:lD}{H X:Hp}{a b:Uu}{T:b3 V}{Y:Heap->Prop}
def Sa(a:M)(O:bE)(H:Hp)(Z:bE)(X:Hp):Prop:=∀b o,b≠a->H b=S o->¬O b->X b=S o/\¬Z b
def ZK.evx(i:H a=S (.ext Y))(h:ZK O K H b T)(e:Sa a O H Z X):ZK Z K X b T:=by
 let(h,k):=h;by_cases z:O b
 .show#[X7.same (jH X) (k z),λ_=>k z]
 .rcases h with(h|⟨o,h⟩)|h
  .let(g,f):=e b _ (λy=>by rw[y,i]at h;ext h) h z;show#[.inl (.inl g),λy=>bg y f]
  .let(g,f):=e b _ (λy=>by rw[y,i]at h;ext h) h z;show#[.inl (.inr #[o,g]),λy=>bg y f]
  .show#[.inr h,λ_=>.inr h]
def YO.evx(i:H a=S (.ext Y))(h:YO O K H b T)(e:Sa a O H Z X):YO Z K X b T:=by
 let(h,k):=h;by_cases z:O b
 .show#[(jH X).tup (k z),λ_=>k z]
 .rcases h with(h|⟨o,h⟩)|h
  .let(g,f):=e b _ (λy=>by rw[y,i]at h;ext h) h z;show#[.inl (.inl g),λy=>bg y f]
  .let(g,f):=e b _ (λy=>by rw[y,i]at h;ext h) h z;show#[.inl (.inr #[o,g]),λy=>bg y f]
  .show#[.inr h,λ_=>.inr h]
mutual
theorem DV.evx(f:H a=cL (.ext Y))(e:Sa a O H Z X):∀{v:V} {d:D},L3.DV O K H v d->L3.DV Z K X v d
 |_,_,.Wu=>.Wu
 |_,_,.bl b=>.bl b
 |_,_,.int i=>.int i
 |_,_,.str x=>.str x
 |_,_,.tup h hs=>.tup (YO.evx f h e) (Wg.evx f e hs)
 |_,_,.lst h hs=>.lst (ZK.evx f h e) (Wg.evx f e hs)
theorem Wg.evx(f:H a=cL (.ext Y))(e:Sa a O H Z X):∀{vs:b3 V} {ds:b3 D},L3.Wg O K H vs ds->L3.Wg Z K X vs ds
 |_,_,.nil=>.nil
 |_,_,.cons h hs=>.cons (DV.evx f e h) (Wg.evx f e hs)
end
end
end L10
namespace L10
open PySem PyProof.Rows L2 L3
section
variable{B O O':bE}{K:lD}{E:XK}{H H' J H2:Hp}{Z I Y C:b3 Uu}{T y X u:aJ}{L:L2.St}{N:aP}{v:V}
def wV(n:String)(a:cM):cM:=λN T=>(a N T).bind λx X=>(RS.Vu X (tR 6 X x)).bind λd X=>(RS.Vu X (wB d)).bind λt X=>.ok (.fz (.bool (yO n t))) X
def IB(c:n= "int"\/n= "bool"\/n= "str"\/n= "list"\/n= "tuple")(h:b6 K E o fa):b6 K E (zP (DB K) (eO o (eO (tC (.ty n)) iq))) (wV n fa):=by intro B L H Z T N Q s f w;show h B L H Z T N _ s f (w.bind.imp λx Y X J e1 b a v g=>?_);let(d,q,a):=WS.Vu a;let(t,e,a):=WS.Vu a;show#[v,n,t,yO n t,W,Lu (DV.x (iy b 6 g q)) e,nX c e,WS.now b a (.bl _) (.bl _)]
def EL(h:o N T=.ok x X)(hd:tR 6 X x=S d)(a:wB d=S t):wV n o N T=.ok (.fz (.bool (yO n t))) X:=by ext wV;rw[h,eH,hd];show((RS.Vu X (wB d)).bind _)=_;rw[a];rfl
def U6.aeR(s:U6 (bF B p) K H Z T)(m:c≠.dead)(l:H p≠P)(g:COk (ow (bF B p) Z T) K H Z p c)(r:¬B p):U6 B K H (Z++[p]) (T++[c]):=by
 let eo:ow (bF B p) Z T=ow B (Z++[p]) (T++[c]):=wv s.len m;let Q:=s.ba p (.inr W);let ev:Ev (ow (bF B p) Z T) H (ow B (Z++[p]) (T++[c])) H:=by rw[eo];show λb o h n=>#[h,n]
 show#[by rw[Uz,Uz,s.len];rfl,λi j a e f=>?_,λa h=>s.bn a (.inl h),λa h i z=>?_,λi a h=>?_,λi a t e f=>?_]
 .rcases aX e with g1|⟨e1,e2⟩<;>rcases aX f with g2|⟨e3,e4⟩
  .show s.nd i j a g1 g2
  .rw[e4]at g1;show bg g1 (Q i)
  .rw[e2]at g2;show bg g2 (Q j)
  .omega
 .rcases aX z with z|⟨_,rfl⟩
  .show s.ba a (.inl h) i z
  .show r h
 .rcases aX h with h|⟨_,rfl⟩
  .show s.al i a h
  .show l
 .rcases aX f with f|⟨e2,rfl⟩
  .rcases aX e with e|⟨e1,rfl⟩
   .show(s.cel i a t e f).ev ev (λ_ _ h=>dG h) λ_ q=>q
   .let:=(Ux.mp f).1;rw[<-s.len]at this;ext
  .rcases aX e with e|⟨e1,rfl⟩
   .let:=(Ux.mp e).1;rw[s.len]at this;ext
   .show g.ev ev (λ_ _ h=>dG h) λ_ q=>q
end
end L10
namespace L3
open PySem L2
structure NI(K:lD)(f:M)(n:Str)(t:Wm):Prop where
 a:UU K UL n=S (S (.ref f))
 F:∃fd,Zo K n n t f fd
structure MI(K:lD)(C f:M)(m q:Str)(t:Wm):Prop where
 a:U7 K (.ref C) m=S (S (.ref f))
 i:WH K (.ref f)=R
 F:∃fd,Zo K m q t f fd
structure CI(K:lD)(C:M)(n:Str)(fs:G Str):Prop where
 a:UU K UL n=S (S (.ref C))
 pg:Xu K C Str.empty=R
 hd:WT K C=R
 po:Ze K C=R
 sa:U7 K (.ref C) "__setattr__"=S (S (.builtin "object.__setattr__"))
 mm:ZF K C=R
 kc:V4 K (.ref C)=R
 fl:∀x∈fs,Yf K C x
def BA(n q:Str)(t:Wm)(c:G Str):Prop:=∀(kV b e:U) (f:z M) (g ct:U) (a:G U),a.length=c.length->bindArgs (VV n q (eC t) (bQ t) (au t) .none kV b e f g ct) #[a,[]]=pure (c.zip a)
section
variable{P:UR}{w:Va}{K:lD}{Y:Str->b4 CL}{base h:Heap}{f C:Uu}{n m q:Str}{t:Wm}{Q fs:b3 Str}{Z k:Nat}{T N:Sp}
theorem CI.cls(c:CI K C n fs):Cls K C:=#[c.pg,c.hd,c.po,c.sa]
theorem CI.cf(c:CI K C n fs):L10.jV K n fs:=#[C,c.a,c.cls,c.fl]
theorem NI.cal(i:NI K f n t)(X:K.In h)(G:h.Ns UL Y)(b:BA n n t Q)(ok:∀fd,Zo K n n t f fd->FnOk P w K Y base jD Z f fd Q T):oX P w K Y base Z n Q T:=
 let#[fd,z]:=i.F;#[f,fd,ok fd z,z.binds b,z.kp,VJ X G i.a]
def NI.law(i:NI K f "law" t)(X:K.In h)(G:h.Ns UL Y)(b:Y "law"=S (.ref fa))(p:BA "law" "law" t [x])(ok:∀base fd,Zo K "law" "law" t f fd->FnOk P w K Y base jD Z f fd [x] T):∃fd:Vv,(∀(s:Uw) (v:U),Y4 s fd #[[v],[]] [(x,v)])/\∀base:Heap,K.In base->base.Ns UL Y->FnOk P w K Y base jD Z fa fd [x] T:=by let e:=b.symm.trans (VJ X G i.a);ext e;let(fd,z):=i.F;let(A,y,kV,g,j,r,u,ct,l,rfl,B,o):=z.ex;show#[_,λs v=>.of_eq (p kV g j r u ct [v] W),λbase _ _=>ok base _ z]
def AL(a:Wl k b):b.units+65<cLine:=by let:=a.un;ext
theorem Jz{W:M}{a:Array U}{i:Nat}{g:Array (z U)}{xs:G V}{ds:G D}(l:K.lookup W=S #[.type "tuple",Uo,.seq a i,g])(e:a.size<=UD)(b:Vals xs a.toList)(hd:∀O H,Wg O K H xs ds):∀O H,DV O K H (.ref W) (.tuple ds):=λO H=>
 .tup (xs:=xs) #[.inr #[_,_,_,l,#[rfl,rfl],rfl,e,b],λ_=>.inr #[_,_,_,l,#[rfl,rfl],rfl,e,b]] (hd O H)
end
end L3
namespace L4
open PySem PySem.Spec PyProof.Rows L2 L3
def Ry(X:Cx)(e:G Wm)(b:L2.St)(t:TS):Prop:=∀(a:G (M×Obj)) (s:Uw) (H:Hp) (D:Ends),L2.Inv X a b H s->t D b H->wpAny (model X.prog X.w) X.A (execs e X.env) (SP X a D) X.xe s
def on(X:Cx)(b:L2.St)(d:XK):U->Uw->Prop:=λx a=>∃H1 e c f a0 T,x=.ref e/\L2.Inv X [] b H1 a/\A6 a.heap e c f a0 (S T)/\Apart X e/\Apart X T/\H1 e=P/\H1 T=P/\d c f H1
def Mb(k:XK)(i:Nat)(d g:TS):TS:=λD f H=>d D f H/\∀c j H1,k c j H1->∀(e:M) (a:Obj),H1 e=P->a.cls=c->a.dict=j->YK a=R->
 g {nx:=λb h=>D.nx (b.set i P) h,rt:=λ_ _=>False} (f.set i (S (.ref e))) (aW H1 e (.frz a (.own e)))
def Ko
  (hex:X.ex=[]) (hN:X.N.Nodup) (cH:X.stack=X.env::X.outer) (hfr:X.env.frame=S X.env.locals) (hg:Gl X x) (hm:X.mg x=S (.ref a)) (hU:oV X.K a mU) (hbU:mU.contains (.type "BaseException")=R)
  (hi:X.N[i]?=S n) (d:X.env.kindOf n=S .local) (hb:∀l σ,Ry ((Cx.pinned X l).Yb (on (Cx.pinned X l) σ E2)) body σ tb) (hs:∀l e,Z9 (Cx.marked (Cx.pinned X l) e) (b0::agC) ts)
  (hE:∀c V H,E2 c V H->∃C m,c=.ref C/\oV X.K C m/\(CL.ref C::m).contains (.ref a)=R) (hdb:(x==("__debug__":Str))=A:=by decide):
  PS X (.Try body [.ExceptHandler (S (.Name x np)) (S n) (b0::agC) amx] [] [] pos) (Mb E2 i tb ts):=by
 intro pins s σ H D I #[h,hc];let IY:=Il I;let Y:=hex;show wpAny_Try_except (wpAny_mono (hb (X.pn++pins) σ [] s H D (IY.Yb _) h) (λf s1 hf=>?_) (λv s1 hx=>?_))
 .let hf:=SP.XQ hf
  cases f with
  |next=>let(g,H1,j,J):=hf;show Xo #[g,H1,gZ I.ok j,J]
  |brk=>let(g,H1,j,J):=hf;show#[g,H1,gZ I.ok j,J]
  |cont=>let(g,H1,j,J):=hf;show#[g,H1,gZ I.ok j,J]
  |ret u=>let(v,g,H1,j,r,J):=hf;show#[v,g,H1,gZ I.ok j,r,J]
 .let(H1,e,c,V,a0,T,rfl,j,F,L,aT,ne,nT,q):=hx
  let(C,mC,hcC,(n1,J,N1,b1,d1,t1,u1,a1,l1,x1,i0,i1,i2,i3,i5,id1,kC),hup):=hE c V H1 q;let(n2,q2,N2,b2,d2,t2,u2,a2,l2,x2,j0,j1,j2,j3,j5,id2,kU):=hU;let fr:X.A.frames=S (X.env::X.outer):=by rw[<-cH];show I.ok.frames
  let ff:s1.heap.FunFrames X.base (X.env::X.outer):=by rw[<-cH];show j.stack
  show G0 fr ff hfr F λh2 T2 z2 F2 L2'=>?_
  let I2:=pf j (λb=>b=e\/b=T) Y (λp hp y=>y.elim (L.nP p hp) (aT.nP p hp))
   (λb o z t nf=>L2'.keep b o z (λy=>t (.inl y)) (λy=>t (.inr (UI y).symm)) (by rw[<-cH];show nf))
   (λb o z t=>L2'.slot b o z (λy=>t (.inl y)) (λy=>t (.inr (UI y).symm))) L2'.here
   (λb y=>y.elim (λy=>by rw[y];show L.n0) (λy=>by rw[y];show aT.n0)) (λy=>y.elim (λy=>L.nL y.symm) (λy=>aT.nL y.symm))
   (λy k z w=>w.elim (L.nC y k z) (aT.nC y k z)) (λb y=>y.elim (λy=>by rw[y];show ne) (λy=>by rw[y];show nT))
  let B:=qD j Y (d3 z2);let nT2:=j.VF.fresh z2;show wpAny_handleBy_cons (codeAny_handlers_test (iP (qj I2 e) hg hm ?_ hdb)) (by nofun);let F2':=F2;let(ob,fs,qe,cE,dE,dF,_):=F2';show DM (I2.XU _ _ kC) (I2.XU _ _ kU) qe (cE.trans hcC) hbU hup ?_;show codeAny_handlers_suite_as (OD F2 λh3 F3 Yd hT3=>?_);let neT:e≠T2:=λy=>by let(_,_,_,_,_,_,_,_,w,_):=F2;show w y.symm
  let I3:=pf I2 (λb=>b=T2) Y (λp hp y=>B.nP p hp y)
   (λb o z t _=>(Yd b t).trans z) (λb o z t=>#[o.slots,(Yd b t).trans z])
   (λb o z=>(Classical.em (b=T2)).elim (λy=>by rw[y];show hT3) (λy=>#[o,(Yd b y).trans z])) (λb y=>by rw[y];show B.n0) (λy=>B.nL y.symm) (λy k z w=>B.nC y k z w) (λb y=>by rw[y];show nT2)
  let I4:=BL I3 L.nP ((Yd e neT).trans qe) ne L.n0 L.nL L.nC;show o0 (X:=Cx.marked (Cx.pinned X (X.pn++pins)) e) (qj I4 e) hN hi (.inl d) (v:=.ref e) W (λs4 I5=>?_) (.inr d);let w:=hc c V H1 q e ob ne cE dE (by ext YK;rw[dF]);show wpAny_mono (hs (X.pn++pins) e [] s4 _ _ _ I5 w) (λf s5 hf=>?_) (λy s5 z=>z.elim);cases f with
  |next=>let(N,H2,I6,Q):=hf;show A8 (yG IY.ok I6) hN hi d λs6 I7=>#[_,_,gZ I.ok I7,Q]
  |brk=>let(N,H2,I6,Q):=hf;show Q.elim
  |cont=>let(N,H2,I6,Q):=hf;show Q.elim
  |ret u=>let(v,N,H2,I6,r,Q):=hf;show Q.elim
end L4
namespace LD
open PySem PyProof.Rows L2 L3
def m9(xs:G (KD×M×V))(k:KD):z V:=(xs.find? λx=>decide (x.1=k)).map (·.2.2)
def kE(xs:G (KD×M×V))(k:KD)(b:M)(v:V):G (KD×M×V):=
 if(xs.find? λx=>decide (x.1=k)).isSome=R then xs.map (λx=>if x.1=k then(x.1,x.2.1,v)else x)else xs++[(k,b,v)]
abbrev RX:G (KD×M×V)->G (KD×M×U)->Prop:=Paired λx y=>x.1=y.1/\x.2.1=y.2.1/\RelV x.2.2 y.2.2
def zy:∀{xs:G (KD×M×V)} {a:G (KD×M×U)},RX xs a->xs.map (·.1)=a.map (·.1):=by
 intro _ _ b
 induction b with
 |nil=>show W
 | @cons _ _ _ _ h t e=>rw[UK,UK,h.1,e]
def xD:∀{xs:G (KD×M×V)} {a:G (KD×M×U)},RX xs a->Ye (m9 xs k) ((atKey a k).map (·.2)):=by
 intro _ _ b
 induction b with
 |nil=>unfold m9 atKey;show trivial
 | @cons x y xs a h t f=>
  unfold m9 atKey;rw[Vg,Vg,h.1];by_cases e:y.1=k
  .rw[a5 e];show h.2.2
  .rw[a6 e];show f
def HE:∀{xs:G (KD×M×V)} {a:G (KD×M×U)},RX xs a->(xs.find? λx=>decide (x.1=k)).isSome=(atKey a k).isSome:=by
 intro _ _ b
 induction b with
 |nil=>show W
 | @cons x y xs a h t f=>
  ext atKey;rw[Vg,Vg,h.1];by_cases e:y.1=k
  .rw[a5 e];rfl
  .rw[a6 e];show f
def Pb(r:RelV v u):∀{xs:G (KD×M×V)} {a:G (KD×M×U)},RX xs a->RX (xs.map λx=>if x.1=k then(x.1,x.2.1,v)else x) (a.map (putAt k u)):=by
 intro _ _ b
 induction b with
 |nil=>show .nil
 | @cons x y xs a h t f=>
  rw[UK,UK];show .cons ?_ (f);ext putAt;by_cases e:y.1=k
  .rw[ax (h.1.trans e),ax e];show#[h.1,h.2.1,r]
  .rw[a4 (by rw[h.1];show e),a4 e];show h
def HY(h:x.1=y.1/\x.2.1=y.2.1/\RelV x.2.2 y.2.2):∀{xs:G (KD×M×V)} {a:G (KD×M×U)},RX xs a->RX (xs++[x]) (a++[y]):=by
 intro _ _ b
 induction b with
 |nil=>show .cons h .nil
 | @cons _ _ _ _ g t e=>show .cons g (e)
def EX(r:RelV v u)(h:RX xs ys):RX (kE xs k b v) (storedH ys k b u):=by
 unfold kE storedH;rw[HE h];split
 .show Pb r h
 .show HY #[W,W,r] h
def mY(xs:G (KD×M×V))(k:KD)(b:M)(v:V):(kE xs k b v).length<=xs.length+1:=by
 ext kE;split
 .rw[Us];ext
 .rw[Uz];show UC _
def ue(K:lD)(H:Hp)(xs:G (KD×M×V)):Prop:=∀x∈xs,L2.DV K H (.ref x.2.1) x.1.1
section
variable{X:Cx}{Z:b3 (Uu×Obj)}{Y:L2.St}{H:Hp}{s:Uw}{a b:Uu}{T:b3 (KD×Uu×V)}{k:KD}{v:V}{u r:CL}{A:U4}{E:CL->Uw->Prop}
def Q9:∀{T:G (KD×M×V)} {es:G Xy},Paired (λ(x:KD×M×V) (e:Xy)=>e.hash=qL w x.1.1/\e.key=.ref x.2.1/\RelV x.2.2 e.val) T es->∃ys,RX T ys/\es=ys.map (entryOfKey (fx o w)):=by
 intro _ _ h
 induction h with
 |nil=>show#[[],.nil,W]
 | @cons x e _ _ p t q=>let(g,f,i):=p;let(ys,l,j):=q;show#[(x.1,x.2.1,e.val)::ys,.cons #[W,W,i] l,?_];rw[UK,<-j];let(n,m,ev):=e;dsimp only at g f;subst g f;rfl
def Rr:∀{T:G (KD×M×V)} {f:G (KD×M×U)},RX T f->Paired (λ(x:KD×M×V) (e:Xy)=>e.hash=qL w x.1.1/\e.key=.ref x.2.1/\RelV x.2.2 e.val) T (f.map (entryOfKey (fx i w))):=by
 intro _ _ g
 induction g with
 |nil=>show .nil
 | @cons _ _ _ _ h t j=>show .cons #[by rw[h.1];rfl,by rw[h.2.1];rfl,h.2.2] (j)
theorem mn(I:L2.Inv X Z Y H s)(h:L2.DV X.K H (.ref b) k.1):(fx X.prog X.w).is s.heap k b:=L2.DV.reads I h W
def vh(I:L2.Inv X Z Y H s)(e:H a=S (DkO a T))(j:ue X.K H T):T.length<=UD/\(a==Wr)=Ut/\∃ys,RX T ys/\s.heap.DictOfH (fx X.prog X.w) a ys:=by
 let(((z,n,nd),o,es,L,G,F,C,B),_):=(show ObjOk X.prog X.w H s.heap a (DkO a T)from I.VF a _ e);let(ys,h,J):=Q9 B;show#[z,n,ys,h,o,es,L,G,F,C,J,?_,by rw[<-zy h];show nd];let all:∀{l:b3 (KD×M×V)} {m:b3 (KD×M×U)},RX l m->(∀x∈l,L2.DV X.K H (.ref x.2.1) x.1.1)->∀y∈m,(fx X.prog X.w).is s.heap y.1 y.2.1:=by
  intro l m q
  induction q with
  |nil=>intro _ y f;show nomatch f
  | @cons p q ps qs N t Q=>
   intro g y f;rcases U5.mp f with e|f
   .subst e;let:=mn I (g p (UX ..));rw[N.1,N.2.1]at this;show this
   .show Q (λx i=>g x (UN _ i)) y f
 show all h j
def tm(z:T.length<=UD)(hd:(a==Wr)=Ut)(e:RX T ys)(dd:C.DictOfH (fx y w) a ys):ObjOk y w H' C a (DkO a T):=by let(o,es,f,g,m,l,j,n,i):=dd;show#[#[#[z,hd,by rw[zy e];show i],o,es,f,g,m,l,by rw[j];show Rr e],#[o,g],?_];rintro t p ⟨q,o,es,f,e1,e2⟩ h;show#[q,o,es,f,h o e1,e2]
def nU(e:A.units+64<cLine):(fx X.prog X.w).room A.in1:=by show A.in1.units+8<cLine;rw[U4.in1_units];ext
def Pk(m:A.units+64<cLine)(I:L2.Inv X Z Y H s)(e:H a=S (DkO a T))(o:ue X.K H T)(q:L2.DV X.K H (.ref b) k.1)(g:m9 T k=S v)(h:∀c d,L2.Inv X Z Y H d->RelV v c->Q c d):
  wpAny (model X.prog X.w) A (getItem (.ref a) (.ref b)) Q E s:=by
 let(z,y,t,i,dd):=vh I e o;let(c,l,f):=Ye.some_of (by rw[<-g];show xD i);let(p,n,j):=Yv.mp l;show aeA (nU m) (mn I q) dd n ?_;rw[j];show h c _ (I.tok _) f
def RP(g:A.units+64<cLine)(I:L2.Inv X Z Y H s)(e:H a=S (DkO a T))(i:ue X.K H T)(l:L2.DV X.K H (.ref b) k.1)(h:∀c,L2.Inv X Z Y H c->Q (.bool (m9 T k).isSome) c):
  wpAny (model X.prog X.w) A (V5 .In (.ref b) (.ref a)) Q E s:=by
 let(z,j,m,f,dd):=vh I e i;show aj5 (nU g) (mn I l) j dd ?_;let q:=(xD (k:=k) f).Yk;rw[V6]at q;rw[<-q];show h _ (I.tok _)
def Ng(g:A.units+64<cLine)(I:L2.Inv X Z Y H s)(e:H a=S (DkO a T))(i:ue X.K H T)(l:L2.DV X.K H (.ref b) k.1)(h:∀c,L2.Inv X Z Y H c->Q (.bool (!(m9 T k).isSome)) c):
  wpAny (model X.prog X.w) A (V5 .NotIn (.ref b) (.ref a)) Q E s:=by
 let(z,j,m,f,dd):=vh I e i;show wpAny_notIn_heap (nU g) (mn I l) j dd ?_;let q:=(xD (k:=k) f).Yk;rw[V6]at q;rw[<-q];show h _ (I.tok _)
def MG(m:A.units+64<cLine)(I:L2.Inv X Z Y H s)(e:H a=S (DkO a T))(o:ue X.K H T)(y:L2.DV X.K H (.ref b) k.1)(d:RelV v r)(C:T.length<UD)(h:∀c,L2.Inv X Z Y (aW H a (DkO a (kE T k b v))) c->Q ⟨⟩ c):
  wpAny (model X.prog X.w) A (setItem (.ref a) (.ref b) r) Q E s:=by
 let(z,t,j,f,dd):=vh I e o;let l:j.length<=UD:=by rw[<-Paired.length f];show z
 let i:(kE T k b v).length<=UD:=by let:=mY T k b v;ext
 show aeB (hsz:=l) (nU m) (mn I y) dd λB g n=>h _ ?_;let p:∃q,B.get? a=S q:=let#[q,_,_,J,_]:=g;#[q,J]
 show lG I (by rw[e];show True.intro) n p (tm i t (EX d f) g)
def Jy(I:L2.Inv X Z Y H s)(e:H a=S (DkO a T)):s.TypeIs (.ref a) "dict"/\(∀b,CL.ref a=.ref b->∃c,s.heap.get? b=S c/\c.dict=P)/\(a==Wr)=Ut:=by let(((z,h,nd),o,es,l,g,f,j,i),_):=(show ObjOk X.prog X.w H s.heap a (DkO a T)from I.VF a _ e);show#[#[o,g,f.1],λb q=>?_,h];ext q;show#[o,g,f.2.1]
end
section
variable(K:lD)
def Ck(neg:Bool)(ty g:TE):TE:=λf H Q=>ty f H λy h=>g f h λx e=>∃a b xs k,x=.ref a/\y=.ref b/\e a=S (DkO a xs)/\ue K e xs/\L2.DV K e (.ref b) k.1/\Q (.bl ((m9 xs k).isSome !=neg)) e
def F1(g ty:TE):TE:=λf H Q=>g f H λx h=>ty f h λy e=>∃a b xs k v,x=.ref a/\y=.ref b/\e a=S (DkO a xs)/\ue K e xs/\L2.DV K e (.ref b) k.1/\m9 xs k=S v/\Q v e
def Dc(h ty g:TE):TS:=λD e H=>g e H λv j=>h e j λx i=>ty e i λy f=>∃a b xs k,x=.ref a/\y=.ref b/\f a=S (DkO a xs)/\ue K f xs/\L2.DV K f (.ref b) k.1/\xs.length<UD/\D.nx e (aW f a (DkO a (kE xs k b v)))
def ER:TE:=λ_ H Q=>∀p,H p=P->Q (.ref p) (aW H p (DkO p []))
end
section
variable{X:Cx}{o i e f Z:UW}{Y ty tx tv:TE}{pos U apos Xk:Pos}
def pc_ddin(v:X.A.units+64<cLine)(c:PE X i ty)(w:PE X o Y):PC X .In i o (Ck X.K A ty Y):=by intro g s j H Q I h;show bW (c g s j H _ I h) λN m #[y,J,F,n,q]=>bW (w g m j J _ F q) λu M a=>?_;let(x,G,E,p,a,b,xs,k,B,z,e,r,t,l):=a;subst B z;obtain rfl:=p;obtain rfl:=n;rw[ad9]at l;show RP v E e r t λL C=>#[.bl _,G,C,W,l]
def pc_ddnin(v:X.A.units+64<cLine)(c:PE X i ty)(w:PE X o Y):PC X .NotIn i o (Ck X.K R ty Y):=by intro g s j H Q I h;show bW (c g s j H _ I h) λN m #[y,J,F,n,q]=>bW (w g m j J _ F q) λu M a=>?_;let(x,G,E,p,a,b,xs,k,B,z,e,r,t,l):=a;subst B z;obtain rfl:=p;obtain rfl:=n;rw[Bool.bne_true]at l;show Ng v E e r t λL C=>#[.bl _,G,C,W,l]
def pe_ddget(C:X.A.units+64<cLine)(F:PE X o Y)(c:PE X i ty)(E:ME i):PE X (.Subscript o i pos) (F1 X.K Y ty):=by intro j s m H Q I h;show zL Z7.lookup E (bW (F j s m H _ I h) λu p #[x,O,Mz0,r,w]=>bW (c j p m O _ Mz0 w) λT S a=>?_);let(y,N,n,q,a,b,xs,k,v,J,G,e,z,B,g,t):=a;subst J G;obtain rfl:=r;obtain rfl:=q;show#[(Jy n e).1,Pk C n e z B g λP R L l=>#[v,N,L,l,t]]
def ps_ddput(E:X.A.units+64<cLine)(G:PE X o Y)(c:PE X i ty)(C:PE X Z tv)(F:WO Z (cL (.Subscript o i U)) pos.line X.env=pure A):
  PS X (.Assign [.Subscript o i U] Z pos) (Dc X.K Y ty tv):=by
 intro g s j H D I h;show acF (bW (C g s j H _ I h) λr m #[v,S1,Q,rv,w]=>bW (G g m j S1 _ Q w) λu l #[x,R1,Pz0,p,t]=>bW (c g l j R1 _ Pz0 t) λiv s3 a=>?_) F;let(y,H3,O,n,a,b,xs,k,Mz0,L,e,z,B,J,q):=a;subst Mz0 L;obtain rfl:=p;obtain rfl:=n;show MG E O e z B rv J λT N=>#[j,_,N,q]
theorem pe_ddnew:PE X (.Dict [] [] pos) ER:=λa s b H Q I h=>
 wpAny_Dict_empty #[.ref s.heap.objs.size,_,I.laid (λ_ _ q=>ck _ q) (UC _) (tm (Vm _) (beq_eq_false_iff_ne.mpr (eg (UY I.big))) .nil (Heap.DictOfH.new s.heap)),W,h _ (I.VF.fresh (UC _))]
end
mutual
def PU:Uv->Uv->b4 Bool
 |.int i,.int j=>cL (decide (i<j))
 |.str x,.str y=>cL (decide (x.cps.toList<y.cps.toList))
 |.tuple xs,.tuple ys=>Qn xs ys
 |_,_=>Uo
def Qn:b3 Uv->b3 Uv->b4 Bool
 |[],[]=>cL Ut
 |[],_::_=>cL Uq
 |_::_,[]=>cL Ut
 |x::xs,y::ys=>if Uv.eqv x y=Uq then Qn xs ys else PU x y
end
end LD
namespace LD
open PySem PyProof.Rows
structure VE(es:G Xy)(UZ:G (Unit×U)):Prop where
 vals:es.map (·.val)=UZ.map (·.2)
end LD
namespace L10
open PySem PyProof.Rows L2 L3 LD
def iU:SV->z D
 |.fz d=>if keyD d=R then S d else P
 |_=>P
def P7:SV->z D
 |.fz d=>S d
 |_=>P
def qX(a:aJ):SV->z (Nat×G (D×D))
 |.rf i=>match a[i]? with
  |some (.dd b)=>S (i,b)
  |_=>P
 |_=>P
def fO(b:G (D×D))(k:D):z D:=(b.find? λa=>Uv.eqv a.1 k).map (·.2)
def ic(b:G (D×D))(k v:D):G (D×D):=if(b.find? λa=>Uv.eqv a.1 k).isSome=R then b.map (λa=>if Uv.eqv a.1 k=R then(a.1,v)else a)else b++[(k,v)]
section
variable{B O O':bE}{K:lD}{E:XK}{H H' S R:Hp}{Y α' X T:b3 Uu}{ω ω' ω1 Z:aJ}{U:L2.St}{ρ:aP}{v:V}{k:KD}
def kZ(e:iU x=cL d)(h:Xn O K H Y v x):∃(k:KD) (b:M),k.1=d/\v=.ref b/\L3.DV O K H (.ref b) d:=by
 cases x with
 |fz z=>
  let e:(if keyD z=Uq then cL z else P)=cL d:=e;by_cases a:keyD z=Uq
  .rw[ax a]at e
   ext e;let h:=h;cases d with
   |tuple xs=>cases h with
    |tup g f=>show#[#[_,a],_,W,W,.tup g f]
   |_=>simp[keyD]at a
  .rw[a4 a]at e;ext e
 |rf i=>ext e
 |tp l=>ext e
def FU(s:U6 B K H Y ω)(b:Xn (ow B Y ω) K H Y v x)(h:qX ω x=cL (i,o)):ω[i]?=cL (.dd o)/\∃a xs,Y[i]?=cL a/\v=.ref a/\H a=cL (DkO a xs)/\PrD (ow B Y ω) K H xs o:=by
 cases x with
 |fz d=>ext h
 |tp l=>ext h
 |rf j=>
  let(a,n,rfl):=b;unfold qX at h;dsimp only at h;cases q:ω[j]? with
  |none=>rw[q]at h;ext h
  |some c=>
   rw[q]at h;cases c with
   |dd m=>let e:=UI h;ext e;let(ws,g,f):=s.cel i a _ n q;show#[q,a,ws,n,W,g,f]
   |_=>ext h
def GF:∀{xs:G (KD×M×V)} {c:G (D×D)},PrD O K H xs c->ue K H xs:=by
 intro _ _ b
 induction b with
 |nil=>show λ_ h=>nomatch h
 | @cons x g xs c h t f=>
  intro y a;rcases U5.mp a with e|a
  .subst e;rw[h.1];show h.2.1.plain
  .show f y a
def tG{x:KD×M×V}{a:D×D}(h:x.1.1=a.1):decide (x.1=k)=Uv.eqv a.1 k.1:=by
 rw[<-h]
 haveI:Decidable (x.1.1=k.1):=Classical.propDecidable _
 rw[GL (dJ x.1.2).1 (dJ k.2).1];by_cases e:x.1=k
 .rw[a5 e,a5 (en Subtype.val e)]
 .rw[a6 e,a6 λz=>e (Subtype.ext z)]
def wP:∀{xs:G (KD×M×V)} {b:G (D×D)},PrD O K H xs b->(∀d,fO b k.1=cL d->∃v,m9 xs k=cL v/\L3.DV O K H v d)/\(fO b k.1=P->m9 xs k=P):=by
 intro _ _ a
 induction a with
 |nil=>show#[λx e=>(by ext e),λ_=>W]
 | @cons x f xs b h t g=>
  unfold fO m9;rw[Vg,Vg,tG h.1];cases Uv.eqv f.1 k.1 with
  |true=>show#[λd e=>#[x.2.2,W,by ext e;show h.2.2],λe=>by ext e]
  |false=>show g
def xl(h:PrD O K H xs o):(m9 xs k).isSome=(fO o k.1).isSome:=by
 let(b,a):=wP h;cases q:fO o k.1 with
 |none=>rw[a q];rfl
 |some x=>let(u,e,_):=b x q;rw[e];rfl
def M0:∀{xs:G (KD×M×V)} {c:G (D×D)},PrD O K H xs c->(xs.find? λx=>decide (x.1=k)).isSome=(c.find? λb=>Uv.eqv b.1 k.1).isSome:=by
 intro _ _ a
 induction a with
 |nil=>show W
 | @cons x b xs c h t e=>
  rw[Vg,Vg,tG h.1];cases Uv.eqv b.1 k.1 with
  |true=>rfl
  |false=>show e
def QD(b:L3.DV O K H v d):∀{xs:G (KD×M×V)} {f:G (D×D)},PrD O K H xs f->PrD O K H (xs.map λx=>if x.1=k then(x.1,x.2.1,v)else x) (f.map λc=>if Uv.eqv c.1 k.1=Uq then(c.1,d)else c):=by
 intro _ _ a
 induction a with
 |nil=>show .nil
 | @cons x c xs f h t g=>
  rw[UK,UK];show .cons ?_ (g);let e:=tG (k:=k) h.1;by_cases z:x.1=k
  .rw[ax z,ax (by rw[<-e];show a5 z)];show#[h.1,h.2.1,b]
  .rw[a4 z,a4 (by rw[<-e,a6 z];simp)];show h
def Dm(r:x.1.1=o.1/\L3.DV O K H (.ref x.2.1) o.1/\L3.DV O K H x.2.2 o.2):∀{xs:G (KD×M×V)} {b:G (D×D)},PrD O K H xs b->PrD O K H (xs++[x]) (b++[o]):=by
 intro _ _ a
 induction a with
 |nil=>show .cons r .nil
 | @cons _ _ _ _ g t e=>show .cons g (e)
def wx(e:L3.DV O K H (.ref b) k.1)(a:L3.DV O K H v d)(h:PrD O K H xs o):PrD O K H (kE xs k b v) (ic o k.1 d):=by
 unfold kE ic;rw[M0 h];split
 .show QD a h
 .show Dm #[W,e,a] h
theorem Na(e:Ev O H O' H')(h:PrD O K H xs o):PrD O' K H' xs o:=Paired.Yc h λ_ _ q=>#[q.1,q.2.1.ev e,q.2.2.ev e]
def pR(neg:Bool)(a fd:cM):cM:=λρ ω=>(a ρ ω).bind λx ω1=>(fd ρ ω1).bind λo Z=>(RS.Vu Z (iU x)).bind λk Z=>(RS.Vu Z (qX Z o)).bind λp Z=>.ok (.fz (.bool ((fO p.2 k).isSome !=neg))) Z
def wI(r:b6 K E C J)(hd:b6 K E I fd):b6 K E (Ck K neg C I) (pR neg J fd):=by intro B U H Y ω ρ Q s f w;show r B U H Y ω ρ _ s f (w.bind.imp λx X ω1 S e1 l j v p=>?_);show hd B U S X ω1 ρ _ l (f.WQ e1) (j.bind.imp λo T Z R e2 g e u q=>?_);let(d,n,e):=WS.Vu e;let((i,N),m,e):=WS.Vu e;let(_,a,xs,L,rfl,y,h):=FU g q m;let(k,b,rfl,rfl,t):=kZ n (p.WQ e2);show#[a,b,xs,k,W,W,y,GF h,t.plain,?_];rw[xl h];show WS.now g e _ (.bl _)
def l8(fd a:cM):cM:=λρ ω=>(fd ρ ω).bind λo ω1=>(a ρ ω1).bind λx Z=>(RS.Vu Z (iU x)).bind λk Z=>(RS.Vu Z (qX Z o)).bind λp Z=>(RS.Vu Z (fO p.2 k)).bind λd Z=>.ok (.fz d) Z
def Bw(hd:b6 K E J fd)(C:b6 K E I fk):b6 K E (F1 K J I) (l8 fd fk):=by intro B U H Y ω ρ Q s f w;show hd B U H Y ω ρ _ s f (w.bind.imp λo X ω1 S e1 m j u A=>?_);show C B U S X ω1 ρ _ m (f.WQ e1) (j.bind.imp λx T Z R e2 g e v t=>?_);let(d,q,e):=WS.Vu e;let((i,N),p,e):=WS.Vu e;let(_,a,xs,L,rfl,G,h):=FU g (A.WQ e2) p;let(k,b,rfl,rfl,F):=kZ q t;let(y,n,e):=WS.Vu e;let(z,r,l):=(wP h).1 y n;show#[a,b,xs,k,z,W,W,G,GF h,F.plain,r,WS.now g e z l]
def mx(fd c b:cM):dw:=λρ ω=>(b ρ ω).bind λy ω1=>(fd ρ ω1).bind λo Z=>(c ρ Z).bind λx a=>(RS.Vu a (iU x)).bind λk a=>(RS.Vu a (qX a o)).bind λp a=>(RS.Vu a (P7 y)).bind λd a=>if p.2.length<1000000 then .ok (.nx ρ) (a.set p.1 (.dd (ic p.2 k d)))else .bad
def Fj(e:P7 x=cL d)(h:Xn O K H Y v x):L3.DV O K H v d:=by
 cases x with
 |fz z=>ext e;show h
 |rf i=>ext e
 |tp l=>ext e
def BJ(hd:b6 K E td fd)(Q:b6 K E tk fk)(N:b6 K E tv fv):nI K E (Dc K td tk tv) (mx fd fk fv):=by
 intro B U H Y ω ρ D s h w;show N B U H Y ω ρ _ s h (WS.imp (WS.bind w) λy X ω1 S e1 F A p m=>?_);show hd B U S X ω1 ρ _ F (h.WQ e1) (WS.imp (WS.bind A) λo T Z R e2 C t u P=>?_);show Q B U R T Z ρ _ C (h.WQ (e1.trans e2)) (WS.imp (WS.bind t) λx e g j e3 q f z L=>?_);let(kd,J,f):=WS.Vu f;let((i,UZ),I,f):=WS.Vu f;let(d,G,f):=WS.Vu f;let(l,a,xs,ha,rfl,g1,n):=FU q (P.WQ e3) I;let(k,b,rfl,rfl,r):=kZ J L;let M:=Fj G (m.WQ (e2.trans e3));dsimp only at f;by_cases hn:UZ.length<1000000
 .rw[ax hn]at f;let ev:Ev (ow B e g) j (ow B e g) (aW j a (DkO a (kE xs k b p))):=lQ ha l (by nofun);let e4:Wc e g j e (g.set i (.dd (ic UZ k.1 d))) (aW j a (DkO a (kE xs k b p))):=Wc.put ha l (by nofun) (by nofun);let hl:=Paired.length n;show#[a,b,xs,k,W,W,g1,GF n,r.plain,r9 (),?_];show f e _ e4 (q.put ha l (by nofun) (by nofun) #[_,av,wx (r.ev ev) (M.ev ev) (Na ev n)]) U ((h.WQ (e1.trans (e2.trans e3))).WQ e4)
 .rw[a4 hn]at f;show f.elim
def uE:cM:=λ_ ω=>.ok (.rf ω.length) (ω++[.dd []])
def Bp:b6 K E ER uE:=by intro B U H Y ω ρ Q s b w;show λp a=>kP s a w λ_=>#[[],av,.nil]
end
end L10
namespace L3
open PySem PyProof.Rows L2
structure abb(K:lD)(x qual:Str)(st:Wm)(f:M)(fd:Vv)(T:M)(Vk:Array U):Prop where
 ex:∃(oc:U) (od:z M) (kV doc pm:U) (an:z M) (Wj ct:U) (osl:Array (z U)),
  fd=VV x qual (eC st) (bQ st) (au st) (.ref T) kV doc pm an Wj ct/\K.lookup f=S #[oc,od,.func fd,osl]/\XZ K Wj qual=R
 kp:V4 K (.ref f)=R
 tp:∃o n,K.lookup T=S o/\o.data=.seq Vk n
section
variable{P:UR}{w:Va}{K:lD}{I:Str->b4 CL}{base:Heap}{x Z:Str}{Y:Wm}{f:Uu}{Q:Vv}{T:Uu}{B:Array CL}{N ps:b3 Str}{k n m:Nat}{J:Sp}{L:b3 CL}
def abb.binds(F:abb K x Z Y f Q T B)
  (h:∀(kV a b:U) (e:z M) (g ct:U) (us:G U),(us++L).length=ps.length->∃k:z (Array U)->Sem (G (Str×U)),bindArgs (VV x Z (eC Y) (bQ Y) (au Y) (.ref T) kV a b e g ct) #[us,[]]=seqItems? (.ref T)>>=k/\k (S B)=pure (ps.zip (us++L))):Binds K Q ps L:=by
 let(t,r,kV,a,b,e,g,ct,i,rfl,u,l):=F.ex;let(o,n,q,p):=F.tp;intro s us X j;let(k,e1,e2):=h kV a b e g ct us j;show Y4.of_defaults (fd:=VV x Z (eC Y) (bQ Y) (au Y) (.ref T) kV a b e g ct) W (X _ _ q) p e1 e2
def wJ(P:UR)(w:Va)(K:lD)(I:Str->z U)(base:Heap)(b:uN)(k:Nat)(x:Str)(ps:G Str)(a:G V)(J:Sp):Prop:=
 ∃(f:M) (Q:Vv) (L:G U),FnOk P w K I base b k f Q ps J/\Binds K Q ps L/\Vals a L/\V4 K (.ref f)=R/\I x=S (.ref f)
def zG(C:wJ X.prog X.w X.K X.mg X.base CX k x ps Yx J)(l:Wl j X.A)(i:dj CX X E)(c:PA X (e::es) t)(a:k<=j:=by decide)(o:Gl X x:=by rfl)
  (g:(x==("__debug__":Str))=A:=by decide) (q:UO (e::es) X.env=(A,eval e X.env)::UO es X.env:=by rfl) (r:(backTo pos (UO es X.env)).any (·.1)=A:=by rfl):
  PE X (.Call (.Name x p) (e::es) [] pos) (jp J Yx E t):=by
 let(f,Q,L,F,b,v,h,m):=C;show zV F (l.mono a) o m h b v i c g q r
end
end L3
namespace L10
open PySem PyProof.Rows L2 L3
section
variable{P:UR}{w:Va}{K:lD}{L:Str->b4 CL}{base:Heap}{x Z:Str}{Y:Wm}{f:Uu}{J:Vv}{T:Uu}{C:Array CL}{N X:b3 Str}{k n m:Nat}{g:dw}{I:fD}
def RN(F:abb K x Z Y f J T C)(S:Wy N X (au Y))(c:X.length=n)(hm:N.length=m)(q:I=cB m g)
  (u:∀(a:U) (A:U4) (outer:G Env) (s:Uw) (H:Hp) (E:XK),Wl k (A.deeper (Vd Z (au Y) s.heap.objs.size f a))->
   ∃t,Z9 (dR (L4.i7 P w) P w K L base N Z (au Y) f a A outer s H E) (bQ Y) t/\nI K E t g):FnOk P w K L base (L4.i7 P w) (k+1) f J X (jW K n I):=by
 subst q hm;let(z,y,kV,r,v,B,a,ct,i,rfl,j,e):=F.ex;show FB j e S (λvs H Q E h=>h.1.trans c.symm) λA outer s H vs Q E p b=>?_;let(t,l,o):=u a A outer s H E p;show#[t,l,yq (xs:=[]) o b]
end
section
variable{K:lD}{E:XK}
def vO(F:fD)(n:Nat)(es:G D)(c:wM):cM:=λe b=>(c e b).bind λxs a=>if(xs++es.map SV.fz).length=n then F (xs++es.map SV.fz) a else .bad
theorem x0:∀{c ws:G V} {xs b:G SV},W5 O K H α c xs->W5 O K H α ws b->W5 O K H α (c++ws) (xs++b)
 |_,_,_,_,.nil,h=>h
 |_,_,_,_,.cons a t,h=>.cons a (x0 t h)
def BZ(hd:∀O H,L3.Wg O K H J es)(c:sO K E C I):b6 K E (jp (jW K n F) J E C) (vO F n es I):=by
 intro B g H α m o Q s h w;show c B g H α m o _ s h (w.bind.imp λxs a b l e1 i f p j=>?_);by_cases hn:(xs++es.map SV.fz).length=n
 .rw[ax hn]at f;let e:=x0 j (iC (ow B a b) a (hd (ow B a b) l));show#[e.length.trans hn,B,a,b,_,i,e,f]
 .rw[a4 hn]at f;show f.elim
end
end L10
namespace L4
open PySem PyProof.Rows L2 L3
def ZX(h:Heap)(e:M)(c:U)(d:z M)(a:U)(T:M)(v:U):Prop:=
 ∃b fs,h.get? e=S b/\b.cls=c/\b.dict=d/\b.data=.fields fs/\fs[0]?=S a/\fs[1]?=S (.ref T)/\T≠e/\∃g f,h.get? T=S g/\g.data=.fields f/\f[3]?=S v
section
variable{M:aaN}{A:U4}{E:CL->Uw->Prop}{s:Uw}
def o9
  (C:A.frames=cL (env::outer)) (r:s.heap.FunFrames base (env::outer)) (B:env.frame=cL L) (t:s.heap.get? e=cL I) (h:I.data=.fields fs) (p:1<fs.size) (F:fs[0]?=cL a0)
  (k:∀x T,s.heap.objs.size<=T->ZX x e I.cls I.dict a0 T (rawInt L)->Lft (env::outer) e Uo s.heap x->Q ⟨⟩ {s with heap:=x}):
  wpAny M A (frameOf env>>=λfr=>entryPlaceOf L nx>>=λpl=>EntryCells.newEntry J fr .none (rawInt L) .none pl>>=λb=>setField (.ref e) 1 b) Q E s:=by
 let g:e∉(env::outer).filterMap (·.frame):=λz=>by let(_,o,q,n):=r.mem z;rw[t]at q;ext q;show n fs h
 show Ld (afi C r B λa S=>?_);show Ld (aeC λpl P=>?_);unfold EntryCells.newEntry newFields;show Ld (We ?_ (P.sizeOk5 _ _ _ _ _));let l:=(S.2.1 e g).trans t;generalize X:({cls:=.type "traceback",dict:=Uo,data:=.fields ([J,.ref L,.none,rawInt L,.none]++(if pl.isEmpty then UA 6 CL.none else pl)).toArray}:Obj)=N;let u:N.data=.fields ([J,.ref L,.none,rawInt L,.none]++(if pl.isEmpty then UA 6 CL.none else pl)).toArray:=by rw[<-X]
 let G:=ef u;let j:=ck N l;show VQ j h p ?_;let m:=VI (cn l);let v:=ec h (·.setIfInBounds 1 (CL.ref a.objs.size));let i:=dt (Obj.mapFields (·.setIfInBounds 1 (CL.ref a.objs.size))) j (ef v)
 let w:=
  (da (a.push N) (Obj.mapFields (·.setIfInBounds 1 (CL.ref a.objs.size))) m.symm).trans (cv a G)
 let X8:∀b o,b≠e->a.get? b=cL o->((a.push N).update e (Obj.mapFields (·.setIfInBounds 1 (CL.ref a.objs.size)))).get? b=cL o:=λb o ne q=>by rw[da _ _ ne.symm];show ck N q
 show k _ a.objs.size (by rw[S.1];show UC _) #[_,_,i,Obj.cls_mapFields _ _,?_,v,?_,?_,m,_,_,w,u,?_] #[λb o q ne _ y=>X8 b o ne ((S.2.1 b y).trans q),λb o q ne _=>?_,λb o q=>?_]
 .cases I with
  |mk c d H f=>ext H<;>rfl
 .rw[Xw ()];show F
 .simp[p]
 .rfl
 .let(f,z):=S.2.2 b o q;show#[f,X8 b _ ne z]
 .by_cases ne:b=e
  .subst ne;show#[_,i]
  .let(f,z):=S.2.2 b o q;show#[_,X8 b _ ne z]
def NU{base:Heap}{env:Env}{outer:b3 Env}{L e:Uu}{c B:U}{D hd:b4 Uu}{Q:Unit->Uw->Prop}
  (v:A.frames=S (env::outer)) (u:s.heap.FunFrames base (env::outer)) (h:env.frame=S L) (F:A6 s.heap e c D B hd)
  (k:∀x T,s.heap.objs.size<=T->ZX x e c D B T (rawInt L)->Lft (env::outer) e hd s.heap x->Q ⟨⟩ {s with heap:=x}):wpAny M A (noteFrame (.ref e) env) Q E s:=by
 let(O,fs,q,J,I,d,w,r):=F;subst J I;cases hd with
 |none=>let r:fs[1]?=S .none:=r;ext noteFrame;simp only[h];show Ld (Vc q d r ?_);rw[a4 ()];show o9 v u h q d (U1.mp r).1 w k
 |some T=>
  let(r,G,P,C,g,dT,p):=r;ext noteFrame;simp only[h];show Ld (Vc q d r ?_);rw[ax (show(CL.ref T !=CL.none)=R from by simp)];show Ld (Vc g dT p ?_);rw[a4 (show¬((CL.none==rawInt L)=R)from by simp[rawInt])];show Ld (VQ g dT (U1.mp p).1 ?_);let f:∀b,b≠T->(s.heap.update T (Obj.mapFields (·.setIfInBounds 3 CL.none))).get? b=s.heap.get? b:=λb ne=>da _ _ ne.symm;let a:=dt (Obj.mapFields (·.setIfInBounds 3 CL.none)) g (ef (ec dT _));let m:∀b o,s.heap.get? b=S o->(∀X,o.data≠.fields X)->b≠T:=λb o z n y=>by rw[y,g]at z;ext z;show n C dT
  show o9 v (u.of_keeps λb o z n=>#[o,(f b (m b o z n)).trans z,W]) h ((f e G.symm).trans q) d (U1.mp r).1 w λx K t N i=>k x K (by rw[Heap.size_after_update]at t;show t) N #[λb o z l j H=>?_,λb o z l j=>?_,λb o z=>?_]
  .show i.keep b o ((f b λy=>j (by rw[y])).trans z) l (by simp) H
  .show i.slot b o ((f b λy=>j (by rw[y])).trans z) l (by simp)
  .by_cases y:b=T
   .subst y;show i.here b _ a
   .show i.here b o ((f b y).trans z)
def BS{base:Heap}{env:Env}{outer:b3 Env}{L e T:Uu}{c G v:U}{V:b4 Uu}{Q:Unit->Uw->Prop}
  (P:A.frames=cL (env::outer)) (O:s.heap.FunFrames base (env::outer)) (B:env.frame=cL L) (F:ZX s.heap e c V G T v)
  (k:∀x D,(D=T\/s.heap.objs.size<=D)->A6 x e c V G (cL D)->Lft (env::outer) e (cL T) s.heap x->Q ⟨⟩ {s with heap:=x}):wpAny M A (leaving env (.ref e)) Q E s:=by
 let(I,fs,q,N,K,d,C,r,m,S,H,h,dT,t):=F;subst N K;let f:∀b,b≠T->(s.heap.update T (Obj.mapFields (·.setIfInBounds 3 CL.none))).get? b=s.heap.get? b:=λb ne=>da _ _ ne.symm;let a:=dt (Obj.mapFields (·.setIfInBounds 3 CL.none)) h (ef (ec dT _));let l:=(U1.mp t).1;unfold leaving noteFrame;simp only[B];show Ld (Ld (Vc q d r ?_));rw[ax (show(CL.ref T !=CL.none)=Uq from by simp)];show Ld (Vc h dT t ?_);by_cases u:(v==rawInt L)=Uq
 .rw[ax u]
  show UB ?_;ext setFlight;show Ld (Vc q d r ?_);rw[ax (show(CL.ref T !=CL.none)=Uq from by simp)];show VQ h dT l ?_;show k _ T (.inl W) #[I,fs,(f e m.symm).trans q,W,W,d,C,r,m,_,_,a,ec dT _,?_] #[λb o z i g _=>?_,λb o z i g=>#[o.slots,?_],λb o z=>?_]
  .rw[V3 l]
  .show(f b λy=>g (by rw[y])).trans z
  .show(f b λy=>g (by rw[y])).trans z
  .by_cases y:b=T
   .subst y;show#[_,a]
   .show#[o,(f b y).trans z]
 .rw[a4 u]
  show Ld (VQ h dT l ?_);let p:∀b o,s.heap.get? b=cL o->(∀X,o.data≠.fields X)->b≠T:=λb o z n y=>by rw[y,h]at z;ext z;show n H dT
  show gn P (O.of_keeps λb o z n=>#[o,(f b (p b o z n)).trans z,W]) B ((f e m.symm).trans q) d (U1.mp r).1 C λx D w R j=>k x D (.inr (by rw[Heap.size_after_update]at w;show w)) R #[λb o z i g J=>?_,λb o z i g=>?_,λb o z=>?_]
  .show j.keep b o ((f b λy=>g (by rw[y])).trans z) i (by simp) J
  .show j.slot b o ((f b λy=>g (by rw[y])).trans z) i (by simp)
  .by_cases y:b=T
   .subst y;show j.here b _ a
   .show j.here b o ((f b y).trans z)
def Fq{g:Env}{h:String}{e T:Uu}{c m v:U}{D:b4 Uu}{Q:U->Uw->Prop}(F:ZX s.heap e c D m T v)
  (k:∀x I,ZX x e c D m T I->(∀b o,b≠T->s.heap.get? b=S o->x.get? b=S o)->(∃o,x.get? T=S o)->E (.ref e) {s with heap:=x}):wpAny M A (aeD h (.ref e) g:Sem U) Q E s:=by
 let(t,fs,q,w,u,d,y,r,l,C,B,j,dT,p):=F;subst w u;let i:=(U1.mp p).1;ext aeD;show Ld (Vc q d r ?_);rw[a4 (show¬((CL.ref T==CL.none)=R)from by simp)];ext setFlight;show Ld (Ld (Vc q d r ?_));rw[ax (show(CL.ref T !=CL.none)=R from by simp)];show VQ j dT i (wpAny_throw ?_);let n:∀b,b≠T->(s.heap.update T (Obj.mapFields (·.setIfInBounds 3 (g.frame.elim CL.none λf=>rawInt f)))).get? b=s.heap.get? b:=λb ne=>da _ _ ne.symm;let a:=dt (Obj.mapFields (·.setIfInBounds 3 (g.frame.elim CL.none λf=>rawInt f))) j (ef (ec dT _));show k _ _ #[t,fs,(n e l.symm).trans q,W,W,d,y,r,l,_,_,a,ec dT _,V3 i] (λb o ne z=>(n b ne).trans z) #[_,a]
end
end L4
namespace L2
open PySem PySem.Spec PyProof.Rows
def Sl(Y:Cx)(E:XK):U->Uw->Prop:=λx a=>∃pins b H1 e c f a0 hd,x=.ref e/\Inv Y pins b H1 a/\L4.A6 a.heap e c f a0 hd/\(Y.s₀.heap.get? e=P\/e∈Y.ex)/\(∀T,hd=S T->Y.s₀.heap.get? T=P\/T∈Y.ex)/\H1 e=P/\(∀T,hd=S T->H1 T=P)/\E c f H1
end L2
namespace L4
open PySem PyProof.Rows L2 L3
def M6{P:UR}{w:Va}{K:lD}{k:Str->b4 CL}{base:Heap}{N:b3 Str}{i:Str}{a:Wd}{f:Uu}{M:CL}{A:U4}{outer:b3 Env}{g:Uw}{Q:Hp}{E:XK}
  {m:b3 (Uu×Obj)} {R:L2.St} {H:Hp} {s:Uw} {e T:Uu} {c O v:CL} {d:b4 Uu} (I:L2.Inv (dR (i7 P w) P w K k base N i a f M A outer g Q E) m R H s)
  (F:ZX s.heap e c d O T v) (J:g.heap.get? e=Uo) (G:g.heap.get? T=Uo) (ne:H e=Uo) (u:H T=Uo) (q:E c d H):
  (dR (i7 P w) P w K k base N i a f M A outer g Q E).xe (.ref e) s:=by
 let hA:=I.ok.frames;let hF:=I.stack;show BS (L:=g.heap.objs.size) hA hF W F λh' t j F' L=>?_;let X:=L.VF I.VF ne (λT1 z=>by ext z;show u) I.Zl;let sz:=I.sz;let Z:H t=Uo:=by
  rcases j with e|j
  .rw[e];show u
  .show I.VF.fresh j
 let gT:g.heap.get? t=Uo:=by
  rcases j with e|j
  .rw[e];show G
  .show d3 (Vb sz j)
 let r:∀b o,g.heap.get? b=cL o->b<g.heap.objs.size:=λb o z=>cn z;let h:∀b o,g.heap.get? b=cL o->b≠e/\cL T≠cL b:=λb o z=>#[(λy=>by rw[y,J]at z;ext z),(λy=>by ext y;rw[G]at z;ext z)];show#[e,c,d,O,t,H,W,J,gT,F',ne,Z,I.os,I.bare,?_,X,q];let B:=I.base;show#[λb o z n C _=>?_,λb o z n Y _=>?_,λb o z n _=>?_,λb o z _=>?_,B.Zu,B.Zn,B.Zx]
 .let l:=B.keep b o z n C (λy=>nomatch y)
  show L.keep b o l (h b o z).1 (h b o z).2 λy=>?_;rcases U5.mp (I.Y8 b y)with y|y
  .let y:b=g.heap.objs.size:=y;show bg (r b o z) (by rw[y];show VN _)
  .show C y
 .let(sl,l):=B.slot b o z n Y (λy=>nomatch y);let(p,S):=L.slot b _ l (h b o z).1 (h b o z).2;show#[p,S]
 .show B.free b o z n (λy=>nomatch y)
 .let(U,l):=B.there b o z (λy=>nomatch y);show L.here b U l
def Dz(X:Cx)(E:XK):Prop:=∀(a:L2.St) (H:Hp) (s:Uw) (e T:M) (c b v:U) (f:z M),L2.Inv X [] a H s->ZX s.heap e c f b T v->X.s₀.heap.get? e=P->X.s₀.heap.get? T=P->H e=P->H T=P->E c f H->X.xe (.ref e) s
theorem HZ{P:UR}{w:Va}{K:lD}{d:Str->z U}{base:Heap}{N:G Str}{b:Str}{a:Wd}{f:M}{m:U}{A:U4}{outer:G Env}{g:Uw}{n:Hp}{E:XK}:
  Dz (dR (i7 P w) P w K d base N b a f m A outer g n E) E:=λo H s e T c p v r I F l j i h q=>M6 I F l j i h q
def C0{X:Cx}{h:Uw}{l:Hp}{a:Wd}{C:M}{N:G Str}{d:G M}{E:XK}:
  dj (i7 X.prog X.w) ((bh X h l a C N d).Yb (Sl (bh X h l a C N d) E)) E:=by
 rintro f m H s x u I ⟨e,c,L,n,T,t,rfl,le,J,F,ne,B,os,bare,un,VF,q⟩;let r:=I.aa8 (ch:=[]) os un VF bare (λb z=>nomatch z);let g:∀b,s.heap.get? b=P->h.heap.get? b=P\/b∈d:=λb z=>by
  by_cases j:b∈d
  .show .inr j
  .show .inl ?_
   cases y:h.heap.get? b with
   |none=>rfl
   |some o=>let(v,i):=I.base.there b o y j;rw[z]at i;ext i
 show#[f,m,t,e,c,L,n,S T,W,r.XQ,F,g e le,(λp z=>by ext z;show g T J),ne,(λp z=>by ext z;show B),q]
def ZX.at{h h':Heap}{e T:M}{c a v:U}{s:z M}(F:ZX h e c s a T v)(k:∀b o,b=e\/b=T->h.get? b=S o->h'.get? b=S o):ZX h' e c s a T v:=by let(j,fs,q,p,n,d,t,r,m,l,f,i,dT,g):=F;show#[j,fs,k _ _ (.inl W) q,p,n,d,t,r,m,l,f,k _ _ (.inr W) i,dT,g]
end L4
namespace L2
open PySem PySem.Spec PyProof.Rows
theorem Inv.agO{X:Cx}{a:G (M×Obj)}{b:St}{H:Hp}{s:Uw}(I:Inv X a b H s):Inv X [] b H s:=
 #[I.ok,I.os,I.bare,I.base,I.loc,I.cell,I.free,I.Xt,λp e=>I.pin p (by rw[U9]at e;show XS _ e),I.VF,I.len]
def Ea{X:Cx}{elt V iter:UW}{ifs:G UW}{scope:Wd}{pos:Pos}(own:G Str)(u:G (Str×Nat)){wi:TI}{g:TG}{tc:TT}{te:TE}{EK:XK}(cH:X.stack=X.env::X.outer/\X.env.frame=S X.env.locals)(hex:X.ex=[])(k:X.pn=[])(PX:L4.Dz X EK)(hc:X.calm=Uq)(hi:PI X V iter wi)
  (hg:∀s H C i,PG (bh X s H scope C (cj own u) i) V g) (ht:∀s H C i,v5 (bh X s H scope C (cj own u) i) ifs tc) (he:∀s H C i,PE ((bh X s H scope C (cj own u) i).Yb (Sl (bh X s H scope C (cj own u) i) EK)) elt te) (hfv:aaj X scope u)
  (adf:(scope.names.all λy=> !(y.2==UQ.free)||(X.env.scope.names.lookup y.1==S UQ.cell)||(X.env.scope.names.lookup y.1==S UQ.free))=Uq)
  (XG:scope.kind=.function:=by rfl) (hnd:(scope.names.map (·.1)).Nodup:=by left)
  (ZY:∀y∈scope.names,y.2=.local->scope.names.lookup y.1=S .local:=by left) (hs:∀x,foldedSetIterable iter X.env x=pure x:=by intro _;rfl):
  PE X (.ListComp elt [#[V,iter,ifs,0]] scope pos) (mM own u wi g tc te):=by
 intro pins s σ H Q I h;let Y:=EE adf;rw[aj3];show YI (use:=P) W hs (km (jz I.ok Y)) XG ZY (bW (hi pins s σ H _ I h) λxv s1 h1=>bW h1 λitv s2 h2=>?_);let(it,i,tn,J,H2,e,j,T,st2,f2,R):=h2;subst e;show kF j hc XG hnd (jz I.ok Y) hfv T st2 f2 (λC=>hg _ _ C _) (λC=>ht _ _ C _) (λC=>he _ _ C _) ?_ (Fin:=λD H'=>Q (.ref D) H') R ?_
 .rintro D C x s3 hC ⟨ak6,σ3,l,e,c,dx,a0,hd,rfl,f,F,fe,fT,ne,nT,q⟩
  let hsz:s2.heap.objs.size<=s3.heap.objs.size:=f.sz;show wpAny (model X.prog X.w) X.A (noteFrame (.ref e) X.env) _ _ s3;show L4.NU (env:=X.env) (outer:=X.outer) (base:=X.base) (L:=X.env.locals) (by rw[<-cH.1];show f.ok.frames) (by rw[<-cH.1];show f.stack) cH.2 F λh' T' hT F' L=>?_;rw[<-cH.1]at L;let(m,hm,_):=f.loc;let hm:s3.heap.Ns C m:=hm;let hn3:l C=P:=f.free;let fo:∀b,b=e\/hd=S b->s2.heap.get? b=P\/b∈i:=λb z=>by
   rcases z with z|z
   .rw[z];show fe
   .show fT b z
  let aiW:∀b,b=e\/hd=S b->∃o vs,s3.heap.get? b=S o/\o.data=.fields vs:=λb z=>by
   let(ob,fs,q1,_,_,d,_,r):=F;rcases z with z|z
   .rw[z];show#[ob,fs,q1,d]
   .subst z;let(_,_,oT,ts,qT,dT,_):=r;show#[oT,ts,qT,dT]
  let nC:¬(C=e\/hd=S C):=λz=>by let(o,vs,q1,d):=aiW C z;let(o',es,ep,q2,d2,_):=hm;rw[q1]at q2;ext q2;rw[d]at d2;ext d2
  let nfr:C∉uW X.stack:=λz=>by let(_,o,t,_):=j.stack.mem z;show bg (UT (cn t) hC) (VN _)
  let IX:Inv X [] σ l s3:=(j.aa8 (ch:=i) f.os f.base f.VF f.bare λb a=>#[(f2 b a).2.2.2.1,(f2 b a).2.1,(f2 b a).2.2.2.2.1,(f2 b a).2.2.2.2.2]).agO;let n0:∀b,b=e\/hd=S b->X.s₀.heap.get? b=P:=λb z=>by
   rcases fo b z with y|y
   .cases z0:X.s₀.heap.get? b with
    |none=>rfl
    |some o=>let(o',z1):=j.base.there b o z0 (by rw[hex];show λy=>nomatch y);rw[y]at z1;ext z1
   .rcases(f2 b y).2.2.2.1 with w|w
    .rw[hex]at w;ext w
    .show d3 w
  let Ia:Inv X [] σ l {s3 with heap:=h'}:=by
   show L4.pf IX (λb=>b=e\/hd=S b) hex (by rw[k];show λp N=>nomatch N) (λb o z n nf=>L.keep b o z (λy=>n (.inl y)) (λy=>n (.inr y)) nf) (λb o z n=>L.slot b o z (λy=>n (.inl y)) (λy=>n (.inr y))) L.here n0 (λz=>?_) (λx cc z y=>?_) (λb z=>?_)
   .rcases fo _ z with y|y
    .let(mm,hn,_):=j.loc;let(o,_,_,t,_):=hn;rw[y]at t;ext t
    .show(f2 _ y).2.1 W
   .rcases fo _ y with w|w
    .let(v,o,t,_):=j.cell x cc z;rw[w]at t;ext t
    .show(f2 _ w).2.2.2.2.1 x cc z W
   .rcases z with z|z
    .rw[z];show ne
    .show nT b z
  let B:l T'=P:=f.VF.fresh hT;show#[m,hm.at' λo z=>L.keep C o z (λy=>nC (.inl y)) (λy=>nC (.inr y)) nfr,λh4 sb abT _=>?_];let CT:C<s3.heap.objs.size:=hm.lt;let F4:L4.ZX h4 e c dx a0 T' (rawInt X.env.locals):=F'.at λb o z y=>by
   show(sb.2 b λw=>?_).trans y;rcases z with z|z
   .show nC (.inl (w.symm.trans z))
   .let this:T'=C:=z.symm.trans w;rw[this]at hT;show bg (UT CT hT) (VN _)
  show L4.Fq F4 λh5 v' F5 k5 t5=>?_;let(f0,f1,_,f3,f4,f5):=j.aaK (H':=l) hC hn3;let Ib:Inv X [] σ l {s3 with heap:=h4}:=Ia.turned (t':=s3.toks) (λb o a z=>(sb.2 b a).trans z) f0 f1 f3 f4 (by rw[k];show λp N=>nomatch N);let(g0,g1,_,g3,g4,g5):=j.aaK (H':=l) (Vb hsz hT) B;let Ic:Inv X [] σ l {s3 with heap:=h5}:=Ib.turned (t':=s3.toks) (λb o a z=>k5 b o a z) g0 g1 g3 g4 (by rw[k];show λp N=>nomatch N);show PX σ l _ e T' c a0 v' dx Ic F5 (n0 e (.inl W)) ?_ ne B q;rcases g3 with w|w
  .rw[hex]at w;ext w
  .show d3 w
 .intro D C H' s' I' fin hm hC hn;let(m,hm):=hm;show#[m,hm,λh' hs'=>#[.ref D,H',?_,W,fin]];let(f0,f1,_,f3,f4,f5):=j.aaK hC hn;show I'.turned (t':=s'.toks) (λb o a q=>(hs'.2 b a).trans q) f0 f1 f3 f4 f5
end L2
namespace L10
open PySem PyProof.Rows L2 L3
section
variable{B O O':bE}{K:lD}{E:XK}{H H' I H2:Hp}{X C U y:b3 Uu}{N u L Z:aJ}{Y:L2.St}{T:aP}{v:V}
theorem Px{g:TG}{gt:wA}(h:Fy K E0 g gt):Fy K E g (λx T N=>eF (gt x T N)):=λB Y H X N T v x Q s a r w=>h B Y H X N T v x Q s a r (WS.e0 w)
theorem NO{t:TT}{b:qE}(h:rB K E0 t b):rB K E t (λT N=>eF (b T N)):=λB Y H X N T Q s a w=>h B Y H X N T Q s a (WS.e0 w)
def lZ(n:Nat)(a:G Nat)(b:IC)(gt:wA)(c:qE)(d:cM):cM:=λT N=>(b T N).bind λds L=>(ce (λx T N=>eF (gt x T N)) (λT N=>eF (c T N)) d ds (fP n a T) L []).bind λxs Z=>.ok (.rf Z.length) (Z++[.lst xs])
def BR{own:G Str}{d:G (Str×Nat)}{a:TI}{g:TG}{b:TT}{c:TE}{h:IC}{gt:wA}{k:qE}{r:cM}{n:Nat}{f:G Nat}(t:own.length=n)(p:d.map (·.2)=f)
  (x:PO K E a h) (o:Fy K E0 g gt) (m:rB K E0 b k) (q:b6 K E c r):b6 K E (mM own d a g b c) (lZ n f h gt k r):=by
 intro B Y H X N T Q s e w;show x B Y H X N T _ s e (WS.imp (WS.bind w) λds U L I e1 j i J l=>?_);show p9 t p (Px o) (NO m) q j (e.WQ e1) l i
end
end L10
namespace L3
open PySem L2
section
variable{P:UR}{w:Va}{K:lD}{Q:Str->b4 CL}{base h:Heap}{f C:Uu}{n m q:Str}{t:Wm}{T fs:b3 Str}{Z k:Nat}{N L:Sp}{Y:uN}
theorem MI.agB(i:MI K C f m q t)(c:CI K C n fs)(b:BA m q t T)(ok:∀fd,Zo K m q t f fd->FnOk P w K Q base Y Z f fd T N):L10.lM P w K Q base Y Z n m T N:=
 let#[fd,z]:=i.F;#[C,f,fd,c.a,c.cls,#[i.a,i.i,z.kp],ok fd z,z.binds b]
theorem MI.ait(i:MI K C f "__init__" q t)(c:CI K C n fs)(X:K.In h)(G:h.Ns UL Q)(b:BA "__init__" q t T)(ok:∀fd,Zo K "__init__" q t f fd->FnOk P w K Q base Y Z f fd T N):L10.vq P w K Q base Y Z n T N:=
 let#[fd,z]:=i.F;#[C,f,fd,c.a,VJ X G c.a,#[c.mm,i.a,i.i,c.kc],ok fd z,z.binds b]
end
end L3
namespace L10
open PySem PySem.Spec PyProof.Rows L2 L3
section
variable{B O O':bE}{K:lD}{E:XK}{H H' Y H2:Hp}{α α' Z α2:b3 Uu}{T ω' X ω2:aJ}{σ:L2.St}{Q:aP}{v:V}
def lr(c f:Str)(a:cM):dw:=λQ T=>(a Q T).bind λx X=>match x with
 |.fz d=>if L9.Rk d=R then .er #[c,[(f,d)]] X else .bad
 |_=>.bad
def yM(M:UU K UL c=S (S (.ref C)))(L:b6 K E te fe):nI K E (L9.y8 C (L9.sP C f) E (eO te iq)) (lr c f fe):=by
 intro B σ H α T Q D s G w;show L B σ H α T Q _ s G (WS.imp (WS.bind w) λx Z X Y e1 I a v h=>?_)
 match x,h,a with
 |.fz d,h,a=>
  let h:=h;dsimp only at a;by_cases r:L9.Rk d=R
  .rw[ax r]at a
   let j:L9.PZ v/\∀(O':bE) (H':Hp),L3.DV O' K H' v d:=by
    cases d with
    |none=>ext h;show#[.inl W,λ_ _=>.Wu]
    |int i=>ext h;show#[.inr #[i,W,a7 r],λ_ _=>.int i]
    |_=>ext r
   show#[by show 1<=UD;decide,λe hn=>#[e,v,W,j.1,av,λp F g=>#[W,p,?_,?_]]]
   .rw[ar (eg g),av]
   .let u:Y p=Uo:=by rw[ar g]at F;show F
    let A:VZ Y (L9.P0 (aW (aW (aW Y e (.ext (L9.GV C e))) e (.ext (L9.P5 C e p))) p (.xd [(f,v)])) e):=λb o z=>by
     let t:b≠e:=λy=>by rw[y,hn]at z;ext z
     let J:b≠p:=λy=>by rw[y,u]at z;ext z
     rw[L9.iG t,ar J,ar t,ar t];show z
    show a (.ref C) (S p) Z _ (Wc.same A) (I.grow A) #[#[C,W,M],[(f,v)],λP q=>?_,λm N l=>#[(λz=>nomatch z),?_]]
    .ext q;rw[L9.iG g,av]
    .let n:(match m==f with|true=>S d|false=>Wv m [])=S N:=l
     cases hb:m==f with
     |true=>rw[hb]at n;ext n;show#[v,?_,j.2 _ _];show(match m==f with|true=>S v|false=>Wv m [])=S v;rw[hb]
     |false=>rw[hb]at n;ext n
  .rw[a4 r]at a;show a.elim
 |.rf _,_,a=>show a.elim
 |.tp _,_,a=>show a.elim
end
end L10
namespace LD
open PySem PySem.Spec PyProof.Rows L2
def QX(K:lD)(g f:TE):TE:=λe H Q=>∀p,H p=P->g e (aW H p (DkO p [])) λy h=>f e h λv a=>∃b k,y=.ref b/\a p=S (DkO p [])/\L2.DV K a (.ref b) k.1/\Q (.ref p) (aW a p (DkO p (kE [] k b v)))
def pe_dd1(U:X.A.units+64<cLine)(G:PE X k tk)(E:PE X v tv):PE X (.Dict [cL k] [v] pos) (QX X.K tk tv):=by
 intro a s m H Q I q;let hn:=I.VF.fresh (UC s.heap.objs.size);let O:=I.laid (t':=s.toks) (λ_ _ q=>ck _ q) (UC _) (tm (Vm _) (beq_eq_false_iff_ne.mpr (eg (UY I.big))) .nil (Heap.DictOfH.new s.heap));show wpAny_Dict_any W W (List.cons_ne_nil _ _) (show 1<=15 by decide) (pairTrees_cons_walk (bW (G a _ m _ _ O (q _ hn)) λu p #[x,Pz0,l,t,B]=>bW (E a p m Pz0 _ l B) λR S #[y,Y,j,r,b,n,N,e,C,w]=>pairTrees_nil_walk ?_));subst N;obtain rfl:=t;let(z,L,o,f,dd):=vh j e (λ_ h=>nomatch h);let T:o.length<=UD:=by rw[<-Paired.length f];show z
 let i:(kE [] n b y).length<=UD:=by let:=mY [] n b y;rw[WB];simp only[Wt]at this;ext
 ext storeAll;simp only[XX,Y1];show Ld (Ld (wpAny_dictSet_heap (show X.A.units+8<cLine by ext) (mn j C) dd λM g F=>UB (UB ?_)));let J:∃q,M.get? s.heap.objs.size=cL q:=let#[q,_,_,hq,_]:=g;#[q,hq]
 show#[.ref s.heap.objs.size,_,lG j (by rw[e];show True.intro) F J (tm i L (EX r f) g),W,w]
end LD
namespace L10
open PySem PyProof.Rows L2 L3 LD
section
variable{B O O':bE}{K:lD}{E:XK}{H H' H1 H2:Hp}{Y α' α1 α2:b3 Uu}{ω ω' ω1 Z:aJ}{X:L2.St}{ρ:aP}{v:V}
def A9(b a:cM):cM:=λρ ω=>(eF (b ρ ω)).bind λx ω1=>(eF (a ρ ω1)).bind λy Z=>match iU x,P7 y with
 |some k,S d=>.ok (.rf Z.length) (Z++[.dd (ic [] k d)])
 |_,_=>.bad
def HU(hk:b6 K E tk fk)(D:b6 K E tv fv):b6 K E (QX K tk tv) (A9 fk fv):=by
 intro B X H Y ω ρ Q s N w p l;let hB:=λz=>s.bn p z l;let P:U6 (bF B p) K (aW H p (DkO p [])) Y ω:=s.hide l;let m:Xb (ow (bF B p) Y ω) K (aW H p (DkO p [])) Y X ρ:=by
  let ev:Ev (ow B Y ω) H (ow (bF B p) Y ω) (aW H p (DkO p [])):=λb o h n=>by
   let t:b≠p:=λz=>by rw[z,l]at h;ext h
   show#[by rw[ar t];show h,λz=>?_];rcases z with(z|z)|z
   .show n (.inl z)
   .show t z
   .show n (.inr z)
  show#[N.1,λj x hx=>let#[v,h1,h2]:=N.2 j x hx;#[v,h1,h2.ev ev λ_ _ h=>h]]
 unfold A9 at w;show hk (bF B p) X _ Y ω ρ _ P m ?_;cases qk:fk ρ ω with
 |er x e=>rw[qk]at w;show w.elim
 |bad=>rw[qk]at w;show w.elim
 |ok x g=>
  rw[qk]at w;intro u Hk I S v0 G;show D (bF B p) X Hk u g ρ _ S (m.WQ I) ?_;let w:WS K E B H Y ω (PQ B K Q) ((eF (fv ρ g)).bind λy Z=>match iU x,P7 y with|some k,cL d=>.ok (.rf Z.length) (Z++[.dd (ic [] k d)])|_,_=>.bad):=w;cases qv:fv ρ g with
  |er x e=>rw[qv]at w;show w.elim
  |bad=>rw[qv]at w;show w.elim
  |ok y e=>
   rw[qv]at w;intro f L J A M F;let w:WS K E B H Y ω (PQ B K Q) (match iU x,P7 y with|some k,cL d=>.ok (.rf e.length) (e++[.dd (ic [] k d)])|_,_=>.bad):=w;cases q1:iU x with
   |none=>rw[q1]at w;show w.elim
   |some kd=>
    cases q3:P7 y with
    |none=>rw[q1,q3]at w;show w.elim
    |some d=>rw[q1,q3]at w;let(k,b,rfl,rfl,t):=kZ q1 (G.WQ J);let U:=Fj q3 F;let r:=(I.trans J).kp p _ av λ#[i,c,q,_]=>P.ba p (.inr W) i q;show#[b,k,W,r,t.plain,?_];let R:Ev (ow (bF B p) f e) L (ow (bF B p) f e) (aW L p (DkO p (kE [] k b M))):=Ev.mut (.inl (.inr W)) _;let C:=wx (t.ev R) (U.ev R) .nil;let T:=(A.ags r).aeR (c:=.dd (ic [] k.1 d)) (by nofun) (by rw[av];simp) #[_,av,C] hB;let e3:Wc Y ω H f e (aW L p (DkO p (kE [] k b M))):=((Wc.same (bj l _)).trans (I.trans J)).dd l;show w (f++[p]) _ #[λi a h=>dG (e3.pre i a h),e3.kp,λb z=>(qH A.len z).elim (e3.lv b) λz=>.inr (by rw[z];show l)] T (.ref p) #[p,by rw[<-A.len];show aU,W]
end
end L10
namespace L3
open PySem L2
theorem Ft{X:Cx}{P:UR}{w:Va}:dj (L4.i7 P w) X E0:=λ_ _ _ _ _ _ _ h=>by let(_,_,_,_,_,_,_,_,_,_,_,_,_,_,_,_,h):=h;show h.elim
end L3
namespace L10
open PySem PyProof.Rows L2 L3
section
variable{B O O':bE}{K:lD}{E:XK}{H H' Y H2:Hp}{U J Z I:b3 Uu}{N C T ω2:aJ}{X:L2.St}{L:aP}{v:V}
def l6(F:fD)(n:Nat)(es:G D)(a:wM):cM:=λL N=>(a L N).bind λxs T=>if(xs++es.map SV.fz).length=n then eF (F (xs++es.map SV.fz) T)else .bad
def yo(hd:∀O H,L3.Wg O K H Yx es)(c:sO K E o fa):b6 K E (jp (jW K n F) Yx E0 o) (l6 F n es fa):=by
 intro B X H U N L Q s e w;show c B X H U N L _ s e (w.bind.imp λxs Z T Y e1 f b h g=>?_);by_cases hn:(xs++es.map SV.fz).length=n
 .rw[ax hn]at b;let a:=x0 g (iC (ow B Z T) Z (hd (ow B Z T) Y));show#[a.length.trans hn,B,Z,T,_,f,a,WS.e0 b]
 .rw[a4 hn]at b;show b.elim
theorem zN:∀{c:G V} {xs:G β} {x:β},Paired e c xs->xs.getLast? =S x->∃y,c.getLast? =S y/\e y x
 |_,_,_,.nil,h=>by ext h
 |[v],[z],x,.cons r .nil,h=>by ext h;show#[v,W,r]
 |v::v2::c,z::g::xs,x,.cons r (.cons f t),h=>by rw[aaZ]at h;let(y,b,a):=zN (Paired.cons f t) h;show#[y,by rw[aaZ];show b,a]
theorem mJ:∀{b:G V} {xs:G β},Paired a b xs->Paired a b.dropLast xs.dropLast
 |_,_,.nil=>.nil
 |[v],[z],.cons r .nil=>.nil
 |v::v2::b,z::f::xs,.cons r (.cons e t)=>.cons r (mJ (Paired.cons e t))
def vR(a:cM):cM:=λL N=>(a L N).bind λo T=>(RS.Vu T (d5 T o)).bind λp T=>(RS.Vu T p.2.getLast?).bind λx T=>.ok x (T.set p.1 (.lst p.2.dropLast))
def CO(u:b6 K E to fo):b6 K E (DR K "list" Qm to) (vR fo):=by intro B X H U N L Q s l w;show u B X H U N L _ s l (w.bind.imp λo Z T Y e1 f b v t=>?_);let((i,xs),q,b):=WS.Vu b;let(x,n,b):=WS.Vu b;let(e,a,vs,ha,rfl,j,g):=tM f t q;let(y,p,m):=zN g n;show#[.inl #[W,vs,Ys.of j],a,vs,y,W,W,j,by rw[<-List.getLast?_eq_getElem?];show p,?_];let ev:Ev (ow B Z T) Y (ow B Z T) (aW Y a (.lst vs.dropLast)):=lQ ha e (by nofun);let e2:Wc Z T Y Z (T.set i (.lst xs.dropLast)) (aW Y a (.lst vs.dropLast)):=Wc.put ha e (by nofun) (by nofun);show b Z _ e2 (f.put ha e (by nofun) (by nofun) #[_,av,Paired.Yc (mJ g) λ_ _ r=>r.ev ev λ_ _ h=>h]) _ (m.WQ e2)
def HB(h:o L N=.ok (.rf i) T)(b:T[i]?=S (.lst xs))(a:xs.getLast? =S x):vR o L N=.ok x (T.set i (.lst xs.dropLast)):=by
 let e1:d5 T (.rf i)=S (i,xs):=by ext d5;dsimp only;rw[b]
 ext vR;rw[h,eH,e1];show(RS.Vu T xs.getLast?).bind _=_;rw[a];rfl
end
section
variable{B O O':bE}{K:lD}{E:XK}{H H' H1 H2:Hp}{Z α' α1 α2:b3 Uu}{ω ω' ω1 ω2:aJ}{Y:L2.St}{ρ:aP}{v:V}
def vt(ω:aJ)(ρ:aP)(j:Nat):z (Nat×G D):=match ρ[j]? with
 |some (S (.rf c))=>(match sh ω (.rf c)with
  |some (.list ds)=>S (c,ds)
  |_=>P)
 |_=>P
def mK(j:Nat)(f:FE):cM:=λρ ω=>match vt ω ρ j with
 |some (c,ds)=>(match f ((a8 ρ).set j (S (.ow ds)))with
  |.ok (.fz d,a)=>(match a[j]? with
   |some (S (.ow es))=>.ok (.fz d) (ω.set c (.lst (es.map .fz)))
   |_=>.bad)
  |_=>.bad)
 |none=>.bad
def AM(h:EO K E t f):b6 K E t (mK j f):=by
 intro B Y H Z ω ρ Q s sl w;unfold mK at w;cases ql:vt ω ρ j with
 |none=>rw[ql]at w;show w.elim
 |some p=>
  let(c,ds):=p;rw[ql]at w;dsimp only at w;obtain⟨J,L⟩:ρ[j]?=cL (cL (.rf c))/\sh ω (.rf c)=cL (.list ds):=by
   unfold vt at ql;split at ql
   .rename_i c' e1
    split at ql
    .rename_i ds' e2;ext ql;show#[e1,e2]
    .ext ql
   .ext ql
  let(a,vs,ha,hH,hd,ai9):=iB s L;let(xs,hc,_):=nY L;let(v0,I,hv0):=sl.2 j _ J;let(m,M,rfl):=hv0;obtain rfl:m=a:=by rw[ha]at M;show(UI M).symm
  let C:(Cell.lst xs)≠.dead:=by intro z;ext z
  let hlv:Lv Z ω m:=#[c,_,ha,hc,C];let ka:=s.ac9 ha;let aeT:∀b,ow B Z ω b->ow B Z (ω.set c .dead) b\/b=m:=by
   rintro b (z|⟨i,d,l,A,h3⟩)
   .show .inl (.inl z)
   .by_cases e:i=c
    .subst e;rw[ha]at l;show .inr (UI l).symm
    .show .inl (.inr #[i,d,l,by rw[Vf (λz=>e z.symm)];show A,h3])
  let N:∀b,b≠m->(λb=>if b=m then Uo else H b:Hp) b=H b:=λb g=>a4 g;let hjl:=(Ux.mp J).1;let R:Rl K (ow B Z (ω.set c .dead)) (λb=>if b=m then Uo else H b) (ow B Z ω) Y H ((a8 ρ).set j (cL (.ow ds))):=by
   show#[λb o g=>?_,λb z=>z.imp id sQ,λb z=>?_,s.noO,by rw[Vy];ext a8;rw[Us];show sl.1,λi x S=>?_,λi k es fs u l A g1 g2=>?_]
   .by_cases e:b=m
    .let g:=g;rw[ax e]at g;ext g
    .show(N b e).symm.trans g
   .let e:b≠m:=λy=>ka (by rw[<-y];show z);rw[a4 e];show s.owd b (z.imp id sQ)
   .by_cases e:i=j
    .subst e;rw[VO (by ext a8;rw[Us];show hjl)]at S;cases UI (UI S);show#[_,I,m,vs,W,ai9,ax W,hH,hd]
    .rw[Vf (λz=>e z.symm)]at S;let(d,rfl,hd'):=jF S;let(v,l,A):=sl.2 i _ hd';show#[v,l,A]
   .let G:∀(i:Nat) (es:b3 D),((a8 ρ).set j (cL (.ow ds)))[i]?=cL (cL (PV.ow es))->i=j:=λi es h=>by
     by_cases e:i=j
     .show e
     .rw[Vf (λz=>e z.symm)]at h;let(d,e,_):=jF h;ext e
    rw[G i es l,G k fs A]
  show h _ _ _ Y H _ Q R ?_;cases q:f ((a8 ρ).set j (cL (.ow ds)))with
  |bad=>rw[q]at w;show w.elim
  |er x=>rw[q]at w;show w.elim
  |ok r=>
   let(pv,U):=r;rw[q]at w;cases pv with
   |ow _=>show w.elim
   |pl _=>show w.elim
   |fz d=>
    dsimp only at w;cases q2:U[j]? with
    |none=>rw[q2]at w;show w.elim
    |some o=>
     rw[q2]at w;cases o with
     |none=>show w.elim
     |some y=>
      cases y with
      |fz _=>show w.elim
      |pl _=>show w.elim
      |ow es=>
       intro O' v H' e R' p;let(u,hu,T,X,rfl,g1,g2,g3,g4):=R'.slot j _ q2;obtain rfl:T=m:=by rw[I]at hu;ext hu;rfl
       let F:(Cell.lst (es.map SV.fz))≠.dead:=by intro z;ext z
       let kp:∀b o,b≠T->H b=cL o->H' b=cL o:=λb o g h=>R'.same b o (by rw[<-h];show N b g);let WQ:Wc Z ω H Z (ω.set c (.lst (es.map .fz))) H':=#[λ_ _ h=>h,λb o g n=>kp b o (λy=>n (by rw[y];show hlv)) g,λb z=>.inl ((sX hc C F).mp z)];let sub:∀b,ow B Z (ω.set c (.lst (es.map .fz))) b->O' b:=λb z=>by
        rw[FR hc C F]at z;rcases aeT b z with z|z
        .show R'.bo b z
        .rw[z];show g1
       let P:∀b,H b≠Uo->H' b≠Uo:=λb g z=>by
        by_cases y:b=T
        .rw[y,g3]at z;ext z
        .cases k:H b with
         |none=>show g k
         |some o=>rw[kp b o y k]at z;ext z
       let sto:U6 B K H' Z (ω.set c (.lst (es.map .fz))):=by
        show#[by rw[Vy];show s.len,s.nd,λb h=>P b (s.bn b h),s.ba,λi b h=>P b (s.al i b h),λi b d' l A=>?_];rcases bH A with⟨rfl,rfl⟩|⟨Za,A⟩
        .rw[ha]at l;ext l;show#[X,g3,iC _ _ (g4.ev (Ev.sub sub))]
        .show(s.cel i b d' l A).ev WQ.ev WQ.pre λo q=>kp b o (λy=>Za (s.nd i c T (by rw[<-y];show l) ha)) q
       show w Z H' WQ sto v (DV.ev (Ev.sub sub) p)
def E8(h:ρ[j]?=S (S (.rf c)))(g:ω[c]?=S (.lst (ds.map .fz)))(b:f ((a8 ρ).set j (S (.ow ds)))=.ok (.fz d,o))(a:o[j]?=S (S (.ow es))):mK j f ρ ω=.ok (.fz d) (ω.set c (.lst (es.map .fz))):=by
 let e:vt ω ρ j=S (c,ds):=by ext vt;rw[h];dsimp only;rw[cz g]
 ext mK;rw[e];dsimp only;rw[b];dsimp only;rw[a]
end
end L10
namespace L4
open PySem PySem.Spec PySem.W PyProof.Rows L2 L3
def w6{X:Cx}{i:L2.St}{d:XK}{K:lD}{P:UR}{w:Va}{mg:Str->b4 CL}{base:Heap}{k j:Nat}{x:Str}{V:b3 Str}{sp:Sp}{e:UW}{es:b3 UW}{t:TA}{p a B:Pos}(o:X.ex=[])(C:wJ P w K mg base (L4.i7 P w) k x V [] sp)(hP:X.prog=P)(hw:X.w=w)(hK:X.K=K)(hm:X.mg=mg)(N:X.base=base)(hr:Wl j X.A)(ha:PA (X.Yb (on X i d)) (e::es) t)(J:k<=j:=by decide)(hg:Gl X x:=by rfl)
  (M:(x==("__debug__":Str))=A:=by decide) (he:UO (e::es) X.env=(A,eval e X.env)::UO es X.env:=by rfl) (ZD:(backTo a (UO es X.env)).any (·.1)=A:=by rfl) (hs:WO (.Call (.Name x p) (e::es) [] a) Uo B.line X.env=pure A:=by rfl):
  Ry (X.Yb (on X i d)) [.Expr (.Call (.Name x p) (e::es) [] a) B] i (sg (jp sp [] d t)):=by
 subst hP hw hK hm N;let(f,fd,dsv,U,b,L,kp,m):=C;ext L;intro g s H D I h;show aar (bW (ah3 (Q:=SP (X.Yb (on X i d)) g D) ?_ I.quiet hs) λO G q=>?_)
 .show WY (iP I hg m ?_ M)
  show XY (h₀:=X.base) I.ok.mod.kin kp (bW (ha a g s i H _ I h) λl G #[vs,H1,E,r,q]=>#[E.XU,?_]) he ZD;let S:Vals (vs++[]) (l++[]):=r.append .nil;let hl:(l++[]).length=V.length:=by rw[<-S.length];show U.len _ _ _ _ q
  show Yp (Yh (U.run X.A X.stack G H1 #[l,[]] (l++[]) (vs++[]) _ d (hr.mono J) E.adN (b G l E.XU hl) S q) λr s' n=>?_);cases r with
  |error ex=>let(e,c,dx,a0,T,H',rfl,le,lT,F,ne,nT,Z,y,un,VF,q):=n;let R:=E.XQ;let I':=R.aa8 (ch:=[]) Z un VF y (λb z=>nomatch z);show#[H',e,c,dx,a0,T,W,I'.aaH (λp z=>nomatch z),F,qD R o le,qD R o lT,ne,nT,q]
  |ok O=>
   cases O with
   |ret u=>let(v,H2,I2,rv,Y):=E.after n;show#[i,H2,I2,Y]
   |next=>show False.elim n
   |brk=>show False.elim n
   |cont=>show False.elim n
 .cases O with
  |next=>show Xo q
  |ret v=>show q
  |brk=>show q
  |cont=>show q
theorem vP:∀{cs:G M} {a:G U},Vals (cs.map V.ref) a->a=cs.map CL.ref
 |[],_,.nil=>rfl
 |c::r,_,.cons h t=>by let h:_=CL.ref c:=h;rw[h,vP t];rfl
def QN(K:lD):G V->Hp->VK->Prop:=λxs H Q=>∃(e tp:M) (f:G M) (a:Obj) (C:M) (m:G U) (b:Bool),xs=[.ref e,.ref tp]/\H tp=S (.tup (f.map V.ref))/\H e=S (.frz a (.own e))/\a.cls=.ref C/\(∀p,a.dict=S p->∃fs,H p=S (.xd fs))/\notCls a=R/\YL K C m/\kitAny K (.ref C) (f.map CL.ref)=S b/\Q (.bl b) H
def Be:WM X (.builtin "isinstance") (QN X.K):=by
 rintro h s G H xs M Q I r ⟨e,tp,F,B,C,m,b,rfl,ht,he,hc,hd,T,L,Y,q⟩;let(u,J,rfl,l,t):=mQ r;obtain rfl:=l;obtain rfl:=t;let(_,P,rv,o,i,(g,n,f),O):=(show ObjOk X.prog X.w H s.heap tp (.tup (F.map V.ref))from I.VF tp _ ht);obtain rfl:=vP rv;let(N,od,A,v):=o;let g:=g;let f:=f;subst g f;let z:=(I.VF e _ he).1;cases e1:B.dict with
 |none=>show kia_tup (kT (od:=Uo) L) I.XU #[z,hc,T,by rw[e1];trivial] i Y (λy=>nomatch y) λa=>#[.bl b,H,I.tok a,W,q]
 |some p=>let(fs,E):=hd p e1;let(op,j):=yj (I.VF p _ E);show kia_tup (kT (od:=S op) L) I.XU #[z,hc,T,by rw[e1];show j] i Y (λy=>nomatch y) λa=>#[.bl b,H,I.tok a,W,q]
end L4
namespace L10
open PySem L2 L3
def Sz(T:b->aJ->Prop)(X:Xc->Prop):RS b->Prop
 |.ok a e=>T a e
 |.er x _=>X x
 |.bad=>False
structure Out{A:Type}(r:RS A)(T:A->aJ->Prop)(X:Xc->Prop):Prop where
 out:Sz T X r
section
variable{A B:Type}{r r':RS A}{T Q:A->aJ->Prop}{U:B->aJ->Prop}{X:Xc->Prop}{Y:aJ}
def Out.eq(e:r=r')(h:Out r' T X):Out r T X:=by rw[e];show h
def Out.imp(h:Out r T X)(k:∀a Y,T a Y->Q a Y):Out r Q X:=by
 show#[?_];let h:=h.out;cases r with
 |bad=>show h
 |er x o=>show h
 |ok a o=>show k a o h
def Out.bind(h:Out r (λa o=>Out (f a o) U X) X):Out (r.bind f) U X:=by
 show#[?_];let h:=h.out;cases r with
 |bad=>show h
 |er x o=>show h
 |ok a o=>show(show Out (f a o) U X from h).out
def Out.all(h:Out r T λ_=>False):∃a o,r=.ok a o/\T a o:=by
 let h:=h.out;cases r with
 |bad=>show h.elim
 |er x o=>show h.elim
 |ok a o=>show#[a,o,W,h]
def Out.er(h:Out r (λ_ _=>False) X):∃x o,r=.er x o/\X x:=by
 let h:=h.out;cases r with
 |bad=>show h.elim
 |er x o=>show#[x,o,W,h]
 |ok a o=>show h.elim
end
section
variable{ρ ρ1 L:aP}{ω Q Z Y:aJ}{x y z:SV}{i n:Nat}{d:D}{J:b3 D}{b:Bool}{f g:dw}{fe:cM}{N:aP->aJ->Prop}{T:SV->aJ->Prop}{X:Xc->Prop}
def TW(N:aP->aJ->Prop)(T:SV->aJ->Prop):FlS->aJ->Prop
 |.nx ρ,ω=>N ρ ω
 |.rt v,ω=>T v ω
 |_,_=>False
abbrev jT(r:RS FlS)(N:aP->aJ->Prop)(T:SV->aJ->Prop)(X:Xc->Prop):Prop:=Out r (TW N T) X
def ju(h:jT (f ρ ω) (λr o=>jT (g r o) N T X) T X):jT (aB f g ρ ω) N T X:=by
 show Out.bind (h.imp λa o k=>?_);cases a with
 |nx r=>show k
 |rt v=>show#[k]
 |ct r=>show k.elim
 |bk r=>show k.elim
theorem FW(a:f ρ ω=.ok (.nx ρ1) Q)(h:jT (g ρ1 Q) N T X):jT (aB f g ρ ω) N T X:=ju (.eq a #[h])
theorem Ox(a:f ρ ω=.ok (.nx ρ1) Q)(h:N ρ1 Q):jT (f ρ ω) N T X:=.eq a #[h]
theorem dP(e:fe ρ ω=.ok x Q)(a:gt x ρ Q=.ok ρ1 Z)(h:jT (g ρ1 Z) N T X):jT (aB (cU fe gt) g ρ ω) N T X:=FW (by ext cU;rw[e,eH,a,eH]) h
theorem KW(a:Out (fe ρ ω) (λx Q=>jT (g (ρ.set i (S x)) Q) N T X) X):jT (aB (cU fe (fw i)) g ρ ω) N T X:=ju (Out.bind (a.imp λ_ _ k=>#[k]))
theorem Eb(a:Out (fe ρ ω) (λ_ Q=>jT (g ρ Q) N T X) X):jT (aB (bc fe) g ρ ω) N T X:=ju (Out.bind (a.imp λ_ _ k=>#[k]))
def Oy{a j:dw}(e:c ρ ω=.ok R Q)(h:jT (aB a g ρ Q) N T X):jT (aB (bR c a j) g ρ ω) N T X:=by show .eq ?_ h;unfold aB bR;rw[e,eH,ax W]
def sM{j a:dw}(e:c ρ ω=.ok A Q)(h:jT (aB a g ρ Q) N T X):jT (aB (bR c j a) g ρ ω) N T X:=by show .eq ?_ h;unfold aB bR;rw[e,eH,a4 UH]
theorem og(h:jT (g ρ ω) N T X):jT (aB bX g ρ ω) N T X:=ju #[h]
theorem ug(a:fe ρ ω=.ok x Q)(h:T x Q):jT (fy fe ρ ω) N T X:=.eq (gr a) #[h]
theorem Ha(a:fe ρ ω=.ok x Q)(h:T x Q):jT (aB (fy fe) g ρ ω) N T X:=ju (ug a h)
theorem Jb(a:Out (fe ρ ω) T X):jT (fy fe ρ ω) N T X:=Out.bind (a.imp λ_ _ k=>#[k])
def uO(a:xs.map S++UA (n - xs.length) P=ρ)(h:jT (g ρ ω) (λ_ c=>T (.fz .none) c) T X):Out (cB n g xs ω) T X:=by
 ext cB;rw[a];show Out.bind (h.imp λe o k=>?_);cases e with
 |nx r=>show#[k]
 |rt v=>show#[k]
 |ct r=>show k.elim
 |bk r=>show k.elim
theorem El{b:dw}(I:Nat->aP->aJ->Prop)(M:Nat)(j:∀n ρ ω,I n ρ ω->(∃Q,c ρ ω=.ok A Q/\N ρ Q)\/(n<M/\∃Q,c ρ ω=.ok R Q/\jT (b ρ Q) (I (n+1)) T X)):∀(m n:Nat) (ρ:aP) (ω:aJ),M - n<m->I n ρ ω->jT (rh c b m ρ ω) N T X
 |0,n,_,_,h,_=>by ext
 |m+1,n,ρ,ω,h,h0=>by
  rcases j n ρ ω h0 with⟨Q,e,p⟩|⟨q,Q,e,l⟩
  .show .eq (show rh c b (m+1) ρ ω=.ok (.nx ρ) Q from ?_) #[p];show((c ρ ω).bind _)=_;rw[e,eH,a4 UH]
  .show .eq (show rh c b (m+1) ρ ω=(b ρ Q).bind λa Z=>match a with
    |.nx L=>rh c b m L Z
    |.ct L=>rh c b m L Z
    |.bk L=>.ok (.nx L) Z
    |.rt x=>.ok (.rt x) Z from ?_) (Out.bind (l.imp λa o k=>?_))
   .show((c ρ ω).bind _)=_
    rw[e,eH,ax W]
    all_goals (cases b ρ Q with
     |bad=>rfl
     |er x o=>rfl
     |ok a o=>ext a<;>rfl)
   .cases a with
    |nx r=>show El I M j m (n+1) r o () k
    |rt v=>show#[k]
    |ct r=>show k.elim
    |bk r=>show k.elim
theorem v8{b:dw}(I:Nat->aP->aJ->Prop)(M:Nat)(h:M<1000000)(e:I 0 ρ ω)(a:∀n ρ ω,I n ρ ω->(∃Q,c ρ ω=.ok A Q/\N ρ Q)\/(n<M/\∃Q,c ρ ω=.ok R Q/\jT (b ρ Q) (I (n+1)) T X)):jT (pQ c b ρ ω) N T X:=El I M a 1000000 0 ρ ω () e
theorem y4{b:dw}(I:Nat->aP->aJ->Prop):∀(J:G D) (k:Nat) (ρ:aP) (ω:aJ),I k ρ ω->(∀i d ρ ω,J[i]?=S d->I (k+i) ρ ω->∃ρ1 Q,gt (.fz d) ρ ω=.ok ρ1 Q/\jT (b ρ1 Q) (I (k+i+1)) T X)->jT (jd gt b J ρ ω) (I (k+J.length)) T X
 |[],k,ρ,ω,h0,_=>#[h0]
 |d::r,k,ρ,ω,h0,B=>by
  let(ρ1,Q,w,u):=B 0 d ρ ω W h0;let p:∀j a,I (k+1) j a->jT (jd gt b r j a) (I (k+(r.length+1))) T X:=λj a h=>by
   let e:k+(r.length+1)=k+1+r.length:=by ext
   rw[e];show y4 I r (k+1) j a h λi A m l C t=>?_;let e:k+1+i=k+(i+1):=by ext
   rw[e]at t⊢;show B (i+1) A m l (by simpa using C) t
  show .eq (show jd gt b (d::r) ρ ω=(b ρ1 Q).bind λq Z=>match q with
   |.nx L=>jd gt b r L Z
   |.ct L=>jd gt b r L Z
   |.bk L=>.ok (.nx L) Z
   |.rt x=>.ok (.rt x) Z from ?_) (Out.bind (u.imp λq o k=>?_))
  .show((gt (.fz d) ρ ω).bind _)=_
   rw[w,eH]
   all_goals (cases b ρ1 Q with
    |bad=>rfl
    |er x o=>rfl
    |ok q o=>ext q<;>rfl)
  .cases q with
   |nx r=>show p _ _ k
   |rt v=>show#[k]
   |ct r=>show k.elim
   |bk r=>show k.elim
def MB{b:dw}(I:Nat->aP->aJ->Prop)(m:C ρ ω=.ok J Q)(h:I 0 ρ Q)(a:∀i d ρ ω,J[i]?=S d->I i ρ ω->∃ρ1 Q,gt (.fz d) ρ ω=.ok ρ1 Q/\jT (b ρ1 Q) (I (i+1)) T X)(e:∀l c,I J.length l c->N l c):jT (wX C gt b ρ ω) N T X:=by
 let:=y4 I J 0 ρ Q h (by simpa using a);rw[Wx]at this;show .eq ?_ (this.imp λj o k=>?_)
 .ext wX;rw[m,eH]
 .cases j with
  |nx r=>show e _ _ k
  |rt v=>show k
  |ct r=>show k.elim
  |bk r=>show k.elim
theorem mE(I:Nat->aP->aJ->G SV->Prop):∀(J:G D) (k:Nat) (ρ:aP) (ω:aJ) (acc:G SV),I k ρ ω acc->(∀i d ρ ω acc,J[i]?=S d->I (k+i) ρ ω acc->acc.length<1000000/\∃ρ1,gt (.fz d) ρ ω=.ok ρ1 ω/\ft ρ1 ω=.ok R ω/\Out (fe ρ1 ω) (λx Z=>I (k+i+1) ρ1 Z (acc++[x])) X)->Out (ce gt ft fe J ρ ω acc) (λxs c=>∃s,I (k+J.length) s c xs) X
 |[],k,ρ,ω,acc,h0,_=>#[ρ,h0]
 |d::r,k,ρ,ω,acc,h0,B=>by
  let(p,ρ1,u,t,q):=B 0 d ρ ω acc W h0;show .eq (show ce gt ft fe (d::r) ρ ω acc=(fe ρ1 ω).bind λx Y=>ce gt ft fe r ρ1 Y (acc++[x])from ?_) (Out.bind (q.imp λx o m=>?_))
  .show((gt (.fz d) ρ ω).bind _)=_
   rw[u,eH,t,eH,ax W];cases fe ρ1 ω with
   |bad=>rfl
   |er x o=>rfl
   |ok x o=>show(if acc.length<1000000 then _ else _)=_;rw[ax p];rfl
  .let e:k+(d::r).length=k+1+r.length:=by rw[UJ];ext
   rw[e];show mE I r (k+1) ρ1 o _ m λi v h a j C l=>?_;let e:k+1+i=k+(i+1):=by ext
   rw[e]at l⊢;show B (i+1) v h a j (by simpa using C) l
def yA(c:I ρ ω=.ok J Q)(a:Out (ce (λx ρ ω=>eF (gt x ρ ω)) (λρ ω=>eF (o ρ ω)) fe J (fP n C ρ) Q []) (λxs Z=>T (.rf Z.length) (Z++[.lst xs])) X):Out (lZ n C I gt o fe ρ ω) T X:=by ext lZ;rw[c,eH];show Out.bind (a.imp λ_ _ k=>#[k])
def Ar(a:fo ρ ω=.ok (.rf i) Q)(h:Q[i]?=S (.obj C fs))(hm:fs.lookup m=P)(j:fa ρ Q=.ok xs Z)(c:(SV.rf i::xs).length=n):iT C m F n fo fa ρ ω=F (.rf i::xs) Z:=by
 let e:j8 Q C m (.rf i)=R:=by ext j8;dsimp only;rw[h];dsimp only;rw[hm];simp
 ext iT;rw[a,eH,ax e,j,eH,ax c]
def Nd(c:fa ρ ω=.ok xs Q)(a:(SV.rf Q.length::xs).length=n):AR C F n fa ρ ω=(F (.rf Q.length::xs) (Q++[.obj C []])).bind λr Z=>(if AX r=R then .ok (.rf Q.length) Z else .bad):=by ext AR;rw[c,eH];ext rK;rw[ax a]
def Ce(c:fa ρ ω=.ok xs Q)(a:(xs++es.map SV.fz).length=n):vO F n es fa ρ ω=F (xs++es.map SV.fz) Q:=by ext vO;rw[c,eH,ax a]
def rS(e:o ρ ω=.ok xs Q)(c:(xs++es.map SV.fz).length=n)(a:F (xs++es.map SV.fz) Q=.ok x Z):l6 F n es o ρ ω=.ok x Z:=by ext l6;rw[e,eH,ax c,a];rfl
def Bv{c f:Str}(h:fe ρ ω=.ok (.fz d) Q)(hd:L9.Rk d=R):lr c f fe ρ ω=.er #[c,[(f,d)]] Q:=by ext lr;rw[h,eH];dsimp only;rw[ax hd]
end
end L10
namespace L3
open PySem PyProof.Rows L2
section
variable{P:UR}{w:Va}{K:lD}{N:Str->b4 CL}{base h:Heap}{f T:Uu}{n:Str}{t:Wm}{Q:b3 Str}{Y:Nat}{L:Sp}{U:uN}{Z:Array CL}
theorem NI.aix(i:NI K f n t)(X:K.In h)(G:h.Ns UL N)(b:BA n n t Q)(ok:∀fd,Zo K n n t f fd->FnOk P w K N base U Y f fd Q L):wJ P w K N base U Y n Q [] L:=
 let#[fd,z]:=i.F;#[f,fd,[],ok fd z,z.binds b,.nil,z.kp,VJ X G i.a]
structure DI(K:lD)(f T:M)(n:Str)(t:Wm)(Z:Array CL):Prop where
 a:UU K UL n=S (S (.ref f))
 F:∃fd,abb K n n t f fd T Z
theorem G7{x a:Str}{b:Wm}{q:CL}{c:z M}{kV e j:CL}{l:z M}{i ct:CL}{g:Array (z CL)}{p:CL}{o:z M}{k:Nat}{m:Array (z CL)}
  (r:K.lookup f=S #[q,c,.func (VV x a (eC b) (bQ b) (au b) (.ref T) kV e j l i ct),g]) (v:XZ K i a=R) (u:V4 K (.ref f)=R) (lt:K.lookup T=S #[p,o,.seq Z k,m]):abb K x a b f (VV x a (eC b) (bQ b) (au b) (.ref T) kV e j l i ct) T Z:=
 #[#[_,_,_,_,_,_,_,_,_,W,r,v],u,_,_,lt,W]
def BD(n:Str)(t:Wm)(T:M)(Z:Array CL)(Q:G Str)(ds:G CL):Prop:=∀(kV b e:CL) (g:z M) (i ct:CL) (a:G CL),(a++ds).length=Q.length->∃k:z (Array CL)->Sem (G (Str×CL)),bindArgs (VV n n (eC t) (bQ t) (au t) (.ref T) kV b e g i ct) #[a,[]]=seqItems? (.ref T)>>=k/\k (S Z)=pure (Q.zip (a++ds))
theorem DI.cal{ds:b3 CL}{b:b3 V}(i:DI K f T n t Z)(X:K.In h)(G:h.Ns UL N)(g:BD n t T Z Q ds)(e:Vals b ds)(ok:∀fd,abb K n n t f fd T Z->FnOk P w K N base U Y f fd Q L):wJ P w K N base U Y n Q b L:=
 let#[fd,z]:=i.F;#[f,fd,ds,ok fd z,z.binds g,e,z.kp,VJ X G i.a]
end
structure Tp(P:UR)(w:Va)(K:lD)(mg:Str->z U)(base h:Heap):Prop where
 X:K.In h
 G:h.Ns UL mg
section
variable{P:UR}{w:Va}{K:lD}{X:Str->b4 CL}{base h:Heap}{f C T:Uu}{n m q:Str}{t:Wm}{Q fs:b3 Str}{Z:Nat}{N:Sp}{Y:uN}{U:Array CL}
theorem NI.c(i:NI K f n t)(W:Tp P w K X base h)(ok:∀fd,Zo K n n t f fd->FnOk P w K X base jD Z f fd Q N)(a:BA n n t Q:=by ext:3):oX P w K X base Z n Q N:=i.cal W.X W.G a ok
theorem NI.d(i:NI K f n t)(W:Tp P w K X base h)(ok:∀fd,Zo K n n t f fd->FnOk P w K X base Y Z f fd Q N)(a:BA n n t Q:=by ext:3):wJ P w K X base Y Z n Q [] N:=i.aix W.X W.G a ok
theorem MI.mt(i:MI K C f m q t)(c:CI K C n fs)(W:Tp P w K X base h)(ok:∀fd,Zo K m q t f fd->FnOk P w K X base Y Z f fd Q N)(a:BA m q t Q:=by ext:3):L10.lM P w K X base Y Z n m Q N:=i.agB c a ok
theorem MI.k(i:MI K C f "__init__" q t)(c:CI K C n fs)(W:Tp P w K X base h)(ok:∀fd,Zo K "__init__" q t f fd->FnOk P w K X base Y Z f fd Q N)(a:BA "__init__" q t Q:=by ext:3):L10.vq P w K X base Y Z n Q N:=i.ait c W.X W.G a ok
theorem DI.c{ds:G CL}{a:G V}(i:DI K f T n t U)(W:Tp P w K X base h)(b:Vals a ds)(ok:∀fd,abb K n n t f fd T U->FnOk P w K X base Y Z f fd Q N)(e:BD n t T U Q ds:=by ext:8):wJ P w K X base Y Z n Q a N:=i.cal W.X W.G e b ok
end
end L3
namespace PySem
namespace SetTable
def Ti(xs:Array Nat):Prop:=xs.toList.Pairwise (·<·)
structure TI(b:Bool)(t:SetTable):Prop where
 led:t.led=b
 dm:t.dummies= #v[]
 ris:Ti t.place
end SetTable
end PySem
namespace PySem
open SetTable
section
variable{prog:UR}{w:Va}{K:Type}[DecidableEq K]{knd:KeyKind prog w K}{A:U4}{E:CL->Uw->Prop}{s:Uw}{b:Bool}{a:Uu}{es:Array (Int×CL)}
structure SetX(knd:KeyKind prog w K)(b:Bool)(h:Heap)(a:M)(es:Array (Int×U)):Prop where
 x:∃o ep t,h.get? a=S o/\o.ExactSet/\o.data=.set es ep t/\t.fits es.size=R/\TI b t
 el:ElemsOf knd es.toList
 sz:es.size<scanBound
end
end PySem
namespace PySem
namespace SetTable
structure TT(t:SetTable)(n:Nat):Prop where
 k:∃k,t.mask+1=2^k
 dm:t.dummies= #v[]
 ris:Ti t.place
 le:∀v∈t.place.toList,v<=t.mask
 sz:t.place.size=n
 few:n*5<t.mask*3
section
variable{t:SetTable}{n:Nat}{p:Probe}
structure PI(t:SetTable)(p:Probe):Prop where
 nine:p.more<=9
 jm:p.j+p.more<=t.mask
 pt:p.perturb<2^64
 dm:p.dummy=P
end
end SetTable
end PySem
namespace LD
open PySem PySem.SetTable PyProof.Rows L2 L3
section
variable{prog:UR}{w:Va}{E:CL->Uw->Prop}
variable{A:U4}{s:Uw}
structure SetH(prog:UR)(w:Va)(b:Bool)(h:Heap)(a:M)(es:Array (Int×U))(ks:G (KD×M)):Prop where
 x:∃o ep t,h.get? a=S o/\o.ExactSet/\o.data=.set es ep t/\TT t es.size/\t.led=b/\t.mask<=8*es.size+8
 el:∀e∈es.toList,∃k c,(k,c)∈ks/\e.2=.ref c/\(fx prog w).is h k c
mutual
theorem BI{h h':Heap}{x:Uu}{b:Obj}(e:h.get? x=cL b)(g:∀vs n,b.data≠.seq vs n)(f:Heap.SameBut x h h'):∀(d:Uv) (v:CL) (as:b3 Uu),kd d=Uq->abr h v d as->abr h' v d as
 |.none,_,_,_,r=>by cases r;exact .none
 |.int _,_,_,_,r=>by cases r;exact .int _ _
 |.str _,_,_,_,r=>by cases r;exact .str _ _
 |.tuple xs,_,_,k,r=>by
  cases r with
  | @tuple a o vs n _ _ h1 h2 h3 h4=>
   have i:a≠x:=by rintro rfl;rw[e]at h1;cases h1;exact g _ _ h3
   unfold kd at k;exact .tuple ((f.2 a i).trans h1) h2 h3 (oY e g f xs _ _ k h4)
 |.bool _,_,_,h,_|.list _,_,_,h,_|.dict _,_,_,h,_=>by simp[kd]at h
theorem oY{h h':Heap}{x:Uu}{a:Obj}(b:h.get? x=cL a)(f:∀vs n,a.data≠.seq vs n)(e:Heap.SameBut x h h'):∀(ds:b3 Uv) (vs:b3 CL) (as:b3 Uu),kds ds=Uq->Zq h vs ds as->Zq h' vs ds as
 |[],_,_,_,r=>by cases r;exact .nil
 |d::ds,_,_,k,r=>by
  cases r with
  |cons i g=>unfold kds at k;rw[Ur]at k;exact .cons (BI b f e d _ _ k.1 i) (oY b f e ds _ _ k.2 g)
end
end
end LD
namespace L2
open PySem PySem.Spec PyProof.Rows
variable{X:Cx}{a b:UW}{Y:b3 UW}{T:Pos}{Q N:TE}
end L2
namespace CC
open PySem L2 L3 L10
def ig:UW->Bool
 |.BinOp .. |.UnaryOp .. |.IfExp .. |.ListComp .. |.Compare .. |.Call .. |.Constant .. |.Attribute .. |.Subscript .. |.Name .. |.List .. |.Tuple .. |.BoolOp .. |.JoinedStr .. |.Dict .. =>R
 |_=>A
def Ts:UW->Bool
 |.BinOp .. |.Call .. |.Attribute .. |.Subscript .. |.Name .. =>R
 |_=>A
def O9:UW->Bool
 |.ListComp .. =>R
 |_=>A
def P4:UW->Bool
 |.Constant .. |.Attribute .. |.Subscript .. |.Name .. =>R
 |_=>A
section
variable{e o a b:UW}{es:b3 UW}{env:Env}{Y p:Pos}{n k:Nat}
def fQ(h:ig e=R):UO (e::es) env=(A,eval e env)::UO es env:=by ext e<;>first|rfl|ext h
def tY(h:ig e=R):Aw e:=by ext e<;>first|(intro _ _;rfl)|ext h
def ze(h:ig e=R):∀x,foldedSetIterable e env x=pure x:=by ext e<;>first|(intro _;rfl)|ext h
def JY(h:Ts e=R):∀whole:Sem U,isTrue e env whole=(do let v<-whole;standAt e.pos;holding [v] (truthy v)):=by ext e<;>first|(intro _;rfl)|ext h
def Ae{t}(h:(ig e&& !O9 e)=R):WO e t n env=pure A:=by ext e<;>first|rfl|ext h
def QC{f p}(h:ig e=R):WO e (S (.Attribute o f p)) n env=pure A:=by ext e<;>first|rfl|ext h
def K9(h:ig e=R):WO e (S (.Subscript o a p)) n env=pure A:=by ext e<;>first|rfl|ext h
def fZ{f:Str}(h:P4 e=R):attributeBase e f env (eval e env)=eval e env:=by ext e<;>first|rfl|ext h
def KQ(h:ig e=R):NS e=A:=by ext e<;>first|rfl|ext h
def NX(h:es.all ig=R):((backTo Y (UO es env)).any λx=>x.1)=A:=by
 induction es with
 |nil=>rfl
 |cons e es f=>rw[Wh,Ur]at h;rw[fQ h.1];show f h.2
def M5(h:es.all ig=R):((backTo Y (UO es env)).all λx=> !x.1)=R:=by
 induction es with
 |nil=>rfl
 |cons e es f=>rw[Wh,Ur]at h;rw[fQ h.1];show f h.2
def dY(h:(e::es).all ig=R):UO (e::es) env=(A,eval e env)::UO es env:=by rw[Wh,Ur]at h;show fQ h.1
def gJ(h:(e::es).all ig=R):((backTo Y (UO es env)).any λx=>x.1)=A:=by rw[Wh,Ur]at h;show NX h.2
def tF(h:es.all ig=R)(f:es.length<20):methodCallForm (es.length+([]:G YB).length) (backTo Y (UO es env)) (backToKw Y (keywordEach [] env))=R:=by ext methodCallForm;rw[M5 h,XJ];show(Ur _ _).mpr #[W,a5 ?_];show es.length+0+0<30;ext
def Qt{q}{m:Str}(h:P4 o=R)(g:es.all ig=R)(i:es.length<20)(j:(p.endLine==q.line)=R):∃pl,eval (.Call (.Attribute o m p) es [] q) env=(do
   let C<-eval o env
   standAt p.atName
   let(f,first)<-holding [C] (getMethod C m pl)
   callWith q f first (backTo q (UO es env)) (backToKw q (keywordEach [] env))):=by
 show#[do return(<-importBound o env).getD R,?_];show(do
  let C<-attributeBase o m env (eval o env)
  standAt p.atName
  methodCall o m p q env C (es.length+([]:G YB).length) (backTo q (UO es env)) (backToKw q (keywordEach [] env)))=_
 rw[fZ h];unfold methodCall calleeOf methodCallPos;rw[tF g i,j];rfl
def Qb{elt g sc x}(h1:env.scope.kind=.function)(f:env.kindOf x=S .local)(d:(p.line==Y.line)=R)(c:(sc.names.any λy=>y.1==x&&(y.2==.local||y.2==.cell))=A):WO (.ListComp elt [g] sc Y) (S (.Name x p)) n env=pure R:=by show(pure _:Sem Bool)=_;rw[show env.blockKind=.function by ext Env.blockKind;rw[h1];rfl,f];show(pure (_&&(p.line==Y.line)&& !(sc.names.any λy=>y.1==x&&(y.2==.local||y.2==.cell))):Sem Bool)=_;rw[d,c];rfl
end
def bf{α:Type}{o:z α}{p:α->Bool}(h:o.any p=R):∃x,o=S x/\p x=R:=by
 cases o with
 |none=>ext h
 |some x=>show#[x,W,h]
def rd{α:Type}{P:α->Prop}{o:z α}(k:o.elim True P){x:α}(h:o=S x):P x:=by subst h;show k
def vN:UW->z (Str×Pos)
 |.Name x p=>S (x,p)
 |_=>P
def vC:UW->z Const
 |.Constant c _ _=>S c
 |_=>P
def RL:UW->z (UW×adB×UW)
 |.BinOp a o b _=>S (a,o,b)
 |_=>P
def Qp:UW->z (UW×G aaO×G UW)
 |.Compare a o b _=>S (a,o,b)
 |_=>P
def xj:UW->z (UW×UW×Pos)
 |.Subscript a b p=>S (a,b,p)
 |_=>P
def Di:UW->z (G UW)
 |.Tuple es _ _=>S es
 |_=>P
def Rs:UW->z (G UW)
 |.List es _=>S es
 |_=>P
def zJ:UW->z (UW×G UW×G YB×Pos)
 |.Call f es a p=>S (f,es,a,p)
 |_=>P
def Sd:UW->z (UW×Str×Pos)
 |.Attribute o x p=>S (o,x,p)
 |_=>P
def Tm:UW->z (UW×UW×UW)
 |.IfExp c a b _=>S (c,a,b)
 |_=>P
def Sh:UW->z (BoolOp×G UW×Pos)
 |.BoolOp o es p=>S (o,es,p)
 |_=>P
def Te:UW->z (UnaryOp×UW)
 |.UnaryOp o a _=>S (o,a)
 |_=>P
def Tf:UW->z (UW×G X2×Wd×Pos)
 |.ListComp e g s p=>S (e,g,s,p)
 |_=>P
def SB:UW->z (G (z UW)×G UW)
 |.Dict k v _=>S (k,v)
 |_=>P
section
variable{e:UW}
theorem mO(h:vN e=S x):e=.Name x.1 x.2:=rd (P:=λx=>e=.Name x.1 x.2) (by ext e<;>first|show trivial|rfl|show#[_,W]|show#[_,_,W]) h
theorem LC(h:vC e=S x):∃k p,e=.Constant x k p:=rd (P:=λx=>∃k p,e=.Constant x k p) (by ext e<;>first|show trivial|rfl|show#[_,W]|show#[_,_,W]) h
theorem Hm(h:RL e=S x):∃p,e=.BinOp x.1 x.2.1 x.2.2 p:=rd (P:=λx=>∃p,e=.BinOp x.1 x.2.1 x.2.2 p) (by ext e<;>first|show trivial|rfl|show#[_,W]|show#[_,_,W]) h
theorem G6(h:Qp e=S x):∃p,e=.Compare x.1 x.2.1 x.2.2 p:=rd (P:=λx=>∃p,e=.Compare x.1 x.2.1 x.2.2 p) (by ext e<;>first|show trivial|rfl|show#[_,W]|show#[_,_,W]) h
theorem jQ(h:xj e=S x):e=.Subscript x.1 x.2.1 x.2.2:=rd (P:=λx=>e=.Subscript x.1 x.2.1 x.2.2) (by ext e<;>first|show trivial|rfl|show#[_,W]|show#[_,_,W]) h
theorem sW(h:Di e=S x):∃k p,e=.Tuple x k p:=rd (P:=λx=>∃k p,e=.Tuple x k p) (by ext e<;>first|show trivial|rfl|show#[_,W]|show#[_,_,W]) h
theorem IA(h:Rs e=S x):∃p,e=.List x p:=rd (P:=λx=>∃p,e=.List x p) (by ext e<;>first|show trivial|rfl|show#[_,W]|show#[_,_,W]) h
theorem qJ(h:zJ e=S x):e=.Call x.1 x.2.1 x.2.2.1 x.2.2.2:=rd (P:=λx=>e=.Call x.1 x.2.1 x.2.2.1 x.2.2.2) (by ext e<;>first|show trivial|rfl|show#[_,W]|show#[_,_,W]) h
theorem yg(h:Sd e=S x):e=.Attribute x.1 x.2.1 x.2.2:=rd (P:=λx=>e=.Attribute x.1 x.2.1 x.2.2) (by ext e<;>first|show trivial|rfl|show#[_,W]|show#[_,_,W]) h
theorem Nk(h:Tm e=S x):∃p,e=.IfExp x.1 x.2.1 x.2.2 p:=rd (P:=λx=>∃p,e=.IfExp x.1 x.2.1 x.2.2 p) (by ext e<;>first|show trivial|rfl|show#[_,W]|show#[_,_,W]) h
theorem GD(h:Sh e=S x):e=.BoolOp x.1 x.2.1 x.2.2:=rd (P:=λx=>e=.BoolOp x.1 x.2.1 x.2.2) (by ext e<;>first|show trivial|rfl|show#[_,W]|show#[_,_,W]) h
theorem Ps(h:Te e=S x):∃p,e=.UnaryOp x.1 x.2 p:=rd (P:=λx=>∃p,e=.UnaryOp x.1 x.2 p) (by ext e<;>first|show trivial|rfl|show#[_,W]|show#[_,_,W]) h
theorem Od(h:Tf e=S x):e=.ListComp x.1 x.2.1 x.2.2.1 x.2.2.2:=rd (P:=λx=>e=.ListComp x.1 x.2.1 x.2.2.1 x.2.2.2) (by ext e<;>first|show trivial|rfl|show#[_,W]|show#[_,_,W]) h
theorem Gi(h:SB e=S x):∃p,e=.Dict x.1 x.2 p:=rd (P:=λx=>∃p,e=.Dict x.1 x.2 p) (by ext e<;>first|show trivial|rfl|show#[_,W]|show#[_,_,W]) h
def FZ(e:UW):Bool:=(Di e).isSome
def CV(h:FZ e=R):∃l k p,e=.Tuple l k p:=by let(x,h):=V0.mp h;show#[x,sW h]
end
abbrev Fd:=UR->Va->lD->(Str->z U)->Heap->Prop
abbrev Zc(lv:Nat)(x:Str)(b:G Str)(n:Nat)(F:FN):Fd:=λP w K a base=>Su P w K a base lv x b n F
abbrev fdS(lv:Nat)(x:Str)(b:G Str)(n:Nat)(F:fD):Fd:=λP w K a base=>oX P w K a base lv x b (jW K n F)
abbrev fdM(b:Bool)(lv:Nat)(C x:Str)(c:G Str)(n:Nat)(F:fD):Fd:=λP w K a base=>lM P w K a base (if b then L4.i7 P w else jD) lv C x c (jW K n F)
abbrev fdK(lv:Nat)(C:Str)(b:G Str)(n:Nat)(F:fD):Fd:=λP w K a base=>vq P w K a base jD lv C b (jW K n F)
structure Md where
 bl:G Str
 ex:G Str
 cs:G (Str×D)
 cl:G (Str×G Str)
structure Gm where
 M:Md
 N:G Str
 sc:G (Str×UQ)
 lv:Nat
 rz:Bool
 fa:Bool
 fc:G Str
 top:Nat
abbrev QY:G U:=[.type "ValueError",.type "Exception",.type "BaseException",.type "object"]
structure abg(K:lD)(mg:Str->z U)(M:Md):Prop where
 bl:∀x∈M.bl,mg x=P
 ex:∀x∈M.ex,∃C,UU K UL x=S (S (.ref C))/\mg x=S (.ref C)/\XD K C QY "ValueError.__new__"=R
 cs:∀x d,M.cs.lookup x=S d->∃v u,mg x=S u/\RelV v u/\∀O H,DV O K H v d
 cl:∀C L,M.cl.lookup C=S L->jV K C L
structure Ct(T:G Fd)(Γ:Gm)(X:Cx)(E:XK):Prop where
 n:X.N=Γ.N
 nd:X.N.Nodup
 sc:X.env.scope.names=Γ.sc
 kd:X.env.scope.kind=.function
 cm:X.calm=R
 rm:Wl Γ.lv X.A
 po:Γ.fa=R->aas (model X.prog X.w) X.A X.env X.xe
 px:Γ.rz=R->∃(N:G Str) (qual:Str) (scope:Wd) (f:M) (cd:U) (A:U4) (outer:G Env) (s0:Uw) (H0:Hp),X=dR (L4.i7 X.prog X.w) X.prog X.w X.K X.mg X.base N qual scope f cd A outer s0 H0 E
 fc:∀x∈Γ.fc,X.fn x=R
 md:abg X.K X.mg Γ.M
 fs:∀i fd,i<Γ.top->T[i]?=S fd->fd X.prog X.w X.K X.mg X.base
def Qc(s:G (Str×UQ))(x:Str):Bool:=s.lookup x==S .local||s.lookup x==S .cell||s.lookup x==S .free
def Lp(x:Str):Bool:= !(x==("__debug__":Str))&& !(x==("__classdict__":Str))&& !(x==("__name__":Str))
def P2(a:Gm)(x:Str):Bool:=a.sc.lookup x==S .globalImplicit&&Lp x
def blt(a:Gm)(x:Str):Bool:=P2 a x&&a.M.bl.contains x
def dQ{a:z UQ}{b:UQ}(h:(a==S b)=R):a=S b:=by
 cases a with
 |none=>ext h
 |some a=>ext a<;>ext b<;>first|rfl|ext h
section
variable{T:b3 Fd}{Z:Gm}{X:Cx}{E:XK}{x:Str}{i:Nat}
def tI(h:Lp x=R):(x==("__debug__":Str))=A/\(x==("__classdict__":Str))=A/\x≠("__name__":Str):=by unfold Lp at h;simp only[Ur,Xr]at h;show#[h.1.1,h.1.2,λe=>by rw[e,eu]at h;cases h.2]
def mI(c:Ct T Z X E)(h:P2 Z x=R):Gl X x/\(x==("__debug__":Str))=A/\x≠("__name__":Str):=by unfold P2 at h;rw[Ur]at h;show#[?_,(tI h.2).1,(tI h.2).2.2];show X.env.scope.names.lookup x=_;rw[c.sc];show dQ h.1
def mz(c:Ct T Z X E)(h:blt Z x=R):Gl X x/\X.mg x=P/\(x==("__debug__":Str))=A/\x≠("__name__":Str):=by unfold blt at h;rw[Ur]at h;let(b,a):=mI c h.1;show#[b,c.md.bl x (YT.mp h.2),a]
def Dh(c:Ct T Z X E)(h:Z.rz=R):dj (L4.i7 X.prog X.w) X E:=by let(N,g,a,f,l,A,b,j,m,e):=c.px h;rw[e];show L4.Et
end
abbrev Jd(a:Type):=lD->XK->a->Prop
def eo(g:FE):Jd TE:=λK E t=>EO K E t g
def es(g:cM):Jd TE:=λK E t=>b6 K E t g
def ao(g:FA):Jd TA:=λK E t=>AO K E t g
def as(g:wM):Jd TA:=λK E t=>sO K E t g
def na(g:FT):Jd TT:=λK E t=>TTO K E t g
def kN(g:qE):Jd TT:=λK E t=>rB K E t g
def go(g:FG):Jd TG:=λK E t=>GO K E t g
def B6(g:wA):Jd TG:=λK E t=>Fy K E t g
def gs(g:P1):Jd yc:=λK E t=>QL K E t g
def P8(g:BM):Jd yc:=λK E t=>Df K E t g
def io(g:FI):Jd TI:=λK E t=>L3.IO K E t g
def PR(g:FI):Jd TI:=λK E t=>RQ K E t g
def HC(g:IC):Jd TI:=λK E t=>PO K E t g
def so(g:FS):Jd TS:=λK E t=>SO K E t g
def WN(g:dw):Jd TS:=λK E t=>nI K E t g
class CK (T:G Fd) {α τ:Type} (P:Cx->α->τ->Prop) (J:Jd τ) where
 chk:Gm->α->Bool
 ok:∀{Γ X E a},Ct T Γ X E->chk Γ a=R->∃t,P X a t/\J X.K E t
def Tw(X:Cx)(e:UW)(t:TG):Prop:=PG X e t/\∀r,assignEach (e::r) X.env=(A,assign e X.env)::assignEach r X.env
def Ug(X:Cx)(r:G UW)(t:yc):Prop:=Qo X r t/\(assignEach r X.env).length=r.length/\List.findIdx? (λx=>x.1) (assignEach r X.env)=P
def Ui(X:Cx)(p:UW×UW)(t:TI):Prop:=PI X p.1 p.2 t/\ig p.2=R
abbrev CE(T:G Fd)(J:Jd TE):=CK T PE J
abbrev CA(T:G Fd)(J:Jd TA):=CK T PA J
abbrev CT(T:G Fd)(J:Jd TT):=CK T PT J
abbrev CQ(T:G Fd)(J:Jd TT):=CK T v5 J
abbrev CG(T:G Fd)(J:Jd TG):=CK T Tw J
abbrev CH(T:G Fd)(J:Jd yc):=CK T Ug J
abbrev CI(T:G Fd)(J:Jd TI):=CK T Ui J
abbrev CU(T:G Fd)(J:Jd TS):=CK T PS J
abbrev CS(T:G Fd)(J:Jd TS):=CK T Z9 J
def rJ{T:G Fd}{α a:Type}{P:Cx->α->a->Prop}{A J:Jd a}[x:CK T P A](k:∀{K E t},A K E t->J K E t):CK T P J:=#[x.chk,λc h=>let#[t,p,q]:=x.ok c h;#[t,p,k q]]
end CC
set_option warn.classDefReducibility false
namespace CC
open PySem L2 L3 L10
variable{T:b3 Fd}
def Ju(i:Nat)(a:Gm)(e:UW):Bool:=(vN e).any λx=>a.N[i]? ==S x.1&&Qc a.sc x.1&&Lp x.1
def xY{a:Gm}{X:Cx}{E:XK}{i:Nat}{e:UW}(c:Ct T a X E)(h:Ju i a e=R):PE X e (oK i):=by
 let(x,q,h):=bf h;rw[mO q];unfold Qc at h;simp only[Ur,VT]at h;show E6 (by rw[c.n];show beq_iff_eq.mp h.1.1) ?_ (tI h.2).1 (tI h.2).2.1;ext R9;rw[c.sc];rcases h.1.2 with(z|z)|z
 .show .inl (dQ z)
 .show .inr (.inl (dQ z))
 .show .inr (.inr (dQ z))
def LW{J:Jd TE}(i:Nat)(k:∀{K E},J K E (oK i)):CE T J:=#[Ju i,λc h=>#[_,xY c h,k]]
noncomputable instance:CE T (eo (ad i)):=LW i NT
noncomputable instance:CE T (es (am i)):=LW i IP
def dq:Nat->D->D->Bool
 |0,_,_=>A
 |_+1,.int a,.int b=>a==b
 |_+1,.str a,.str b=>a==b
 |_+1,.none,.none=>R
 |_+1,.bool a,.bool b=>a==b
 |n+1,.tuple a,.tuple b=>a.length==b.length&&(a.zip b).all λp=>dq n p.1 p.2
 |n+1,.list a,.list b=>a.length==b.length&&(a.zip b).all λp=>dq n p.1 p.2
 |_,_,_=>A
def M4{f:D->D->Bool}(j:∀a b,f a b=R->a=b):∀{a b:G D},(a.length==b.length&&(a.zip b).all λp=>f p.1 p.2)=R->a=b:=by
 intro a
 induction a with
 |nil=>
  intro b h;cases b with
  |nil=>rfl
  |cons y s=>ext h
 |cons x r i=>
  intro b h;cases b with
  |nil=>ext h
  |cons y s=>rw[Ur]at h;let(g,e):=h;rw[List.zip_cons_cons,Wh,Ur]at e;let g:=eq_of_beq g;rw[j x y e.1,i (b:=s) (by rw[Ur];show#[beq_iff_eq.mpr (by simpa using g),e.2])]
def EI:∀(n:Nat) (a b:D),dq n a b=R->a=b:=by
 intro n
 induction n with
 |zero=>intro a b h;ext h
 |succ n e=>intro a b h;ext a<;>ext b<;>first|show bg h UH|rfl|show en _ (eq_of_beq h)|show en _ (M4 e h)
def cD:Const->z D
 |.int i=>S (.int i)
 |.str x=>S (.str x)
 |.bool b=>S (.bool b)
 |.none=>S .none
 |_=>P
noncomputable instance{d:D}:CE T (eo (pC d)) where
 chk Γ e:=(((vC e).bind cD).any λa=>dq 9 a d)||((vN e).any λx=>P2 Γ x.1&&((Γ.M.cs.lookup x.1).any λa=>dq 9 a d))
 ok c h:=by
  rcases(VT _ _).mp h with h|h
  .let(a,q,h):=bf h
   obtain rfl:=EI _ _ _ h;let(k,f,b):=Vs.mp q;let(_,_,rfl):=LC f;ext k<;>ext b
   .show#[_,xa,N3]
   .show#[_,LN,Q6]
   .show#[_,Oh,OT]
   .show#[_,Pz,Mz]
  .let(x,q,h):=bf h;rw[Ur]at h;let(a,b,g):=bf h.2;obtain rfl:=EI _ _ _ g;let(j,i,_):=mI c h.1;let(v,u,e1,e2,e3):=c.md.cs _ _ b;rw[mO q];show#[_,jK j e1 e2 i,C6 e3]
class BOp (f:D->D->z RV) where
 sp:UW->z (UW×UW)
 ok:∀{X:Cx} {e p ta tb},sp e=S p->X.A.units+65<cLine->ig p.2=R->PE X p.1 ta->PE X p.2 tb->∃r,PE X e (D7 r ta tb)/\jL X.K r f
def JL{f:D->D->b4 RV}(op:adB)(g:∀{X:Cx},∃r,OpR X (Wa op) r/\jL X.K r f):BOp f where
 sp e:=(RL e).bind λx=>if x.2.1=op then S (x.1,x.2.2)else P
 ok h hu _ ha hb:=by
  let(x,q,a):=Vs.mp h;let(_,rfl):=Hm q;split at a
  .rename_i z;ext a;let(r,b,i):=g;rw[<-z]at b;show#[r,QV b ha hb,i]
  .ext a
def S6{f:D->D->z RV}(k:∀{K},jL K (RD K) f):BOp f where
 sp e:=(xj e).map λx=>(x.1,x.2.1)
 ok h _ hp ha hb:=by let(x,q,a):=Yv.mp h;ext a;rw[jQ q];show#[_,KZ GH ha hb (tY hp),k]
class COp (f:D->D->z RV) where
 op:aaO
 ok:∀{X:Cx},X.A.units+65<cLine->∃r,OpR X (V5 op) r/\jL X.K r f
def Q5(op:aaO)(e:UW):z (UW×UW):=(Qp e).bind λx=>match x.2.2 with
 |[b]=>if x.2.1=[op]&& !behindInMarks op b then S (x.1,b)else P
 |_=>P
def uG{op:aaO}{e:UW}{p:UW×UW}(h:Q5 op e=S p):∃pos,e=.Compare p.1 [op] [p.2] pos/\behindInMarks op p.2=A:=by
 let((a,o,b),q,f):=Vs.mp h;let(_,rfl):=G6 q;dsimp only at f;split at f
 .split at f
  .rename_i z;ext f;rw[Ur,decide_eq_true_eq,Xr]at z;show#[_,by rw[z.1],z.2]
  .ext f
 .ext f
noncomputable instance[o:COp f]:BOp f where
 sp:=Q5 o.op
 ok h hu _ ha hb:=by let(p,rfl,q):=uG h;let(r,b,a):=o.ok hu;show#[r,uU b ha hb q,a]
noncomputable instance:BOp aZ:=S6 Du
noncomputable instance:BOp L3.gh:=S6 Ke
noncomputable instance:COp cX:=#[.Eq,λh=>#[_,MQ (),Mw]]
noncomputable instance:COp qh:=#[.NotEq,λh=>#[_,MJ (),Nw]]
noncomputable instance:COp L8:=#[.Lt,λ_=>#[_,Rz,Mu]]
noncomputable instance:COp K4:=#[.Gt,λ_=>#[_,QE,Nr]]
noncomputable instance:COp Qr:=#[.GtE,λ_=>#[_,Rq,M7]]
noncomputable instance:COp GS:=#[.In,λh=>#[_,Pv h,NA]]
noncomputable instance:COp uZ:=#[.NotIn,λh=>#[_,KS h,JI]]
noncomputable instance:COp qQ:=#[.Is,λ_=>#[_,M9,J6]]
noncomputable instance:COp nu:=#[.IsNot,λ_=>#[_,zT,Ht]]
noncomputable instance:BOp cV:=JL .Add #[_,Kg,Iz]
noncomputable instance:BOp nz:=JL .Sub #[_,Pn,Kb]
noncomputable instance:BOp nF:=JL .Mod #[_,My,JH]
noncomputable instance:BOp xP:=JL .FloorDiv #[_,DF,J5]
noncomputable instance:BOp fS:=JL .Mult #[_,J9,EY]
noncomputable instance:BOp wN:=JL .BitAnd #[_,O0,KY]
noncomputable instance:BOp HJ:=JL .LShift #[_,MH,HQ]
noncomputable instance:BOp Ci:=JL .RShift #[_,Nu,Hw]
section
variable{A B C J:Jd TE}{U Z:Jd TA}{Q R S:Jd TT}
def Ra(A B:Jd TE){f:D->D->z RV}[o:BOp f][x:CE T A][y:CE T B](k:∀{K E r m d},jL K r f->A K E m->B K E d->J K E (D7 r m d)):CE T J where
 chk Γ e:=(o.sp e).any λp=>ig p.2&&x.chk Γ p.1&&y.chk Γ p.2
 ok c h:=by let(p,q,h):=bf h;simp only[Ur]at h;let(m,l,j):=x.ok c h.1.2;let(d,i,g):=y.ok c h.2;let(r,b,a):=o.ok q (AL c.rm) h.1.1 l i;show#[_,b,k a j g]
noncomputable instance[BOp f][CE T (eo a)][CE T (eo b)]:CE T (eo (aG f a b)):=Ra (eo a) (eo b) Mh
noncomputable instance[BOp f][CE T (es a)][CE T (es b)]:CE T (es (iS f a b)):=Ra (es a) (es b) E3
noncomputable instance[CE T (es a)][CE T (es b)]:CE T (es (L10.gh a b)) where
 chk Γ e:=(xj e).any λp=>ig p.2.1&&CK.chk T PE (es a) Γ p.1&&CK.chk T PE (es b) Γ p.2.1
 ok c h:=by let(p,q,h):=bf h;simp only[Ur]at h;let(m,j,i):=CK.ok c h.1.2;let(l,g,f):=CK.ok c h.2;rw[jQ q];show#[_,KZ GH j g (tY h.1.1),OJ i f]
def Mm(k:∀{K E},Z K E iq):CA T Z:=#[λ_ l=>l.isEmpty,λ_ h=>by rw[Vp.mp h];show#[_,dr,k]]
def Eo(A:Jd TE)(U:Jd TA)[x:CE T A][y:CA T U](k:∀{K E i d},A K E i->U K E d->Z K E (eO i d)):CA T Z where
 chk Γ l:=match l with
  |e::r=>ig e&&x.chk Γ e&&y.chk Γ r
  |[]=>Ut
 ok c h:=by
  split at h
  .simp only[Ur]at h;let(i,g,f):=x.ok c h.1.2;let(d,b,a):=y.ok c h.2;show#[_,aY g b (fQ h.1.1),k f a]
  .ext h
noncomputable instance:CA T (ao aq):=Mm OE
noncomputable instance:CA T (as aC):=Mm z9
noncomputable instance[CE T (eo a)][CA T (ao b)]:CA T (ao (aa a b)):=Eo (eo a) (ao b) Jp
noncomputable instance[CE T (es a)][CA T (as b)]:CA T (as (ah a b)):=Eo (es a) (as b) D3
def K5(U:Jd TA)[x:CA T U](k:∀{K E t},U K E t->J K E (Gz t)):CE T J where
 chk Γ e:=(Di e).any (x.chk Γ)
 ok c h:=by let(l,q,h):=bf h;let(_,_,rfl):=sW q;let(t,b,a):=x.ok c h;show#[_,Ds b,k a]
def RI(U:Jd TA)[x:CA T U](k:∀{K E t},U K E t->J K E (Os t)):CE T J where
 chk Γ e:=(Rs e).any (x.chk Γ)
 ok c h:=by let(l,q,h):=bf h;let(_,rfl):=IA q;let(t,b,a):=x.ok c h;show#[_,MW b,k a]
noncomputable instance[CA T (ao a)]:CE T (eo (bG a)):=K5 (ao a) OV
noncomputable instance[CA T (as a)]:CE T (es (kr a)):=K5 (as a) HH
noncomputable instance[CA T (ao a)]:CE T (eo (cC a)):=RI (ao a) ND
noncomputable instance[CE T (eo a)]:CE T (es (ae a)):=rJ (A:=eo a) EG
noncomputable instance[CE T (es a)]:CE T (es (l7 a)):=rJ (A:=es a) Ad
class Fn (T:G Fd) {φ:Type} (k:Nat->Str->G Str->Nat->φ->Fd) (F:φ) (n:Nat) where
 i:Nat
 lv:Nat
 x:Str
 ps:G Str
 h:T[i]?=cL (k lv x ps n F)
def P3(b:Gm)(i lv:Nat)(x:Str)(e:UW):b4 (UW×G UW×Pos×Pos):=(zJ e).bind λy=>match y.2.1 with
 |a::r=>(vN y.1).bind λz=>if z.1==x&&P2 b x&&decide (i<b.top)&&decide (lv<=b.lv)&&(a::r).all ig&&y.2.2.1.isEmpty then cL (a,r,z.2,y.2.2.2)else P
 |[]=>P
def oS{c:Gm}{i lv:Nat}{x:Str}{e:UW}{y:UW×G UW×Pos×Pos}(h:P3 c i lv x e=cL y):e=.Call (.Name x y.2.2.1) (y.1::y.2.1) [] y.2.2.2/\P2 c x=Uq/\i<c.top/\lv<=c.lv/\(y.1::y.2.1).all ig=Uq:=by
 let((f,l,o,p),q,a):=Vs.mp h;rw[qJ q];dsimp only at a;split at a
 .let(z,b,g):=Vs.mp a
  obtain rfl:=mO b;split at g
  .rename_i z;ext g;simp only[Ur,decide_eq_true_eq,beq_iff_eq,Vp]at z;let(((((rfl,b),n),m),j),rfl):=z;show#[W,b,n,m,j]
  .ext g
 .ext a
def rY(U:Jd TA){d:Type}(D:Nat->Str->G Str->Nat->d->Fd)(F:d)(n:Nat)[o:Fn T D F n][u:CA T U](s:Bool)(k:∀{X:Cx} {E lv x I t e r p q},D lv x I n F X.prog X.w X.K X.mg X.base->(s=Uq->dj (L4.i7 X.prog X.w) X E)->Wl lv X.A->Gl X x->(x==("__debug__":Str))=Ut->(e::r).all ig=Uq->PA X (e::r) t->U X.K E t->∃i,PE X (.Call (.Name x p) (e::r) [] q) i/\J X.K E i):CE T J where
 chk Γ e:=(!s||Γ.rz)&&(P3 Γ o.i o.lv o.x e).any λy=>u.chk Γ (y.1::y.2.1)
 ok c h:=by rw[Ur]at h;let(y,q,j):=bf h.2;let(rfl,g,L,b,a):=oS q;let(v,m,_):=mI c g;let(t,l,f):=u.ok c j;show k (c.fs _ _ L o.h) (λz=>Dh c (by let:=h.1;rw[z]at this;show this)) (c.rm.mono b) v m a l f
noncomputable instance[Fn T Zc F n][CA T (ao a)]:CE T (eo (cZ F n a)):=rY (ao a) Zc F n Ut λf _ r g d p e b=>#[_,pd f r e (UC _) g d (dY p) (gJ p),OZ b]
noncomputable instance[Fn T Zc F n][CA T (as a)]:CE T (es (gP F n a)):=rY (as a) Zc F n Ut λf _ r g d p e b=>#[_,pd f r e (UC _) g d (dY p) (gJ p),Hb b]
noncomputable instance[Fn T fdS F n][CA T (as a)]:CE T (es (pX F n a)):=rY (as a) fdS F n Ut λf _ r g d p e b=>#[_,pd f r e (UC _) g d (dY p) (gJ p),B0 b]
noncomputable instance[Fn T fdS F n][CA T (as a)]:CE T (es (j9 F n a)):=rY (as a) fdS F n Ut λf _ r g d p e b=>#[_,pd f r e (UC _) g d (dY p) (gJ p),AQ b]
class CB (f:G D->z RV) where
 x:Str
 v:CL
 b:Vl x=cL v
 y:(∃id,v=.builtin id)\/∃ty,v=.type ty
 ok:∀{X:Cx},X.calm=Uq->∃r,WM X v r/\B7 X.K r f
def FV(a:Gm)(x:Str)(e:UW):z (UW×G UW×Pos×Pos):=if blt a x then P3 {a with top:=1} 0 0 x e else P
def kI{c:Gm}{x:Str}{e:UW}{y:UW×G UW×Pos×Pos}(h:FV c x e=cL y):e=.Call (.Name x y.2.2.1) (y.1::y.2.1) [] y.2.2.2/\blt c x=Uq/\(y.1::y.2.1).all ig=Uq:=by
 unfold FV at h;split at h
 .rename_i z;let(b,_,_,_,a):=oS h;show#[b,z,a]
 .ext h
def qM{d:Gm}{X:Cx}{E:XK}{x:Str}{v:CL}{r:G V->Hp->VK->Prop}{e:UW}{l:G UW}{p q:Pos}{t:TA}(c:Ct T d X E)(m:blt d x=Uq)(b:Vl x=cL v)(y:(∃id,v=.builtin id)\/∃ty,v=.type ty)(k:WM X v r)(a:(e::l).all ig=Uq)(h:PA X (e::l) t):PE X (.Call (.Name x p) (e::l) [] q) (zP r t):=by
 let(j,g,i,f):=mz c m;rcases y with⟨id,rfl⟩|⟨id,rfl⟩
 .show g9 k j g b h f i (dY a) (gJ a)
 .show BP k j g b h f i (dY a) (gJ a)
def Qq(U:Jd TA)(f:G D->z RV)[o:CB f][u:CA T U](k:∀{K E r t},B7 K r f->U K E t->J K E (zP r t)):CE T J where
 chk Γ e:=(FV Γ o.x e).any λy=>u.chk Γ (y.1::y.2.1)
 ok c h:=by let(y,q,j):=bf h;let(rfl,g,a):=kI q;let(t,l,i):=u.ok c j;let(r,k1,k2):=o.ok c.cm;show#[_,qM c g o.b o.y k1 a l,k k2 i]
noncomputable instance[CB f][CA T (ao a)]:CE T (eo (fG f a)):=Qq (ao a) f LO
noncomputable instance[CB f][CA T (as a)]:CE T (es (pL f a)):=Qq (as a) f Nq
noncomputable instance:CB c9:=#["len",_,QO,.inl #[_,W],λ_=>#[_,CP,N8]]
noncomputable instance:CB gp:=#["tuple",_,G4,.inr #[_,W],λ_=>#[_,qZ,Cv]]
noncomputable instance:CB nG:=#["all",_,Rc,.inl #[_,W],λh=>#[_,E1 h,OO]]
noncomputable instance:CB rA:=#["list",_,D8,.inr #[_,W],λ_=>#[_,tN,Kx]]
noncomputable instance:CB L9.fq:=#["sorted",_,vY,.inl #[_,W],λ_=>#[_,L9.tJ,L9.x8]]
noncomputable instance:CB vk:=#["max",_,Ml,.inl #[_,W],λh=>#[_,Ba h,HM]]
def Tu(a:Gm)(x y:Str)(i:Int)(e:UW):b4 UW:=(zJ e).bind λc=>match c.2.1,c.2.2.1 with
 |[l],[#[cL w,v,_]]=>if(vN c.1).any (λz=>z.1==x)&&blt a x&&w==y&&((vC v).bind cD).any (λz=>dq 2 z (.int i))&&ig l then cL l else P
 |_,_=>P
def NP{k:Gm}{x y:Str}{i:Int}{e l:UW}(h:Tu k x y i e=cL l):(∃p s I D j,e=.Call (.Name x p) [l] [#[cL y,.Constant (.int i) j s,I]] D)/\blt k x=Uq/\ig l=Uq:=by
 let((f,a,G,p),q,b):=Vs.mp h;rw[qJ q];dsimp only at b;split at b
 .split at b
  .rename_i z;ext b;simp only[Ur,beq_iff_eq]at z;let((((r,o),rfl),m),g):=z;let(n,F,E):=bf r;let(d,w,v):=bf m;let(c,u,t):=Vs.mp w;obtain rfl:=EI _ _ _ v;let(j,s,rfl):=LC u;ext c<;>ext t;rw[mO F,beq_iff_eq.mp E];show#[#[_,_,_,_,_,W],o,g]
  .ext b
 .ext b
noncomputable instance[u:CA T (ao a)]:CE T (eo (fG (L10.yT i) a)) where
 chk Γ e:=(Tu Γ "max" "default" i e).any λl=>u.chk Γ [l]
 ok c h:=by let(l,q,m):=bf h;let((_,_,_,_,_,rfl),g,b):=NP q;let(o,n,_):=mz c g;let(t,j,f):=u.ok c m;show#[_,L10.Ir c.cm o n j (KQ b),LO L10.Kr f]
class SOp (f:D->z Int->z Int->z RV) where
 ok:∀{X:Cx},∃r,Uh X r/\Uj X.K r f
def Qa(op:BoolOp)(A B:Jd TE)[x:CE T A][y:CE T B]{f:TE->TE->TE}(p:∀{X:Cx} {a b pos s d},PE X a s->PE X (.BoolOp op [b] pos) d->PE X (.BoolOp op [a,b] pos) (f s d))(k:∀{K E s d},A K E s->B K E d->J K E (f s d)):CE T J where
 chk Γ e:=(Sh e).any λz=>decide (z.1=op)&&match z.2.1 with
  |[l,r]=>x.chk Γ l&&y.chk Γ r
  |_=>Ut
 ok c h:=by
  let((o,l,p),q,i):=bf h;rw[GD q];simp only[Ur,decide_eq_true_eq]at i;let(rfl,g):=i;split at g
  .rw[Ur]at g;let(s,t,n):=x.ok c g.1;let(d,m,j):=y.ok c g.2;show#[_,p t (yd m),k n j]
  .ext g
noncomputable instance[CE T (eo a)][CE T (eo b)]:CE T (eo (BT a b)):=Qa .And (eo a) (eo b) pc Np
noncomputable instance[CE T (es a)][CE T (es b)]:CE T (es (vW a b)):=Qa .And (es a) (es b) pc Jn
def SG(Q:Jd TT)(A B:Jd TE)[n:CT T Q][x:CE T A][y:CE T B](k:∀{K E t o d},Q K E t->A K E o->B K E d->J K E (Sf t o d)):CE T J where
 chk Γ e:=(Tm e).any λw=>n.chk Γ w.1&&x.chk Γ w.2.1&&y.chk Γ w.2.2
 ok c h:=by let(w,q,a):=bf h;let(_,rfl):=Nk q;simp only[Ur]at a;let(m,f,b):=n.ok c a.1.1;let(o,l,j):=x.ok c a.1.2;let(d,i,g):=y.ok c a.2;show#[_,DP f l i,k b j g]
noncomputable instance[CT T (kN q)][CE T (es a)][CE T (es b)]:CE T (es (LM q a b)):=SG (kN q) (es a) (es b) MO
def Tc(A:Jd TE)[x:CE T A](k:∀{K E t},A K E t->Q K E (tB t)):CT T Q where
 chk Γ e:=Ts e&&x.chk Γ e
 ok c h:=by rw[Ur]at h;let(t,b,a):=x.ok c h.2;show#[_,uK b (JY h.1),k a]
def LY(A B:Jd TE){f:D->D->z RV}[o:COp f][x:CE T A][y:CE T B](k:∀{K E r s d},jL K r f->A K E s->B K E d->Q K E (AI (D7 r s d))):CT T Q where
 chk Γ e:=(Q5 o.op e).any λp=>x.chk Γ p.1&&y.chk Γ p.2
 ok c h:=by let(p,q,a):=bf h;rw[Ur]at a;let(s,n,m):=x.ok c a.1;let(d,l,j):=y.ok c a.2;let(_,rfl,b):=uG q;let(r,i,g):=o.ok (AL c.rm);show#[_,Kj i n l b,k g m j]
noncomputable instance[CE T (eo a)]:CT T (na (aF a)):=Tc (eo a) Rf
noncomputable instance[CE T (es a)]:CT T (kN (aQ a)):=Tc (es a) Ff
noncomputable instance[COp f][CE T (eo a)][CE T (eo b)]:CT T (na (aF (aG f a b))):=LY (eo a) (eo b) λh g e=>qI (Mh h g e)
noncomputable instance[COp f][CE T (es a)][CE T (es b)]:CT T (kN (aQ (iS f a b))):=LY (es a) (es b) λh g e=>qu (E3 h g e)
def Q4(R:Jd TT)[g:CT T R](k:∀{K E t},R K E t->Q K E (HW t)):CT T Q where
 chk Γ e:=(Te e).any λy=>(match y.1 with|.Not=>Uq|_=>Ut)&&g.chk Γ y.2
 ok c h:=by let((o,e),q,a):=bf h;let(_,rfl):=Ps q;rw[Ur]at a;let(t,f,b):=g.ok c a.2;ext o<;>first|show#[_,yl f,k b]|cases a.1
theorem Rt{X:Cx}{op:BoolOp}{b:G UW}{a:Pos}{t:TT}(h:PT X (.BoolOp op b a) t):PW X (.BoolOp op b a) t:=λ_=>h
def KR(op:BoolOp)(R S:Jd TT)[I:CT T R][v:CT T S]{f:TT->TT->TT}(H:∀{X:Cx} {a pos t},PT X a t->PW X (.BoolOp op [a] pos) t)(p:∀{X:Cx} {a b r pos x d},PT X a x->PW X (.BoolOp op (b::r) pos) d->PW X (.BoolOp op (a::b::r) pos) (f x d))(k:∀{K E x d},R K E x->S K E d->Q K E (f x d)):CT T Q where
 chk Γ e:=(Sh e).any λy=>decide (y.1=op)&&match y.2.1 with
  |[l,m]=>I.chk Γ l&&v.chk Γ m
  |l::m::n::s=>I.chk Γ l&&v.chk Γ (.BoolOp op (m::n::s) y.2.2)
  |_=>Ut
 ok c h:=by
  let((o,l,w),q,G):=bf h;rw[GD q];simp only[Ur,decide_eq_true_eq]at G;let(rfl,g):=G;split at g
  .rw[Ur]at g;let(x,F,u):=I.ok c g.1;let(d,j,i):=v.ok c g.2;show#[_,(p F (H j)).pt,k u i]
  .rw[Ur]at g;let(x,F,u):=I.ok c g.1;let(d,j,i):=v.ok c g.2;show#[_,(p F (Rt j)).pt,k u i]
  .ext g
noncomputable instance[CT T (kN q)]:CT T (kN (L10.kJ q)):=Q4 (kN q) Iy
noncomputable instance[CT T (na q)][CT T (na r)]:CT T (na (wU q r)):=KR .And (na q) (na r) y0 Gp Ky
noncomputable instance[CT T (na q)][CT T (na r)]:CT T (na (Ly q r)):=KR .Or (na q) (na r) yQ zb OB
noncomputable instance[CT T (kN q)][CT T (kN r)]:CT T (kN (kB q r)):=KR .And (kN q) (kN r) y0 Gp Hd
noncomputable instance[CT T (kN q)][CT T (kN r)]:CT T (kN (uV q r)):=KR .Or (kN q) (kN r) yQ zb Nh
noncomputable instance[CT T (na q)]:CT T (kN (bM q)):=rJ (A:=na q) Es
end
end CC
set_option warn.classDefReducibility false
namespace CC
open PySem L2 L3 L10
variable{T:b3 Fd}{A B C J:Jd TE}{U Z:Jd TA}
def P9(x:Str)(e:UW):b4 (UW×G UW×Pos×Pos):=(zJ e).bind λy=>(Sd y.1).bind λz=>if z.2.1==x&&P4 z.1&&z.2.2.endLine==y.2.2.2.line&&y.2.1.all ig&&decide (y.2.1.length<20)&&y.2.2.1.isEmpty then S (z.1,y.2.1,z.2.2,y.2.2.2)else P
def oE{x:Str}{e:UW}{y:UW×G UW×Pos×Pos}(h:P9 x e=S y):e=.Call (.Attribute y.1 x y.2.2.1) y.2.1 [] y.2.2.2/\P4 y.1=R/\(y.2.2.1.endLine==y.2.2.2.line)=R/\y.2.1.all ig=R/\y.2.1.length<20:=by
 let((f,l,v,p),q,w):=Vs.mp h;let((o,n,r),u,a):=Vs.mp w;rw[qJ q,show f=_ from yg u];split at a
 .rename_i z;ext a;simp only[Ur,decide_eq_true_eq,Vp]at z;let(((((t,m),j),i),g),b):=z;show#[?_,m,j,i,g];rw[show n=x from beq_iff_eq.mp t,show v=[]from b]
 .ext a
class MS (f:Str->G D->z RV) where
 x:Str
 ok:∀{X:Cx},∃id r,Slot "str" x id/\typeOf (.builtin id)=pure (.type "method_descriptor")/\RM X id r/\TN X.K r f
def Q2(m:Str){id:String}{r:V->b3 V->Hp->VK->Prop}(s:Slot "list" m id)(ty:typeOf (.builtin id)=pure (.type "method_descriptor"))(mt:∀{X:Cx},RM X id r)(i:Gm->UW->Bool)(G:Jd TE)(A:Jd TE)[x:CE T A](j:∀{d X E e},Ct T d X E->i d e=R->∃t,PE X e t/\G X.K E t)(k:∀{K E to t},G K E to->A K E t->J K E (Q7 K "list" r to (eO t iq))):CE T J where
 chk d e:=(P9 m e).any λy=>i d y.1&&match y.2.1 with
  |[e]=>x.chk d e
  |_=>Ut
 ok c h:=by
  let((b,l,p,q),z,g):=bf h;let(rfl,H,F,a,I):=oE z;rw[Ur]at g;let(w,f):=g;let(to,v,u):=j c w
  match l,a,f with
  |[e],a,f=>let a:[e].all ig=R:=a;let(t,o,n):=x.ok c f;show#[Q7 _ "list" r to (eO t iq),?_,k u n];show RF aao s ty mt v (aY o dr (dY a)) (fZ H) (tF a (by show 1<20;decide)) F (dY a) W
def vJ(i:Nat):Jd TE:=λ_ _ t=>t=oK i
noncomputable instance[CE T (eo a)]:CE T (eo (wj i a)):=Q2 "append" aah aai lU (Ju i) (vJ i) (eo a) (λc h=>#[_,xY c h,W]) λh k=>by ext h;show NW k
noncomputable instance[x:CE T (es o)][CE T (es a)]:CE T (es (jf o a)):=Q2 "append" aah aai lU x.chk (es o) (es a) x.ok Hl
def OL(a:Gm)(C f:Str):Bool:=(a.M.cl.lookup C).any λL=>L.contains f
def zi{b:Gm}{X:Cx}{E:XK}{C f:Str}(c:Ct T b X E)(h:OL b C f=R):∃L,jV X.K C L/\f∈L:=by let(L,q,a):=bf h;show#[L,c.md.cl _ _ q,YT.mp a]
noncomputable instance{C f:Str}[x:CE T (es a)]:CE T (es (aV C f a)) where
 chk Γ e:=(Sd e).any λy=>y.2.1==f&&OL Γ C f&&P4 y.1&&x.chk Γ y.1
 ok c h:=by let((o,n,p),q,b):=bf h;rw[yg q];simp only[Ur,beq_iff_eq]at b;let(((rfl,u),r),m):=b;let(L,i,g):=zi c u;let(t,l,j):=x.ok c m;show#[_,Oc l (fZ r),J0 i g j]
class FM (T:G Fd) (rz:Bool) (C m:Str) (F:fD) (n:Nat) where
 i:Nat
 lv:Nat
 ps:G Str
 h:T[i]?=S (fdM rz lv C m ps n F)
section
variable{C m:Str}{F:fD}{n:Nat}
def Fc(T:G Fd)(b hd:Bool)(C m:Str)(F:fD)(n:Nat)[o:FM T b C m F n](x:Gm->UW->Bool)(u:Gm->G UW->Bool)(a:Gm)(e:UW):Bool:=(!hd||a.rz&&b)&&decide (o.i<a.top)&&decide (o.lv<=a.lv)&&(a.M.cl.lookup C).isSome&&(P9 m e).any λy=>x a y.1&&u a y.2.1
def uF{d hd:Bool}[o:FM T d C m F n]{x:Gm->UW->Bool}{u:Gm->b3 UW->Bool}{k:Gm}{X:Cx}{E:XK}{e:UW}(c:Ct T k X E)(h:Fc T d hd C m F n x u k e=R):∃(b:UW) (l:b3 UW) (p q:Pos) (L:b3 Str) (pl:Sem Bool),e=.Call (.Attribute b m p) l [] q/\x k b=R/\u k l=R/\jV X.K C L/\lM X.prog X.w X.K X.mg X.base (if d then L4.i7 X.prog X.w else jD) o.lv C m o.ps (jW X.K n F)/\Wl o.lv X.A/\dj (if d then L4.i7 X.prog X.w else jD) X (if hd then E else E0)/\l.all ig=R/\eval (.Call (.Attribute b m p) l [] q) X.env=(do
   let ov<-eval b X.env
   standAt p.atName
   let(f,first)<-holding [ov] (getMethod ov m pl)
   callWith q f first (backTo q (UO l X.env)) (backToKw q (keywordEach [] X.env))):=by
 unfold Fc at h;simp only[Ur,decide_eq_true_eq]at h;let((((a,y),v),t),r):=h;let((b,l,p,q),z,g):=bf r;let(rfl,I,H,i,G):=oE z;rw[Ur]at g;let(L,j):=V0.mp t;let(pl,ev):=Qt (m:=m) (env:=X.env) I i G H;show#[b,l,p,q,L,pl,W,g.1,g.2,c.md.cl _ _ j,c.fs _ _ y o.h,c.rm.mono v,?_,i,ev];cases hd with
 |true=>let a:=(Ur _ _).mp a;rw[a.2];show Dh c a.1
 |false=>cases d with
  |true=>show Ft
  |false=>show Dn
def Rn(d hd:Bool)(A:Jd TE)(U:Jd TA)[o:FM T d C m F n][x:CE T A][u:CA T U](k:∀{K E L to t},jV K C L->A K E to->U K E t->J K E (mf K C m (jW K n F) (if hd then E else E0) to t)):CE T J where
 chk:=Fc T d hd C m F n x.chk λy l=> !l.isEmpty&&u.chk y l
 ok c h:=by
  let(b,l,p,q,L,pl,rfl,w,a,v,r,j,i,f,g):=uF c h;rw[Ur]at a;let(to,k1,k2):=x.ok c w;let(t,k3,k4):=u.ok c a.2;cases l with
  |nil=>cases a.1
  |cons e l=>show#[_,LV r i j k1 k3 (UC _) (dY f) (gJ f) g,k v k2 k4]
def RG(d hd:Bool)(A:Jd TE)[o:FM T d C m F n][x:CE T A](k:∀{K E L to},jV K C L->A K E to->J K E (mf K C m (jW K n F) (if hd then E else E0) to iq)):CE T J where
 chk:=Fc T d hd C m F n x.chk λ_ l=>l.isEmpty
 ok c h:=by let(b,l,p,q,L,pl,rfl,r,a,j,i,g,f,t,e):=uF c h;let(to,k1,k2):=x.ok c r;rw[Vp]at a;subst a;show#[_,OW i f g k1 (UC _) e,k j k2]
noncomputable instance[FM T Ut C m F n][CE T (es o)][CE T (es a)][CA T (as b)]:CE T (es (aK C m F n o (ah a b))):=Rn (C:=C) (m:=m) (F:=F) (n:=n) Ut Ut (es o) (as (ah a b)) zt
noncomputable instance[FM T Ut C m F n][CE T (es o)]:CE T (es (aK C m F n o aC)):=RG (C:=C) (m:=m) (F:=F) (n:=n) Ut Ut (es o) λh k=>zt h k z9
noncomputable instance[FM T R C m F n][CE T (es o)][CE T (es a)][CA T (as b)]:CE T (es (iT C m F n o (ah a b))):=Rn (C:=C) (m:=m) (F:=F) (n:=n) R R (es o) (as (ah a b)) Gh
class FK (T:G Fd) (C:Str) (F:fD) (n:Nat) where
 i:Nat
 lv:Nat
 ps:G Str
 h:T[i]?=S (fdK lv C ps n F)
noncomputable instance[o:FK T C F n][x:CE T (es a)][u:CA T (as b)]:CE T (es (pT C F n (ah a b))) where
 chk Γ e:=(Γ.M.cl.lookup C).isSome&&(P3 Γ o.i (o.lv+1) C e).any λy=>CK.chk T PA (as (ah a b)) Γ (y.1::y.2.1)
 ok c h:=by rw[Ur]at h;let(L,l):=V0.mp h.1;let(y,q,r):=bf h.2;let(rfl,g,i,j,f):=oS q;let(z,w,_):=mI c g;let(t,v,p):=CK.ok c r;show#[_,LS (c.fs _ _ i o.h) Dn c.rm v j z w (dY f) (gJ f),Jv (c.md.cl _ _ l) p]
end
end CC
set_option warn.classDefReducibility false
namespace CC
open PySem L2 L3 L10
variable{T:b3 Fd}{A B C J:Jd TE}{U Z:Jd TA}{Q R:Jd TT}
theorem RU{a:Gm}{X:Cx}{E:XK}(c:Ct T a X E):X.A.units+1<cLine:=Gv c.rm
noncomputable instance[x:CE T (es d)][y:CE T (es k)]:CE T (es (qC d k)) where
 chk Γ e:=(xj e).any λp=>ig p.2.1&&x.chk Γ p.1&&y.chk Γ p.2.1
 ok c h:=by let(p,q,a):=bf h;simp only[Ur]at a;let(l,i,g):=x.ok c a.1.2;let(j,f,b):=y.ok c a.2;rw[jQ q];show#[_,KF (RU c) i f (tY a.1.1),Fs g b]
def LX(x y:Gm->UW->Bool)(a:Gm)(e:UW):Bool:=(Q5 .In e).any λp=>x a p.1&&y a p.2
def DH[x:CE T (es k)][y:CE T (es d)]{l X E e}(c:Ct T l X E)(h:LX x.chk y.chk l e=Uq):∃t,PE X e t/\PT X e (tB t)/\b6 X.K E t (rb Ut k d):=by let(p,q,a):=bf h;rw[Ur]at a;let(_,rfl,b):=uG q;let(n,g,j):=x.ok c a.1;let(m,f,i):=y.ok c a.2;show#[_,xE (Fp (RU c) g f) b,xN (Fp (RU c) g f) b,JD j i]
noncomputable instance[x:CE T (es k)][y:CE T (es d)]:CT T (kN (aQ (rb Ut k d))):=#[LX x.chk y.chk,λc h=>let#[_,_,h1,a]:=DH c h;#[_,h1,Ff a]]
noncomputable instance[x:CE T (es d)][y:CE T (es k)]:CE T (es (sF d k)) where
 chk Γ e:=(P9 "pop" e).any λz=>x.chk Γ z.1&&match z.2.1 with
  |[e]=>y.chk Γ e
  |_=>Ut
 ok c h:=by
  let((b,l,p,q),z,g):=bf h;let(rfl,m,j,a,u):=oE z;rw[Ur]at g;let(i,f):=g;let(I,t,r):=x.ok c i
  match l,a,f with
  |[e],a,f=>let a:[e].all ig=Uq:=a;let(v,o,n):=y.ok c f;show#[_,DL t o #[fZ m,tF a (by show 1<20;decide),j,?_],Da r n];rw[dY a];rfl
noncomputable instance[x:CE T (es d)]:CE T (es (v4 d)) where
 chk Γ e:=(FV Γ "list" e).any λy=>y.2.1.isEmpty&&(P9 "values" y.1).any λz=>z.2.1.isEmpty&&x.chk Γ z.1
 ok c h:=by let((e,l,E,w),q,f):=bf h;let(rfl,g,i):=kI q;simp only[Ur,Vp]at f;let(rfl,o):=f;let((b,l,v,u),z,a):=bf o;let(rfl,r,p,H,G):=oE z;simp only[Ur,Vp]at a;let(rfl,n):=a;let(t,m,j):=x.ok c n;show#[_,qM c g D8 (.inr #[_,W]) (L10.yf c.cm) i (aY (DS aan aag PySem.F.type_dict_values L10.Bx m (fZ r) p) dr (fQ W)),Dt j]
def QG(x:Str){v:CL}(b:Vl x=S v)(y:(∃id,v=.builtin id)\/∃ty,v=.type ty)(A:Jd TE)[u:CE T A]{r:lD->G V->Hp->VK->Prop}(n:∀{X:Cx},X.calm=Uq->WM X v (r X.K))(k:∀{K E t},A K E t->J K E (zP (r K) (eO t iq))):CE T J where
 chk Γ e:=(FV Γ x e).any λy=>y.2.1.isEmpty&&u.chk Γ y.1
 ok c h:=by let((e,l,p,o),q,f):=bf h;let(rfl,g,a):=kI q;simp only[Ur,Vp]at f;let(rfl,m):=f;let(t,j,i):=u.ok c m;show#[_,qM c g b y (n c.cm) a (aY j dr (dY a)),k i]
noncomputable instance[CE T (es d)]:CE T (es (oW d)):=QG "sorted" vY (.inl #[_,W]) (es d) (r:=λ_=>xy) L10.yP Gy
noncomputable instance[CE T (es d)]:CE T (es (sG d)):=QG "dict" L10.NZ (.inr #[_,W]) (es d) (r:=xg) L10.yJ Dk
def Kp(i:Nat)(a:Gm)(e:UW):Bool:=(vN e).any λx=>a.N[i]? ==S x.1&&(a.sc.lookup x.1==S .local||(a.sc.lookup x.1==S .cell&&a.fc.contains x.1))
def t6{b:Gm}{X:Cx}{E:XK}{i:Nat}{e:UW}(c:Ct T b X E)(h:Kp i b e=Uq):∃x p,e=.Name x p/\X.N[i]?=S x/\L2.P6 X.env.scope x/\(X.fn x=Uq\/Wv x X.env.scope.names=S UQ.local):=by
 let((x,p),q,a):=bf h;simp only[Ur,VT]at a;show#[x,p,mO q,by rw[c.n];show beq_iff_eq.mp a.1,?_];ext L2.P6;rw[c.sc];rcases a.2 with z|⟨z,w⟩
 .show#[.inl (dQ z),.inr (dQ z)]
 .show#[.inr (dQ z),.inl (c.fc _ (YT.mp w))]
def Q3{G:Jd TG}(i:Nat)(k:∀{K E},G K E (kY i)):CG T G where
 chk:=Kp i
 ok c h:=by let(x,p,rfl,e,b,a):=t6 c h;show#[_,#[IK c.nd e b a,λ_=>W],k]
noncomputable instance:CG T (go (gN i)):=Q3 i uc
noncomputable instance:CG T (B6 (fw i)):=Q3 i pW
def QM{G:Jd yc}(k:∀{K E},G K E Jj):CH T G:=#[λ_ l=>l.isEmpty,λ_ h=>by rw[Vp.mp h];show#[_,#[HX,W,W],k]]
noncomputable instance:CH T (gs QU):=QM Ow
noncomputable instance:CH T (P8 xS):=QM Kc
def Rb{I:Jd yc}(G:Jd TG)(H:Jd yc)[x:CG T G][y:CH T H](k:∀{K E t u},G K E t->H K E u->I K E (Ai t u)):CH T I where
 chk Γ l:=match l with
  |e::r=>x.chk Γ e&&y.chk Γ r
  |[]=>Ut
 ok c h:=by
  split at h
  .rw[Ur]at h;let(o,(m,a),j):=x.ok c h.1;let(n,(i,f,b),g):=y.ok c h.2;show#[_,#[DD m i (by rw[a];rfl),by rw[a,UJ,UJ,f],by rw[a,List.findIdx?_cons,b];rfl],k j g]
  .ext h
noncomputable instance[CG T (go g)][CH T (gs r)]:CH T (gs (MC g r)):=Rb (go g) (gs r) KN
noncomputable instance[CG T (B6 g)][CH T (P8 r)]:CH T (P8 (mZ g r)):=Rb (B6 g) (P8 r) GN
def Rg{I:Jd TG}(n:Nat)(H:Jd yc)[y:CH T H](k:∀{K E t},H K E t->I K E (Jc K n t)):CG T I where
 chk Γ e:=(Di e).any λl=>decide (l.length=n)&&y.chk Γ l
 ok c h:=by let(l,q,a):=bf h;let(_,_,rfl):=sW q;simp only[Ur,decide_eq_true_eq]at a;let(rfl,b):=a;let(t,(j,g,f),i):=y.ok c b;show#[_,#[Pm c.cm j g f,λ_=>W],k i]
noncomputable instance[CH T (gs r)]:CG T (go (gT n r)):=Rg n (gs r) N4
noncomputable instance[CH T (P8 r)]:CG T (B6 (Nx n r)):=Rg n (P8 r) JQ
def Re(A:Jd TE){I:Jd TI}[x:CE T A]{f:lD->TE->TI}(p:∀{X:Cx} {d e t},PE X e t->PI X d e (f X.K t))(k:∀{K E t},A K E t->I K E (f K t)):CI T I where
 chk Γ p:=ig p.2&&x.chk Γ p.2
 ok c h:=by rw[Ur]at h;let(t,b,a):=x.ok c h.2;show#[_,#[p b,h.1],k a]
noncomputable instance[CE T (eo a)]:CI T (io (gq a)):=Re (eo a) yL Ol
noncomputable instance[CE T (es a)]:CI T (HC (jY a)):=Re (es a) yL Kn
noncomputable instance[CI T (io f)]:CI T (PR f):=rJ (A:=io f) λh=>L3.IO.s h
noncomputable instance:CI T (PR (pU i)):=#[λa p=>ig p.2&&Ju i a p.2,λc h=>by rw[Ur]at h;show#[_,#[yL (xY c h.2),h.1],FH]]
noncomputable instance[CI T (io f)]:CI T (HC (gz f)):=rJ (A:=io f) DY
noncomputable instance[u:CA T (ao a)]:CI T (io (mw iE a)) where
 chk I p:=(FV I "range" p.2).any λy=>y.2.1.isEmpty&&u.chk I [y.1]
 ok {I X E p} c h:=by let((e,l,F,w),q,b):=bf h;let(z,g,i):=kI q;simp only[Ur,Vp]at b;let(rfl,n):=b;let(r,o,_):=mz c g;let(t,m,j):=u.ok c n;let(v,f):=p;let z:f=_:=z;subst z;show#[_,#[A3 r o m (dY i),W],JO j]
noncomputable instance[u:CA T (ao a)]:CI T (io (ut a)) where
 chk I p:=FZ p.1&&(FV I "zip" p.2).any λy=>match y.2.1 with
  |[r]=>u.chk I [y.1,r]
  |_=>Ut
 ok {I X E p} c h:=by
  rw[Ur]at h;let((e,l,G,F),q,f):=bf h.2;let(z,g,b):=kI q;let(w,v,_):=mz c g;let(i,j):=p;let z:j=_:=z;subst z;let o:FZ i=Uq:=h.1
  match l,b,f with
  |[r],b,f=>let b:[e,r].all ig=Uq:=b;let(t,n,m):=u.ok c f;let(_,_,_,rfl):=CV o;show#[_,#[Pj w v n (dY b) (gJ b),W],M8 m]
end CC
set_option warn.classDefReducibility false
namespace CC
open PySem L2 L3 L10
variable{T:b3 Fd}{A B C J:Jd TE}{U Z:Jd TA}{Q R:Jd TT}{G:Jd TG}{I:Jd TI}
noncomputable instance:CQ T (na cN):=#[λ_ l=>l.isEmpty,λ_ h=>by rw[Vp.mp h];show#[_,wQ,GB]]
noncomputable instance:CQ T (kN hG):=#[λ_ l=>l.isEmpty,λ_ h=>by rw[Vp.mp h];show#[_,wQ,D1]]
def TX(Q:Jd TT)[f:CT T Q]:CQ T Q where
 chk Γ l:=match l with
  |[e]=>f.chk Γ e
  |_=>Ut
 ok c h:=by
  split at h
  .let(t,b,a):=f.ok c h;show#[_,Cw b,a]
  .ext h
noncomputable instance[CT T (na q)]:CQ T (na q):=TX (na q)
def t0{b:Type}(P:Jd (St->Hp->b->Prop))(K:lD)(E:XK):St->Hp->b->Prop:=λa H Q=>∀t,P K E t->t a H Q
def g0(P:Jd TG)(K:lD)(E:XK):TG:=λv a H Q=>∀t,P K E t->t v a H Q
class Cl {τ:Type} (P:Jd (St->Hp->τ->Prop)):Prop where
 cl:∀{K E},P K E (t0 P K E)
class ClG (P:Jd TG):Prop where
 cl:∀{K E},P K E (g0 P K E)
noncomputable instance:Cl (eo g):=#[λB b O a H e Q R w _ h=>h B b O a H e Q R w]
noncomputable instance:Cl (es g):=#[λB a H α b e Q s l w _ h=>h B a H α b e Q s l w]
noncomputable instance:Cl (na g):=#[λB b O a H e Q R w _ h=>h B b O a H e Q R w]
noncomputable instance:Cl (kN g):=#[λB a H α b e Q s l w _ h=>h B a H α b e Q s l w]
noncomputable instance:ClG (go g):=#[λB b O a H e v pv Q R p w _ h=>h B b O a H e v pv Q R p w]
noncomputable instance:ClG (B6 g):=#[λB a H α b e v x Q s l p w _ h=>h B a H α b e v x Q s l p w]
def Mi(e:UW):b3 Str:=((vN e).map (·.1)).toList++((Di e).getD []).filterMap λe=>(vN e).map (·.1)
def PM(l:b3 (Str×UQ)):b3 Str:=(l.filter λy=>y.2==UQ.cell&&l.all λp=> !(p.1==y.1)|| !(p.2==UQ.free)).map (·.1)
def SC(a:Gm)(l:b3 (Str×UQ)):b3 (Str×UQ):=l.map λp=>if(p.2==UQ.free&&(ScopeKind.function==ScopeKind.function)&&a.sc.lookup p.1==S .cell)then(p.1,.cell)else p
def Gm.inn(a:Gm)(own:b3 Str)(b:b3 (Str×Nat))(sc:b3 (Str×UQ)):Gm:={a with N:=own++b.map (·.1),sc:=SC a sc,rz:=Ut,fa:=Ut,fc:=PM sc}
def wL(b:Gm)(a:b3 Nat):b3 (Str×Nat):=a.filterMap λj=>(b.N[j]?).map λx=>(x,j)
def SX(a:Gm)(sc:Wd)(b:b3 (Str×Nat)):Bool:=b.all λp=>a.N[p.2]? ==S p.1&&sc.names.lookup p.1==S .free&&(a.sc.lookup p.1==S .cell||a.sc.lookup p.1==S .free)
theorem Mp{d:Gm}{X:Cx}{E:XK}{sc:Wd}(c:Ct T d X E):∀{g:b3 (Str×Nat)},SX d sc g=Uq->aaj X sc g
 |[],_=>trivial
 |p::r,h=>by unfold SX at h;simp only[Wh,Ur,VT]at h;let(((f,e),b),a):=h;show#[#[by rw[c.n];show beq_iff_eq.mp f,dQ e,?_],Mp c a];rw[c.sc];show b.imp dQ dQ
theorem zv{env:Env}{y:Str}:∀{l:b3 (Str×UQ)} {acc:b3 (Str×M)},(∀p∈l,p.1=y->(p.2==UQ.free)=Ut)->acc.lookup y=P->(fL env l acc).lookup y=P
 |[],_,_,h=>h
 |(n,k)::r,acc,h,f=>by
  let a:=λacc=>zv (env:=env) (y:=y) (l:=r) (acc:=acc) λp b=>h p (UN _ b);ext fL;split
  .rename_i q
   let ne:n≠y:=λe=>by rw[h (n,k) UX e]at q;ext q
   split
   .show a _ (by rw[Vi,show(y==n)=Ut from beq_eq_false_iff_ne.mpr (eg ne)];show f)
   .show a _ f
  .show a _ f
def GJ{env:Env}{l:b3 (Str×UQ)}{y:Str}(h:y∈PM l):((fL env l []).lookup y).isNone=Uq:=by
 let(p,f,rfl):=Vt.mp h;let(_,a):=Ws.mp f;rw[Ur]at a;rw[zv (λq b e=>?_) W]
 .rfl
 .let:=VP.mp a.2 q b;rw[e,eu]at this;revert this;cases q.2==UQ.free<;>intro h<;>first|rfl|ext h
structure Lc(T:b3 Fd)(Γ':Gm)(X:Cx)(E:XK)(n:Nat)(fj:b3 Nat)(I:Jd TI)(G:Jd TG)(Q:Jd TT)(A:Jd TE)(sc:Wd)(elt:UW)(cp:X2) where
 own:b3 Str
 fv:b3 (Str×Nat)
 wi:TI
 e:cp.is_async=0
 ln:own.length=n
 fj:fv.map (·.2)=fj
 pi:PI X cp.target cp.iter wi
 i:I X.K E wi
 pg:∀s H C fp,PG (bh X s H sc C (cj own fv) fp) cp.target (g0 G X.K E0)
 g:G X.K E0 (g0 G X.K E0)
 pq:∀s H C fp,v5 (bh X s H sc C (cj own fv) fp) cp.ifs (t0 Q X.K E0)
 q:Q X.K E0 (t0 Q X.K E0)
 pe:∀s H C fp,PE (bh X s H sc C (cj own fv) fp) elt (t0 A X.K E0)
 a:A X.K E0 (t0 A X.K E0)
 fvk:aaj X sc fv
 fr:(sc.names.all λy=> !(y.2==UQ.free)||X.env.scope.names.lookup y.1==S .cell||X.env.scope.names.lookup y.1==S .free)=Uq
 kd:sc.kind=.function
 nd:(sc.names.map (·.1)).Nodup
 nm:∀y∈sc.names,y.2=.local->sc.names.lookup y.1=S .local
 fold:∀z,foldedSetIterable cp.iter X.env z=pure z
 ct:∀s H C fp W E',Ct T Γ' ((bh X s H sc C (cj own fv) fp).Yb W) E'
def CY(n:Nat)(d:b3 Nat)(i:CI T I)(g:CG T G)(w:CQ T Q)(x:CE T A)(b:Gm)(elt:UW)(c:X2)(sc:Wd):Bool:=
 let own:=Mi c.target
 let e:=wL b d
 let a:=b.inn own e sc.names
 decide (own.length=n)&&decide (e.map (·.2)=d)&&decide (c.is_async=0)&&SX b sc e&&(sc.names.all λy=> !(y.2==UQ.free)||b.sc.lookup y.1==S .cell||b.sc.lookup y.1==S .free)&&decide (sc.kind=.function)&&decide ((sc.names.map (·.1)).Nodup)&&(sc.names.all λy=> !(y.2==UQ.local)||sc.names.lookup y.1==S .local)&&decide ((own++e.map (·.1)).Nodup)&&i.chk b (c.target,c.iter)&&g.chk a c.target&&w.chk a c.ifs&&x.chk a elt
def tD[Cl A][Cl Q][ClG G]{i:CI T I}{g:CG T G}{w:CQ T Q}{x:CE T A}{n:Nat}{f:b3 Nat}{d:Gm}{X:Cx}{E:XK}{m:UW}{k:X2}{sc:Wd}(c:Ct T d X E)(h:CY n f i g w x d m k sc=Uq):Nonempty (Lc T (d.inn (Mi k.target) (wL d f) sc.names) X E n f I G Q A sc m k):=by
 unfold CY at h;simp only[Ur,decide_eq_true_eq]at h;let((((((((((((h1,h2),h3),k1),k2),k3),k4),k5),k6),Y),S),P),O):=h;let(K,(N,L),M):=i.ok c Y;let ct:∀s H C a W F,Ct T (d.inn (Mi k.target) (wL d f) sc.names) ((bh X s H sc C (cj (Mi k.target) (wL d f)) a).Yb W) F:=λs H C a W F=>
  #[rfl,k6,by show(relabel sc X.env).names=SC d sc.names;unfold relabel SC Env.kindOf;rw[c.kd,c.sc],k3,c.cm,c.rm,λz=>(ZN z),λz=>(ZN z),λy o=>GJ o,c.md,c.fs]
 let p:∀s H C a,Ct T (d.inn (Mi k.target) (wL d f) sc.names) (bh X s H sc C (cj (Mi k.target) (wL d f)) a) E0:=λs H C a=>ct s H C a _ E0;show#[#[Mi k.target,wL d f,K,h3,h1,h2,N,M,λs H C a=>?_,ClG.cl,λs H C a=>?_,Cl.cl,λs H C a=>?_,Cl.cl,Mp c k1,?_,k3,k4,λy o e=>?_,ze L,ct]]
 .let(t,(l,_),j):=g.ok (p s H C a) S;show λb s q H v u Q I r z=>l _ _ _ _ _ _ _ I r (z _ j)
 .let(t,l,j):=w.ok (p s H C a) P;show λb s q H Q I z=>l _ _ _ _ _ I (z _ j)
 .let(t,l,j):=x.ok (p s H C a) O;show λb s q H Q I z=>l _ _ _ _ _ I (z _ j)
 .rw[c.sc];show k2
 .let:=VP.mp k5 y o;rw[e]at this;show dQ this
def Ii(e:UW):z (UW×X2×Wd×Pos):=(Tf e).bind λy=>match y.2.1 with
 |[a]=>S (y.1,a,y.2.2)
 |_=>P
def uQ{e:UW}{y:UW×X2×Wd×Pos}(h:Ii e=S y):e=.ListComp y.1 [y.2.1] y.2.2.1 y.2.2.2:=by
 let((a,l,s,p),q,b):=Vs.mp h;rw[Od q]
 match l,b with
 |[f],b=>ext b;rfl
def RB(I:Jd TI)(G:Jd TG)(Q:Jd TT)(A:Jd TE)[Cl A][Cl Q][ClG G][i:CI T I][g:CG T G][w:CQ T Q][x:CE T A](n:Nat)(f:b3 Nat)(k:∀{K E own v a g s d},own.length=n->v.map (·.2)=f->I K E a->G K E0 g->Q K E0 s->A K E0 d->J K E (mM own v a g s d)):CE T J where
 chk Γ e:=(Ii e).any λy=>CY n f i g w x Γ y.1 y.2.1 y.2.2.1
 ok c h:=by let((o,r,u,p),q,m):=bf h;rw[uQ q];let⟨l⟩:=tD c m;let(t,b,j,as):=r;obtain rfl:as=0:=l.e;show#[_,yU l.own l.fv c.cm l.pi l.pg l.pq l.pe l.fvk l.fr l.kd l.nd l.nm l.fold,k l.ln l.fj l.i l.g l.q l.a]
noncomputable instance[CI T (PR f)][CG T (go g)][CQ T (na q)][CE T (eo a)]:CE T (eo (dc n l f g q a)):=RB (PR f) (go g) (na q) (eo a) n l v7
noncomputable instance[CI T (HC f)][CG T (B6 g)][CQ T (kN q)][CE T (es a)]:CE T (es (jj n l f g q a)):=RB (HC f) (B6 g) (kN q) (es a) n l wO
end CC
set_option warn.classDefReducibility false
namespace CC
open PySem L2 L3 L10
variable{T:b3 Fd}{A B C J:Jd TE}{U Z:Jd TA}{Q R:Jd TT}{G:Jd TG}{I:Jd TI}{S Y X:Jd TS}
def RA:Wm->z (UW×b3 Wm×b3 Wm)
 |.If c a b _=>cL (c,a,b)
 |_=>P
def Gx:Wm->z (z UW)
 |.Return e _=>cL e
 |_=>P
def Lq:Wm->z UW
 |.Expr e _=>cL e
 |_=>P
def rP:Wm->z (UW×UW)
 |.Assign [t] e _=>cL (t,e)
 |_=>P
def Li:Wm->z (UW×UW×b3 Wm)
 |.For t i b [] _=>cL (t,i,b)
 |_=>P
def QZ:Wm->z (UW×b3 Wm)
 |.While c b [] _=>cL (c,b)
 |_=>P
def Qe:Wm->z UW
 |.Raise (cL e) P _=>cL e
 |_=>P
section
variable{s:Wm}
theorem Kz(h:RA s=cL x):∃p,s=.If x.1 x.2.1 x.2.2 p:=rd (P:=λx=>∃p,s=.If x.1 x.2.1 x.2.2 p) (by ext s<;>first|show trivial|show#[_,W]) h
theorem vQ(h:Gx s=cL x):∃p,s=.Return x p:=rd (P:=λx=>∃p,s=.Return x p) (by ext s<;>first|show trivial|show#[_,W]) h
theorem Gk(h:Lq s=cL x):∃p,s=.Expr x p:=rd (P:=λx=>∃p,s=.Expr x p) (by ext s<;>first|show trivial|show#[_,W]) h
theorem ja(h:rP s=cL x):∃p,s=.Assign [x.1] x.2 p:=rd (P:=λx=>∃p,s=.Assign [x.1] x.2 p) (by ext s<;>first|show trivial|(rename_i l _ _;rcases l with _|⟨t,_|⟨_,_⟩⟩<;>first|show trivial|show#[_,W])) h
theorem Ch(h:Li s=cL x):∃p,s=.For x.1 x.2.1 x.2.2 [] p:=rd (P:=λx=>∃p,s=.For x.1 x.2.1 x.2.2 [] p) (by ext s<;>first|show trivial|(rename_i l _;ext l<;>first|show trivial|show#[_,W])) h
theorem Ks(h:QZ s=cL x):∃p,s=.While x.1 x.2 [] p:=rd (P:=λx=>∃p,s=.While x.1 x.2 [] p) (by ext s<;>first|show trivial|(rename_i l _;ext l<;>first|show trivial|show#[_,W])) h
theorem HV(h:Qe s=cL x):∃p,s=.Raise (cL x) Uo p:=rd (P:=λx=>∃p,s=.Raise (cL x) Uo p) (by ext s<;>first|show trivial|(rename_i a b _;ext a<;>ext b<;>first|show trivial|show#[_,W])) h
end
def Tr(S:Jd TS)[o:CU T S]:CS T S where
 chk Γ b:=match b with
  |[s]=>o.chk Γ s
  |_=>Ut
 ok c h:=by
  split at h
  .let(t,e,a):=o.ok c h;show#[_,jP e,a]
  .ext h
noncomputable instance[CU T (so f)]:CS T (so f):=Tr (so f)
noncomputable instance[CU T (WN f)]:CS T (WN f):=Tr (WN f)
noncomputable instance:CS T (so dA):=#[λ_ b=>b.isEmpty,λ_ h=>by rw[Vp.mp h];show#[_,uo,Kw]]
noncomputable instance:CS T (WN bX):=#[λ_ b=>b.isEmpty,λ_ h=>by rw[Vp.mp h];show#[_,uo,Fw]]
def K7(Y X:Jd TS)[o:CU T Y][n:CS T X](k:∀{K E t u},Y K E t->X K E u->S K E (CD t u)):CS T S where
 chk Γ b:=match b with
  |s::r=>o.chk Γ s&&n.chk Γ r
  |_=>Ut
 ok c h:=by
  split at h
  .rw[Ur]at h;let(t,g,f):=o.ok c h.1;let(i,e,a):=n.ok c h.2;show#[_,jh g e,k f a]
  .ext h
noncomputable instance[CU T (so f)][CS T (so g)]:CS T (so (bu f g)):=K7 (so f) (so g) OU
noncomputable instance[CU T (WN f)][CS T (WN g)]:CS T (WN (aB f g)):=K7 (WN f) (WN g) HD
def Lj(Q:Jd TT)(Y X:Jd TS)[p:CT T Q][m:CS T Y][n:CS T X](k:∀{K E c t u},Q K E c->Y K E t->X K E u->S K E (Ek c t u)):CU T S where
 chk Γ s:=(RA s).any λy=>p.chk Γ y.1&&m.chk Γ y.2.1&&n.chk Γ y.2.2
 ok c h:=by let(y,q,a):=bf h;let(_,rfl):=Kz q;simp only[Ur]at a;let(t,j,i):=p.ok c a.1.1;let(o,g,f):=m.ok c a.1.2;let(l,e,b):=n.ok c a.2;show#[_,Lb j g e,k i f b]
noncomputable instance[CT T (na q)][CS T (so f)][CS T (so g)]:CU T (so (kM q f g)):=Lj (na q) (so f) (so g) QW
noncomputable instance[CT T (kN q)][CS T (WN f)][CS T (WN g)]:CU T (WN (bR q f g)):=Lj (kN q) (WN f) (WN g) MY
def K8(A:Jd TE)[x:CE T A](k:∀{K E t},A K E t->S K E (DJ t)):CU T S where
 chk Γ s:=(Gx s).any λy=>y.any (x.chk Γ)
 ok c h:=by let(y,q,i):=bf h;let(e,a,g):=bf i;let(_,rfl):=vQ q;subst a;let(t,f,b):=x.ok c g;show#[_,tX f,k b]
noncomputable instance[CE T (eo a)]:CU T (so (di a)):=K8 (eo a) OC
noncomputable instance[CE T (es a)]:CU T (WN (L10.fy a)):=K8 (es a) G3
noncomputable instance:CU T (WN pE) where
 chk _ s:=(Gx s).any (·.isNone)
 ok c h:=by let(y,q,a):=bf h;let(_,rfl):=vQ q;rw[aaf.mp a];show#[_,Ik,Cp]
def Fu(A:Jd TE)[x:CE T A](k:∀{K E t},A K E t->S K E (sg t)):CU T S where
 chk Γ s:=(Lq s).any λe=>(ig e&& !O9 e)&&x.chk Γ e
 ok c h:=by let(y,q,a):=bf h;let(_,rfl):=Gk q;let a:=(Ur _ _).mp a;let(t,f,b):=x.ok c a.2;show#[_,Av f (Ae a.1),k b]
noncomputable instance[CE T (eo a)]:CU T (so (kQ a)):=Fu (eo a) Hi
noncomputable instance[CE T (es a)]:CU T (WN (bc a)):=Fu (es a) Dq
def Ln(i:Nat)(A:Jd TE)[x:CE T A](k:∀{K E t},A K E t->S K E (xt t (kY i))):CU T S where
 chk Γ s:=(rP s).any λy=>(ig y.2&& !O9 y.2)&&(Kp i Γ y.1&&x.chk Γ y.2)
 ok c h:=by let((f,e),q,a):=bf h;let(_,rfl):=ja q;let a:=(Ur _ _).mp a;let b:=(Ur _ _).mp a.2;let(t,j,g):=x.ok c b.2;let(y,p,z,k1,k2,k3):=t6 c b.1;let z:f=_:=z;subst z;show#[_,ub c.nd k1 k2 j (Ae a.1) k3,k g]
noncomputable instance[CE T (eo a)]:CU T (so (fJ a (gN i))):=Ln i (eo a) λh=>D9 h uc
noncomputable instance[CE T (es a)]:CU T (WN (cU a (fw i))):=Ln i (es a) λh=>zA h pW
def OM{elt b sc x p n}{a:Pos}{env:Env}(h:env.kindOf x=cL .cell):WO (.ListComp elt [b] sc a) (cL (.Name x p)) n env=pure Ut:=by show(pure _:Sem Bool)=_;rw[h];congr 1;show(((_&&Ut)&&_)&&_)=Ut;rw[Bool.and_false];rfl
def LG(I:Jd TI)(G:Jd TG)(Q:Jd TT)(A:Jd TE)[Cl A][Cl Q][ClG G][ii:CI T I][g:CG T G][w:CQ T Q][x:CE T A](n:Nat)(r:b3 Nat)(i:Nat)(k:∀{K E own o b g j d},own.length=n->o.map (·.2)=r->I K E b->G K E0 g->Q K E0 j->A K E0 d->S K E (xt (mM own o b g j d) (kY i))):CU T S where
 chk Γ s:=(rP s).any λz=>(vN z.1).any λv=>(Ii z.2).any λy=>Kp i Γ z.1&&(Γ.sc.lookup v.1==cL .cell||(Γ.sc.lookup v.1==cL .local&&v.2.line==y.2.2.2.line&& !(y.2.2.1.names.any λy=>y.1==v.1&&(y.2==.local||y.2==.cell))))&&CY n r ii g w x Γ y.1 y.2.1 y.2.2.1
 ok c h:=by
  let((f,e),q,h2):=bf h;let(_,rfl):=ja q;let((v,vp),N,h3):=bf h2;let((elt,cp,sc,p),L,m):=bf h3;let u:f=_:=mO N;let t:e=_:=uQ L;subst u t;simp only[Ur,Xr,VT]at m;let((hg,a),hc):=m;let(_,_,z,k1,k2,k3):=t6 c hg;ext z;let⟨l⟩:=tD c hc;let(f,iter,ifs,as):=cp;obtain rfl:as=0:=l.e;show#[_,?_,k l.ln l.fj l.i l.g l.q l.a];rcases a with a|⟨⟨a,hp⟩,ha⟩
  .let a:=dQ a;rw[<-c.sc]at a;show ub c.nd k1 k2 (yU l.own l.fv c.cm l.pi l.pg l.pq l.pe l.fvk l.fr l.kd l.nd l.nm l.fold) (OM a) k3
  .let a:=dQ a;rw[<-c.sc]at a;show Ip l.own l.fv c.nd k1 a c.cm l.pi l.pg l.pq l.pe l.fvk l.fr (Qb c.kd a hp ha) l.kd l.nd l.nm l.fold
noncomputable instance[CI T (PR f)][CG T (go g)][CQ T (na q)][CE T (eo a)]:CU T (so (fJ (dc n l f g q a) (gN i))):=LG (PR f) (go g) (na q) (eo a) n l i λo m j h e b=>D9 (v7 o m j h e b) uc
noncomputable instance{C f:Str}[x:CE T (es o)][y:CE T (es a)]:CU T (WN (d4 C f o a)) where
 chk Γ s:=(rP s).any λz=>(Sd z.1).any λw=>w.2.1==f&&OL Γ C f&&ig z.2&&x.chk Γ w.1&&y.chk Γ z.2
 ok c h:=by let((i,e),q,F):=bf h;let(_,rfl):=ja q;let((b,n,p),j,g):=bf F;let z:i=_:=yg j;subst z;simp only[Ur,beq_iff_eq]at g;let((((rfl,E),v),u),r):=g;let(L,m,l):=zi c E;let(t,k1,k2):=x.ok c u;let(H,k3,k4):=y.ok c r;show#[_,MP k1 k3 (QC v),Ji m l k2 k4]
noncomputable instance[x:CE T (es d)][y:CE T (es k)][p:CE T (es v)]:CU T (WN (sH d k v)) where
 chk Γ s:=(rP s).any λr=>(xj r.1).any λw=>ig r.2&&x.chk Γ w.1&&y.chk Γ w.2.1&&p.chk Γ r.2
 ok c h:=by let((b,e),q,m):=bf h;let(_,rfl):=ja q;let(w,f,a):=bf m;let p:b=_:=jQ f;subst p;simp only[Ur]at a;let(((l,j),i),g):=a;let(t,k1,k2):=x.ok c j;let(o,k3,k4):=y.ok c i;let(n,k5,k6):=CK.ok c g;show#[_,JZ (RU c) k1 k3 k5 (K9 l),DQ k2 k4 k6]
def Lg(I:Jd TI)(G:Jd TG)(Y:Jd TS)[v:CI T I][y:CG T G][m:CS T Y](k:∀{K E d g t},I K E d->G K E g->Y K E t->S K E (KM d g t)):CU T S where
 chk Γ s:=Γ.fa&&(Li s).any λz=>v.chk Γ (z.1,z.2.1)&&y.chk Γ z.1&&m.chk Γ z.2.2
 ok c h:=by rw[Ur]at h;let(z,q,a):=bf h.2;let(_,rfl):=Ch q;simp only[Ur]at a;let(t,(f,b),e):=v.ok c a.1.1;let(j,(k1,_),k2):=y.ok c a.1.2;let(i,k3,k4):=m.ok c a.2;show#[_,M3 (c.po h.1) c.cm f k1 k3 (ze b),k e k2 k4]
noncomputable instance[CI T (io f)][CG T (go g)][CS T (so b)]:CU T (so (mj f g b)):=Lg (io f) (go g) (so b) PD
noncomputable instance[CI T (HC f)][CG T (B6 g)][CS T (WN b)]:CU T (WN (wX f g b)):=Lg (HC f) (B6 g) (WN b) KL
def gm(M:Md)(N:b3 Str)(a:Wm)(lv top:Nat)(b:Bool):Gm:=#[M,N,(au a).names,lv,b,Uq,PM (au a).names,top]
def Sw(N a:b3 Str)(sc:Wd):Bool:=decide (sc.kind=.function)&& !sc.isCoroutine&& !sc.isGenerator&&decide N.Nodup&&decide (N.take a.length=a)&&a.all (λx=>sc.names.lookup x==cL .local||sc.names.lookup x==cL .cell)&&sc.names.all (λy=> !(y.2==.free))
def uu{N c:b3 Str}{sc:Wd}(h:Sw N c sc=Uq):Wy N c sc:=by
 unfold Sw at h;simp only[Ur,decide_eq_true_eq,Xr]at h;let((((((n,m),l),j),i),g),f):=h;show#[n,m,l,j,i,λx b=>?_,λy a e=>?_]
 .let:=VP.mp g x b;rw[VT]at this;show this.imp dQ dQ
 .let:=VP.mp f y a;rw[e]at this;ext this
section
variable{P:UR}{w:Va}{K:lD}{y:Str->b4 CL}{base:Heap}{f:Uu}{L:Vv}{M:Md}{Z x:Str}{N v:b3 Str}{k n top:Nat}{Y:Wm}
def Wk(T:b3 Fd)(S:Jd TS)[c:CS T S](M:Md)(N v:b3 Str)(Y:Wm)(k top:Nat)(a:Bool):Bool:=Sw N v (au Y)&&c.chk (gm M N Y k top a) (bQ Y)
theorem Tj(a:abg K y M)(fs:∀i L,i<top->T[i]?=cL L->L P w K y base)(S:Wy N v (au Y)){c A outer s H E}(b:Wl k (A.deeper (Vd Z (au Y) s.heap.objs.size f c))):Ct T (gm M N Y k top Ut) (dR jD P w K y base N Z (au Y) f c A outer s H E).nox E:=
 #[W,S.nd,W,S.kind,W,b,λ_=>aas.never,λz=>ZN z,λ_ _=>W,a,fs]
theorem S7(a:abg K y M)(fs:∀i L,i<top->T[i]?=cL L->L P w K y base)(S:Wy N v (au Y)){c A outer s H E}(b:Wl k (A.deeper (Vd Z (au Y) s.heap.objs.size f c))):Ct T (gm M N Y k top Uq) (dR (L4.i7 P w) P w K y base N Z (au Y) f c A outer s H E) E:=
 #[W,S.nd,W,S.kind,W,b,λ_=>aas.leaving,λ_=>#[_,_,_,_,_,_,_,_,_,W],λ_ _=>W,a,fs]
def Zw{g:FS}{b:FN}[c:CS T (so g)](e:abg K y M)(fs:∀i L,i<top->T[i]?=cL L->L P w K y base)(F:Zo K x Z Y f L)(h:Wk T (so g) M N v Y k top Ut=Uq)(d:v.length=n:=by rfl)(l:b=fK N.length g:=by rfl):FnOk P w K y base jD (k+1) f L v (Bh K n b):=by let h:=(Ur _ _).mp h;let S:=uu h.1;show Td F S d W l λm A a s H E j=>c.ok (Tj e fs S j) h.2
def YQ{g:dw}{b:fD}[c:CS T (WN g)](e:abg K y M)(fs:∀i L,i<top->T[i]?=cL L->L P w K y base)(F:Zo K x Z Y f L)(h:Wk T (WN g) M N v Y k top Ut=Uq)(d:v.length=n:=by rfl)(l:b=cB N.length g:=by rfl):FnOk P w K y base jD (k+1) f L v (jW K n b):=by let h:=(Ur _ _).mp h;let S:=uu h.1;show Tl F S d W l λm A a s H E j=>c.ok (Tj e fs S j) h.2
def afg{g:dw}{b:fD}[c:CS T (WN g)](e:abg K y M)(fs:∀i L,i<top->T[i]?=cL L->L P w K y base)(F:Zo K x Z Y f L)(h:Wk T (WN g) M N v Y k top Uq=Uq)(d:v.length=n:=by rfl)(l:b=cB N.length g:=by rfl):FnOk P w K y base (L4.i7 P w) (k+1) f L v (jW K n b):=by let h:=(Ur _ _).mp h;let S:=uu h.1;show Sk F S d W l λm A a s H E j=>c.ok (S7 e fs S j) h.2
end
section
variable{T:b3 Fd}{P:UR}{w:Va}{K:lD}{mg:Str->b4 CL}{base:Heap}
theorem fs0:∀i fd,i<0->T[i]?=cL fd->fd P w K mg base:=λ_ _ h=>bg h (Nat.not_lt_zero _)
theorem YD{n:Nat}{x:Fd}(h:∀i fd,i<n->T[i]?=cL fd->fd P w K mg base)(e:T[n]?=cL x)(a:x P w K mg base):∀i fd,i<n+1->T[i]?=cL fd->fd P w K mg base:=λi fd b q=>by
 rcases Nat.lt_succ_iff_lt_or_eq.mp b with z|rfl
 .show h i fd z q
 .rw[e]at q;ext q;show a
theorem look{α:Type}{R:Str->α->Prop}{y:Str}{e:α}{l:b3 (Str×α)}(h:R y e)(r:∀x d,l.lookup x=cL d->R x d):∀x d,((y,e)::l).lookup x=cL d->R x d:=λx d q=>by
 rw[Vi]at q;split at q
 .rename_i z;rw[beq_iff_eq]at z;ext q;rw[z];show h
 .show r x d q
abbrev Q0(K:lD)(mg:Str->z CL):Str->D->Prop:=λx d=>∃v u,mg x=cL u/\RelV v u/\∀O H,DV O K H v d
theorem csN:∀x d,([]:b3 (Str×D)).lookup x=cL d->Q0 K mg x d:=λ_ _ h=>nomatch h
theorem csC{y:Str}{e:D}{l:b3 (Str×D)}(h:Q0 K mg y e)(r:∀x d,l.lookup x=cL d->Q0 K mg x d):∀x d,((y,e)::l).lookup x=cL d->Q0 K mg x d:=look h r
theorem csW{x:Str}{a:M}{d:D}(h:mg x=cL (.ref a))(k:∀O H,DV O K H (.ref a) d):Q0 K mg x d:=#[.ref a,_,h,W,k]
theorem clN:∀C L,([]:b3 (Str×b3 Str)).lookup C=cL L->jV K C L:=λ_ _ h=>nomatch h
theorem clC{y:Str}{e:b3 Str}{l:b3 (Str×b3 Str)}(h:jV K y e)(r:∀x d,l.lookup x=cL d->jV K x d):∀x d,((y,e)::l).lookup x=cL d->jV K x d:=look h r
abbrev TZ(K:lD)(mg:Str->z CL)(x:Str):Prop:=∃C,UU K UL x=cL (cL (.ref C))/\mg x=cL (.ref C)/\XD K C QY "ValueError.__new__"=Uq
theorem exN:∀x∈([]:b3 Str),TZ K mg x:=λ_ h=>nomatch h
end
end CC
set_option warn.classDefReducibility false
namespace CC
open PySem L2 L3 L10
variable{T:b3 Fd}
def Sc(n:String):Bool:=n== "int"||n== "bool"||n== "str"||n== "list"||n== "tuple"
def DE{n:String}(h:Sc n=R):(n= "int"\/n= "bool"\/n= "str"\/n= "list"\/n= "tuple")/\Vl (Str.ofString n)=S (.type n):=by unfold Sc at h;simp only[VT,beq_iff_eq]at h;rcases h with(((rfl|rfl)|rfl)|rfl)|rfl<;>show#[by simp,W]
noncomputable instance[x:CE T (eo a)]:CE T (eo (rj n a)) where
 chk L e:=(FV L "isinstance" e).any λy=>match y.2.1 with
  |[b]=>(vN b).any (λz=>z.1==Str.ofString n)&&blt L (Str.ofString n)&&Sc n&&x.chk L y.1
  |_=>Ut
 ok {L X E e} c h:=by
  let((e,l,K,J),q,j):=bf h;let(rfl,g,i):=kI q
  match l,i,j with
  |[b],i,j=>simp only[Ur]at j;let(((f,B),A),w):=j;let(z,p,f):=bf f;let m:=mO p;let(o,I):=z;let f:=beq_iff_eq.mp f;let f:o=_:=f;subst f;let m:b=_:=m;subst m;let(k1,k2):=DE A;let(H,F,G,C):=mz c B;let(t,u,r):=x.ok c w;simp only[Wh,Ur]at i;show#[_,qM c g cR (.inl #[_,W]) sj (by simp only[Wh,Ur];show i) (aY u (aY (lJ (v:=.ty _) H F k2 W C G) dr (fQ i.2.1)) (fQ i.1)),MM k1 r]
noncomputable instance:BOp EZ:=JL .Pow #[_,MD,KP]
end CC
set_option warn.classDefReducibility false
namespace CC
open PySem L2 L3 L10
variable{T:b3 Fd}{A B C J:Jd TE}{U Z:Jd TA}{Q R:Jd TT}
def SN(n:String)(x:Gm->UW->Bool)(a:Gm)(e:UW):Bool:=(FV a "isinstance" e).any λy=>match y.2.1 with
  |[b]=>(vN b).any (λz=>z.1==Str.ofString n)&&blt a (Str.ofString n)&&Sc n&&x a y.1
  |_=>Ut
noncomputable instance[x:CE T (es a)]:CE T (es (wV n a)) where
 chk:=SN n x.chk
 ok {Y X E e} c h:=by
  let((e,l,N,M),q,j):=bf h;let(rfl,g,i):=kI q
  match l,i,j with
  |[b],i,j=>simp only[Ur]at j;let(((f,F),y),w):=j;let(z,p,f):=bf f;let m:=mO p;let(o,L):=z;let f:=beq_iff_eq.mp f;let f:o=_:=f;subst f;let m:b=_:=m;subst m;let(k1,k2):=DE y;let(K,H,I,G):=mz c F;let(t,u,r):=x.ok c w;simp only[Wh,Ur]at i;show#[_,qM c g cR (.inl #[_,W]) sj (by simp only[Wh,Ur];show i) (aY u (aY (lJ (v:=.ty _) K H k2 W G I) dr (fQ i.2.1)) (fQ i.1)),L10.IB k1 r]
end CC
set_option warn.classDefReducibility false
namespace CC
open PySem L2 L3 L10
variable{T:b3 Fd}{A B C J:Jd TE}{U Z:Jd TA}{Q R:Jd TT}
theorem yC{a:Gm}{X:Cx}{E:XK}(c:Ct T a X E):X.A.units+64<cLine:=c.rm.units
noncomputable instance:CE T (es uE) where
 chk _ e:=(SB e).any λy=>y.1.isEmpty&&y.2.isEmpty
 ok _ h:=by let((k,v),q,a):=bf h;let(_,rfl):=Gi q;simp only[Ur,Vp]at a;let(rfl,rfl):=a;show#[_,LD.pe_ddnew,Bp]
noncomputable instance[x:CE T (es a)][y:CE T (es b)]:CE T (es (A9 a b)) where
 chk p e:=(SB e).any λz=>match z.1,z.2 with
  |[S k],[v]=>x.chk p k&&y.chk p v
  |_,_=>Ut
 ok {p X E e} c h:=by
  let((g,r),q,f):=bf h;let(_,rfl):=Gi q
  match g,r,f with
  |[S k],[v],f=>simp only[Ur]at f;let(o,m,l):=x.ok c f.1;let(n,j,i):=y.ok c f.2;show#[_,LD.pe_dd1 (yC c) m j,HU l i]
noncomputable instance[x:CE T (es d)][y:CE T (es k)]:CE T (es (l8 d k)) where
 chk Γ e:=(xj e).any λp=>ig p.2.1&&x.chk Γ p.1&&y.chk Γ p.2.1
 ok c h:=by let(p,q,a):=bf h;simp only[Ur]at a;let(l,i,g):=x.ok c a.1.2;let(j,f,b):=y.ok c a.2;rw[jQ q];show#[_,LD.pe_ddget (yC c) i f (tY a.1.1),Bw g b]
def Lh(op:aaO)(x y:Gm->UW->Bool)(a:Gm)(e:UW):Bool:=(Q5 op e).any λp=>x a p.1&&y a p.2
def Ri(neg:Bool):aaO:=if neg then .NotIn else .In
def Fh{neg:Bool}[x:CE T (es k)][y:CE T (es d)]{l X E e}(c:Ct T l X E)(h:Lh (Ri neg) x.chk y.chk l e=Uq):∃t,PE X e t/\PT X e (tB t)/\b6 X.K E t (pR neg k d):=by
 let(p,q,g):=bf h;rw[Ur]at g;let(_,rfl,a):=uG q;let(n,f,j):=x.ok c g.1;let(m,b,i):=y.ok c g.2;cases neg with
 |false=>show#[_,xE (LD.pc_ddin (yC c) f b) a,xN (LD.pc_ddin (yC c) f b) a,wI j i]
 |true=>show#[_,xE (LD.pc_ddnin (yC c) f b) a,xN (LD.pc_ddnin (yC c) f b) a,wI j i]
noncomputable instance[x:CE T (es k)][y:CE T (es d)]:CT T (kN (aQ (pR neg k d))):=#[Lh (Ri neg) x.chk y.chk,λc h=>let#[_,_,h1,a]:=Fh c h;#[_,h1,Ff a]]
noncomputable instance[x:CE T (es d)][y:CE T (es k)][p:CE T (es v)]:CU T (WN (mx d k v)) where
 chk Γ s:=(rP s).any λr=>(xj r.1).any λw=>ig r.2&&x.chk Γ w.1&&y.chk Γ w.2.1&&p.chk Γ r.2
 ok c h:=by let((b,e),q,m):=bf h;let(_,rfl):=ja q;let(w,f,a):=bf m;let p:b=_:=jQ f;subst p;simp only[Ur]at a;let(((l,j),i),g):=a;let(t,k1,k2):=x.ok c j;let(o,k3,k4):=y.ok c i;let(n,k5,k6):=CK.ok c g;show#[_,LD.ps_ddput (yC c) k1 k3 k5 (K9 l),BJ k2 k4 k6]
class IOp (f:D->D->z RV) where
 op:adB
 ok:∀{X:Cx},∃ti,Uc X op ti/\jL X.K ti f
noncomputable instance[i:CT T (kN q)][m:CS T (WN b)]:CU T (WN (pQ q b)) where
 chk Γ s:=Γ.fa&&(QZ s).any λy=>i.chk Γ y.1&&m.chk Γ y.2
 ok c h:=by rw[Ur]at h;let(y,q,a):=bf h.2;let(_,rfl):=Ks q;rw[Ur]at a;let(t,f,e):=i.ok c a.1;let(g,k1,k2):=m.ok c a.2;show#[_,Cy (c.po h.1) f k1,Bt e k2]
def vD:D->V
 |.int i=>.int i
 |_=>.Wu
class ade (l:G D):Prop where
 h:∀K O H,Wg O K H (l.map vD) l
noncomputable instance:ade []:=#[λ_ _ _=>.nil]
noncomputable instance[r:ade l]:ade (.int i::l):=#[λK O H=>.cons (.int i) (r.h K O H)]
abbrev fdD(ds:G D)(lv:Nat)(x:Str)(b:G Str)(n:Nat)(F:fD):Fd:=λP w K a base=>wJ P w K a base (L4.i7 P w) lv x b (ds.map vD) (jW K n F)
noncomputable instance[a:ade ds][Fn T (fdD ds) F n][CA T (as u)]:CE T (es (vO F n ds u)):=rY (as u) (fdD ds) F n Uq λf x r g d p e b=>#[_,zG f r (x W) e (UC _) g d (dY p) (gJ p),BZ (λO H=>a.h _ O H) b]
noncomputable instance[a:ade ds][Fn T (fdD ds) F n][CA T (as u)]:CE T (es (l6 F n ds u)):=rY (as u) (fdD ds) F n Ut λf x r g d p e b=>#[_,zG f r Ft e (UC _) g d (dY p) (gJ p),yo (λO H=>a.h _ O H) b]
abbrev age(lv:Nat)(C:Str)(b:G Str)(n:Nat)(F:fD):Fd:=λP w K a base=>vq P w K a base (L4.i7 P w) lv C b (jW K n F)
class FKE (T:G Fd) (C:Str) (F:fD) (n:Nat) where
 i:Nat
 lv:Nat
 ps:G Str
 h:T[i]?=S (age lv C ps n F)
noncomputable instance{C:Str}[o:FKE T C F n][x:CE T (es a)][u:CA T (as b)]:CE T (es (AR C F n (ah a b))) where
 chk Γ e:=Γ.rz&&(Γ.M.cl.lookup C).isSome&&(P3 Γ o.i (o.lv+1) C e).any λy=>CK.chk T PA (as (ah a b)) Γ (y.1::y.2.1)
 ok c h:=by simp only[Ur]at h;let(L,l):=V0.mp h.1.2;let(y,q,p):=bf h.2;let(rfl,g,i,j,f):=oS q;let(w,v,_):=mI c g;let(t,r,m):=CK.ok c p;show#[_,LS (c.fs _ _ i o.h) (Dh c h.1.1) c.rm r j w v (dY f) (gJ f),N7 (c.md.cl _ _ l) m]
abbrev fdX(lv:Nat)(x f:Str):Fd:=λP w K b base=>∃(C B fI:M) (e:Obj) (a:Vv) (g:G Str),L9.XC K C B fI/\K.lookup fI=S e/\WH K (.ref fI)=Uq/\FnOk P w K b base jD lv fI a g (L9.sP C f)/\Binds K a g []/\UU K UL x=S (S (.ref C))/\b x=S (.ref C)
class FX (T:G Fd) (x f:Str) where
 i:Nat
 lv:Nat
 h:T[i]?=S (fdX lv x f)
noncomputable instance{k f:Str}[o:FX T k f][x:CE T (es a)]:CU T (WN (lr k f a)) where
 chk i s:=i.rz&&(Qe s).any λe=>(P3 i o.i (o.lv+1) k e).any λy=>y.2.1.isEmpty&&x.chk i y.1
 ok {i X E s} c h:=by rw[Ur]at h;let(P,O):=h;let(e,q,M):=bf O;let(_,rfl):=HV q;let((e0,l,p1,p2),w,b):=bf M;let(rfl,g,hi,I,n):=oS w;simp only[Ur,Vp]at b;let(rfl,b):=b;let(v,S,_):=mI c (x:=k) g;let(C,B,fI,oI,Y,ps,K,G,H,FI,bI,z,F):=c.fs _ _ hi o.h;let(t,u,L):=x.ok c b;let r:=c.rm.mono I;let(N,p,j,f,cd,A,m,s0,H0,e):=c.px P;show#[_,?_,yM z L];rw[e]at v u r⊢;show L9.BV K G H FI bI r v F (aY u dr (dY n)) S (dY n) (gJ n)
def aed{P:UR}{w:Va}{K:lD}{r:Str->z CL}{base:Heap}{f:Uu}{fd:Vv}{M:Md}{a x:Str}{N d:G Str}{k n top:Nat}{e:Wm}{g:dw}{j:fD}{TT:Uu}{p:Array CL}[c:CS T (WN g)](l:abg K r M)(fs:∀i fd,i<top->T[i]?=cL fd->fd P w K r base)(F:abb K x a e f fd TT p)(h:Wk T (WN g) M N d e k top Uq=Uq)(t:d.length=n:=by rfl)(o:j=cB N.length g:=by rfl):FnOk P w K r base (L4.i7 P w) (k+1) f fd d (jW K n j):=by let h:=(Ur _ _).mp h;let S:=uu h.1;show RN F S t W o λq A b s H E m=>c.ok (S7 l fs S m) h.2
end CC
set_option warn.classDefReducibility false
namespace CC
open PySem L2 L3 L10
variable{T:b3 Fd}{A B C J:Jd TE}{U Z:Jd TA}{Q R:Jd TT}
abbrev SK(lv:Nat)(x f g:Str):Fd:=λP w K b base=>∃(C B fI:M) (e:Obj) (a:Vv) (h:G Str),L9.XC K C B fI/\K.lookup fI=S e/\WH K (.ref fI)=Uq/\FnOk P w K b base jD lv fI a h (L9.Gd C f g)/\Binds K a h []/\UU K UL x=S (S (.ref C))/\b x=S (.ref C)
class FX2 (T:G Fd) (x f g:Str) where
 i:Nat
 lv:Nat
 h:T[i]?=S (SK lv x f g)
end CC
set_option warn.classDefReducibility false
namespace CC
open PySem L2 L3 L10
variable{T:b3 Fd}{A B C J:Jd TE}{U Z:Jd TA}{Q R:Jd TT}
noncomputable instance[CE T (eo a)]:CE T (es (mK j a)):=rJ (A:=eo a) AM
def SU(m:Str){r:V->G V->Hp->VK->Prop}(A:Jd TE)[x:CE T A](p:∀{X:Cx} {b:UW} {p q:Pos} {to:TE},P4 b=Uq->(p.endLine==q.line)=Uq->PE X b to->PE X (.Call (.Attribute b m p) [] [] q) (DR X.K "list" r to))(k:∀{K E to},A K E to->J K E (DR K "list" r to)):CE T J where
 chk Γ e:=(P9 m e).any λy=>y.2.1.isEmpty&&x.chk Γ y.1
 ok c h:=by let((b,l,u,o),z,a):=bf h;let(rfl,n,j,w,v):=oE z;simp only[Ur,Vp]at a;let(rfl,i):=a;let(t,g,f):=x.ok c i;show#[_,p n j g,k f]
noncomputable instance[CE T (es o)]:CE T (es (vR o)):=SU "pop" (es o) (λb a h=>DS aao PySem.F.slot_list_pop PySem.F.type_list_pop Ot h (fZ b) a) CO
noncomputable instance[CI T (HC f)][CG T (B6 g)][CQ T (kN q)][CE T (es a)]:CU T (WN (cU (l7 (jj n l f g q a)) (fw i))):=LG (HC f) (B6 g) (kN q) (es a) n l i λo m j h e b=>zA (Ad (wO o m j h e b)) pW
end CC
set_option warn.classDefReducibility false
namespace CC
open PySem L2 L3 L10
variable{T:b3 Fd}
def TK:CE T (eo (pC .none)):=inferInstance
def SQ:UW:=.Constant .none 0 #[0,0,0,0]
noncomputable instance{C m:Str}[ii:CI T (HC f)][gg:CG T (B6 tg)][w:CQ T (kN q)][o:FM T Uq C m F n][x:CE T (es b)][u:CA T (as (ah a r))]:CE T (es (lZ k l f tg q (iT C m F n b (ah a r)))) where
 chk g e:=g.rz&&(Ii e).any λz=>CY k l ii gg w TK g SQ z.2.1 z.2.2.1&&Fc T Uq Ut C m F n x.chk (λg l=> !l.isEmpty&&u.chk g l) (g.inn (Mi z.2.1.target) (wL g l) z.2.2.1.names) z.1
 ok {g X E e} c h:=by
  let h:=(Ur _ _).mp h;let((M,cp,sc,p),q1,v):=bf h.2;let v:=(Ur _ _).mp v;rw[uQ q1];let⟨l⟩:=tD c v.1;let(tgt,Z,ifs,R):=cp;obtain rfl:R=0:=l.e;let(N,S,y,f0,cd,A,B,s0,H0,e):=c.px h.1;let cH:X.stack=X.env::X.outer/\X.env.frame=cL X.env.locals:=by rw[e];show#[W,W]
  let J:X.ex=[]:=by rw[e];rfl
  let G:X.pn=[]:=by rw[e];rfl
  let PX:L4.Dz X E:=by rw[e];show L4.HZ
  show#[_,Ea l.own l.fv cH J G PX c.cm l.pi l.pg l.pq (te:=t0 (es (iT C m F n b (ah a r))) X.K E) (λs H Cc fp=>?_) l.fvk l.fr l.kd l.nd l.nm l.fold,BR l.ln l.fj l.i l.g l.q (Cl.cl (P:=es (iT C m F n b (ah a r))))];let O:=l.ct s H Cc fp (Sl (bh X s H sc Cc (cj l.own l.fv) fp) E) E;let(bb,Y,p1,p2,L,pl,e1,h1,j,h4,h5,h6,_,i,h8):=uF O v.2;let e1:M=_:=e1;subst e1;let j:=(Ur _ _).mp j;let(to,k1,k2):=x.ok O h1;let(t,k3,k4):=u.ok O j.2;cases Y with
  |nil=>cases j.1
  |cons e0 Y=>show λU s1 σ H1 Q I z=>LV h5 L4.C0 h6 k1 k3 (UC _) (dY i) (gJ i) h8 _ _ _ _ _ I (z _ (Gh h4 k2 k4))
end CC
set_option warn.classDefReducibility false
namespace CC
open PySem L2 L3 L10
variable{T:b3 Fd}{A B:Jd TE}
end CC
set_option warn.classDefReducibility false
namespace CC
open PySem L2 L3 L10
variable{T:b3 Fd}
end CC
namespace M02
inductive Con(E:G (Nat×Nat))(r0:Nat):Bool->Nat->Prop
 |base:Con E r0 R r0
 |col {r c:Nat}:Con E r0 R r->(r,c)∈E->Con E r0 A c
 |row {r c:Nat}:Con E r0 A c->(r,c)∈E->Con E r0 R r
def has(n c:Nat):Prop:=n.testBit c=R
structure Nums(E:G (Nat×Nat))(R C:Nat)(ns:G Nat):Prop where
 len:ns.length=R
 lt:∀n∈ns,n<2^C
 own:∀r c,(r,c)∈E->has (ns.getD r 0) c
 snd:∀r,r<R->∀c,has (ns.getD r 0) c->Con E r A c
abbrev NF:=G Nat×G Nat
structure aoB(E:G (Nat×Nat))(r0:Nat)(s:NF):Prop where
 a:r0∈s.1
 n:∀x∈s.1,Con E r0 R x
 f:∀x∈s.2,Con E r0 A x
 d:s.2.Nodup
 d1:s.1.Nodup
structure amI(R C:Nat)(ss:G (Nat×Nat)):Prop where
 r1:1<=R
 r6:R<=6
 c1:1<=C
 c6:C<=6
 l1:1<=ss.length
 l12:ss.length<=12
 nd:ss.Nodup
 inn:∀s∈ss,s.1<R/\s.2<C
end M02
local macro_rules(kind:=«term{_}»)|`({$a})=>`(L3.aa $a L3.aq)|`({$a,$b})=>`(L3.aa $a (L3.aa $b L3.aq))|`({$a,$b,$c})=>`(L3.aa $a (L3.aa $b (L3.aa $c L3.aq)))|`({$a,$b,$c,$d})=>`(L3.aa $a (L3.aa $b (L3.aa $c (L3.aa $d L3.aq))))
local macro_rules|`(~~~$n)=>`(L3.pC (.int $n))
namespace STP
open PySem L2 L3
def gy:FS:=(bu (kM (aF (aG nu (aG aZ (ad 0) (~~~2)) (pC .none))) (di (aG aZ (ad 0) (~~~2))) dA)
 (di (fG (L10.yT 0) {dc 2 [] (gq (aG aZ (ad 0) (~~~0))) (gT 2 (MC (gN 0) (MC (gN 1) QU))) (aF (aG cX (aG aZ (ad 1) (~~~0)) (pC (.str "layer")))) (aG aZ (ad 1) (~~~1))})))
def db:FN:=fK 1 gy
def fA:FS:=(bu (fJ (aG aZ (aG aZ (aG aZ (ad 0) (~~~1)) (ad 1)) (ad 2)) (gN 3))
 (bu (kM (aF (aG cX (aG aZ (ad 3) (~~~0)) (pC (.str "below")))) (di (aG aZ (aG aZ (aG aZ (ad 0) (~~~1)) (~~~0)) (ad 2))) dA)
 (di (ad 3))))
def gI:FN:=fK 4 fA
def dD:FS:=(di (dc 1 [1] (gq (aG aZ (ad 0) (~~~2))) (gN 0) (aF (fG nG {dc 1 [0] (gq (ad 1)) (gN 0) cN (aG GS (ad 0) (aG aZ (ad 1) (~~~0)))})) (ad 0)))
def br:FN:=fK 2 dD
def eK:FS:=(bu (mj (gq (aG aZ (ad 0) (~~~2))) (gN 2) (kM (aF (aG cX (fG rA {aG aZ (ad 2) (~~~0)}) (fG L9.fq {ad 1}))) (di (aG cV (cC {bG {pC (.str "letter"),aG aZ (ad 2) (~~~1)}}) (aG fS (cC {pC (.tuple [(.str "none")])}) (aG nz (fG c9 {ad 1}) (~~~1))))) dA))
 (di (dc 1 [0] (gq (ad 1)) (gN 0) cN (aG aZ (aG aZ (aG aZ (ad 1) (~~~1)) (~~~0)) (ad 0)))))
def d6:FN:=fK 3 eK
open L10
def dL:dw:=(aB (d4 "Hand" "bed" (am 0) (ae (ad 1)))
 (aB (d4 "Hand" "acts" (am 0) (sG (ae (aG aZ (ad 2) (~~~0)))))
 (aB (d4 "Hand" "waiting" (am 0) (ae (aG aZ (ad 2) (~~~1))))
 (aB (d4 "Hand" "once" (am 0) (ae (aG aZ (ad 2) (~~~2))))
 (d4 "Hand" "sent" (am 0) (ae (cC aq)))))))
def cT:fD:=cB 3 dL
def eZ:dw:=(fy (kr (ah (pL gp (ah (jj 1 [0] (jY (oW (aV "Hand" "acts" (am 0)))) (fw 0) hG (kr (ah (ae (ad 0)) (ah (qC (aV "Hand" "acts" (am 1)) (ae (ad 0))) aC)))) aC)) (ah (aV "Hand" "waiting" (am 0)) (ah (aV "Hand" "once" (am 0)) aC)))))
def bt:fD:=cB 1 eZ
def c7:dw:=(fy (vW (iS nu (aV "Hand" "waiting" (am 0)) (ae (pC .none))) (iS GS (ae (ad 1)) (gh (aV "Hand" "waiting" (am 0)) (ae (~~~0))))))
def bP:fD:=cB 2 c7
def ez:dw:=(fy (iS GS (ae (ad 1)) (v4 (aV "Hand" "acts" (am 0)))))
def bw:fD:=cB 2 ez
def gF:dw:=(aB (bR (kB (bM (aF (aG cX (aG aZ (ad 2) (~~~0)) (pC (.str "letter"))))) (kJ (aQ (aK "Hand" "has_act" bw 2 (am 0) (ah (ae (ad 2)) aC))))) (bc (jf (aV "Hand" "sent" (am 0)) (ae (bG {aG aZ (ad 2) (~~~1),pC (.str "down")})))) bX)
 (sH (aV "Hand" "acts" (am 0)) (ae (ad 1)) (ae (ad 2))))
def a9:fD:=cB 3 gF
def jM:dw:=(aB (cU (sF (aV "Hand" "acts" (am 0)) (ae (ad 1))) (fw 2))
 (bR (kB (bM (aF (aG cX (aG aZ (ad 2) (~~~0)) (pC (.str "letter"))))) (kJ (aQ (aK "Hand" "has_act" bw 2 (am 0) (ah (ae (ad 2)) aC))))) (bc (jf (aV "Hand" "sent" (am 0)) (ae (bG {aG aZ (ad 2) (~~~1),pC (.str "up")})))) bX))
def hJ:fD:=cB 3 jM
def eW:dw:=(aB (cU (gh (aV "Hand" "waiting" (am 0)) (ae (~~~0))) (fw 1))
 (aB (cU (gh (aV "Hand" "waiting" (am 0)) (ae (~~~2))) (fw 2))
 (aB (d4 "Hand" "waiting" (am 0) (ae (pC .none)))
 (aB (cU (l7 (LM (bM (aF (aG cX (ad 2) (pC (.tuple [(.str "chord")]))))) (gP d6 2 (ah (aV "Hand" "bed" (am 0)) (ah (ae (ad 1)) aC))) (ae (cC {bG {pC (.str "layer"),aG aZ (ad 2) (~~~2)}})))) (fw 3))
 (wX (gz (ut {ad 1,ad 3})) (Nx 2 (mZ (fw 4) (mZ (fw 5) xS))) (bc (aK "Hand" "come" a9 3 (am 0) (ah (ae (ad 4)) (ah (ae (ad 5)) aC)))))))))
def cy:fD:=cB 6 eW
def cQ:dw:=(aB (bR (uV (aQ (iS qQ (aV "Hand" "waiting" (am 0)) (ae (pC .none)))) (uV (aQ (iS qh (gh (aV "Hand" "waiting" (am 0)) (ae (~~~2))) (ae (pC (.tuple [(.str "chord")]))))) (aQ (iS qh (gP db 1 (ah (aK "Hand" "stands" bt 1 (am 0) aC) aC)) (ae (~~~0)))))) (fy (ae (pC (.bool A)))) bX)
 (fy (iS qh (gP br 2 (ah (aV "Hand" "bed" (am 0)) (ah (iS cV (gh (aV "Hand" "waiting" (am 0)) (ae (~~~0))) (ae (bG {ad 1}))) aC))) (ae (cC aq)))))
def cP:fD:=cB 2 cQ
def cF:dw:=(aB (cU (iS cV (gh (aV "Hand" "waiting" (am 0)) (ae (~~~0))) (ae (bG {ad 1}))) (fw 2))
 (aB (d4 "Hand" "waiting" (am 0) (kr (ah (ae (ad 2)) (ah (gh (aV "Hand" "waiting" (am 0)) (ae (~~~1))) (ah (ae (pC (.tuple [(.str "chord")]))) aC)))))
 (bR (aQ (iS cX (jj 1 [] (jY (gP br 2 (ah (aV "Hand" "bed" (am 0)) (ah (ae (ad 2)) aC)))) (fw 0) hG (ae (fG c9 {aG aZ (ad 0) (~~~0)}))) (ae (cC {fG c9 {ad 2}})))) (bc (aK "Hand" "decide" cy 1 (am 0) aC)) bX)))
def cG:fD:=cB 3 cF
def fU:dw:=(aB (cU (gP db 1 (ah (aK "Hand" "stands" bt 1 (am 0) aC) aC)) (fw 2))
 (aB (cU (gP gI 3 (ah (aV "Hand" "bed" (am 0)) (ah (ae (ad 2)) (ah (ae (ad 1)) aC)))) (fw 3))
 (aB (cU (ae (aG aZ (ad 3) (~~~0))) (fw 4))
 (aB (bR (bM (aF (aG uZ (ad 4) (bG {pC (.str "layer"),pC (.str "once")})))) (d4 "Hand" "once" (am 0) (ae (pC .none))) bX)
 (bR (bM (aF (aG cX (ad 4) (pC (.str "tap"))))) (d4 "Hand" "waiting" (am 0) (ae (bG {bG {ad 1},~~~0,ad 3}))) (bR (kB (bM (aF (aG cX (ad 4) (pC (.str "letter"))))) (kB (bM (aF (aG cX (ad 2) (~~~0)))) (aQ (iS qh (gP br 2 (ah (aV "Hand" "bed" (am 0)) (ah (ae (bG {ad 1})) aC))) (ae (cC aq)))))) (d4 "Hand" "waiting" (am 0) (ae (bG {bG {ad 1},~~~0,pC (.tuple [(.str "chord")])}))) (bR (bM (aF (aG cX (ad 4) (pC (.str "once"))))) (aB (bc (aK "Hand" "come" a9 3 (am 0) (ah (ae (ad 1)) (ah (ae (pC (.tuple [(.str "none")]))) aC))))
 (d4 "Hand" "once" (am 0) (ae (aG aZ (ad 3) (~~~1))))) (bc (aK "Hand" "come" a9 3 (am 0) (ah (ae (ad 1)) (ah (ae (ad 3)) aC)))))))))))
def d9:fD:=cB 5 fU
def gf:dw:=(aB (bR (uV (aQ (rb A (ae (ad 1)) (aV "Hand" "acts" (am 0)))) (aQ (aK "Hand" "is_waiting" bP 2 (am 0) (ah (ae (ad 1)) aC)))) pE bX)
 (aB (bR (aQ (aK "Hand" "makes_chord" cP 2 (am 0) (ah (ae (ad 1)) aC))) (aB (bc (aK "Hand" "put_to_chord" cG 2 (am 0) (ah (ae (ad 1)) aC)))
 pE) bX)
 (aB (bR (aQ (iS nu (aV "Hand" "waiting" (am 0)) (ae (pC .none)))) (bc (aK "Hand" "decide" cy 1 (am 0) aC)) bX)
 (bc (aK "Hand" "begin" d9 2 (am 0) (ah (ae (ad 1)) aC))))))
def gc:fD:=cB 2 gf
def eY:dw:=(aB (cU (gh (aV "Hand" "waiting" (am 0)) (ae (~~~2))) (fw 2))
 (bR (bM (aF (aG cX (ad 2) (pC (.tuple [(.str "chord")]))))) (bc (aK "Hand" "decide" cy 1 (am 0) aC)) (aB (d4 "Hand" "waiting" (am 0) (ae (pC .none)))
 (bc (aK "Hand" "come" a9 3 (am 0) (ah (ae (ad 1)) (ah (ae (bG {pC (.str "letter"),aG aZ (ad 2) (~~~1)})) aC)))))))
def eR:fD:=cB 3 eY
def gD:dw:=(aB (bR (aQ (aK "Hand" "is_waiting" bP 2 (am 0) (ah (ae (ad 1)) aC))) (bc (aK "Hand" "settle" eR 2 (am 0) (ah (ae (ad 1)) aC))) bX)
 (bR (aQ (rb A (ae (ad 1)) (aV "Hand" "acts" (am 0)))) (bc (aK "Hand" "go" hJ 2 (am 0) (ah (ae (ad 1)) aC))) bX))
def gH:fD:=cB 2 gD
def ei:dw:=(aB (bR (aQ (iS qQ (aV "Hand" "waiting" (am 0)) (ae (pC .none)))) pE bX)
 (aB (cU (iS cV (gh (aV "Hand" "waiting" (am 0)) (ae (~~~1))) (ae (~~~1))) (fw 1))
 (aB (d4 "Hand" "waiting" (am 0) (kr (ah (gh (aV "Hand" "waiting" (am 0)) (ae (~~~0))) (ah (ae (ad 1)) (ah (gh (aV "Hand" "waiting" (am 0)) (ae (~~~2))) aC)))))
 (bR (aQ (iS cX (ae (ad 1)) (gh (aV "Hand" "bed" (am 0)) (ae (~~~3))))) (bc (aK "Hand" "decide" cy 1 (am 0) aC)) bX))))
def eA:fD:=cB 2 ei
def uq:dw:=(aB (cU (pT "Hand" cT 3 (ah (ae (ad 0)) (ah (ae (ad 1)) aC))) (fw 3))
 (aB (bR (bM (aF (aG cX (aG aZ (ad 2) (~~~0)) (pC (.str "turn"))))) (bc (aK "Hand" "wait_on" eA 1 (am 3) aC)) (bR (bM (aF (aG cX (aG aZ (ad 2) (~~~0)) (pC (.str "down"))))) (bc (aK "Hand" "press" gc 2 (am 3) (ah (ae (aG aZ (ad 2) (~~~1))) aC))) (bc (aK "Hand" "lift" gH 2 (am 3) (ah (ae (aG aZ (ad 2) (~~~1))) aC)))))
 (fy (kr (ah (aV "Hand" "sent" (am 3)) (ah (aK "Hand" "stands" bt 1 (am 3) aC) aC))))))
def gO:fD:=cB 4 uq
end STP
local macro_rules| `(tactic|ext:5)=> `(tactic|·first|((simp only[acx,acy]);rfl)|rfl)| `(tactic|ext:4)=> `(tactic|first|with_reducible assumption|change L3.fM _ _|change L3.mH _ _|change L3.kq _ _|change L3.agz _ _|change L3.Am _ _|change L3.u6 _ _|change L3.aiC _ _|change L3.aii _ _|change L3.iu _ _|change L3.uh _ _|change L3.ac4 _ _|change L3.acS _ _|change L3.ahv _ _|change L3.ahm _ _|change L3.tU _ _|change L3.ahh _ _|change L3.ahO _ _|change L3.agk _ _|change L3.sS _ _|change L3.agd _ _|change L3.agI _ _|change L3.ahV _ _|change L3.aiJ _ _|change L3.g7|change L3.kG|change L3.rc|change L3.al9|change L3.al8|change L3.La|change L3.jt _|change L3.eB _|(with_reducible rfl))| `(tactic|ext:0)=> `(tactic|first
 |change L3.ay
 |((with_reducible apply L3.ag);rfl)
 |((with_reducible apply L3.iM);rfl)
 |change L3.az
 |change L3.agf
 |((with_reducible apply L3.aI);(·ext:0);(·ext:0);(·rfl);(·rfl);(·ext:4))
 |((with_reducible apply L3.aky);(·ext:0);(·rfl);(·rfl))
 |((with_reducible apply L3.ai);(·ext:0);(·ext:0))
 |((with_reducible apply L3.b8);(·ext:0);(·rfl))
 |((with_reducible apply L3.dX);(·ext:0);(·rfl);(·first|ext:4|rfl))
 |((with_reducible apply L3.bZ);(·ext:0);(·rfl);(·rfl);(·with_reducible assumption))
 |((with_reducible apply L3.eD);(·ext:0);(·rfl);(·exact Uy rfl))
 |((with_reducible apply L3.lW);(·ext:0);(·rfl);(·exact Uy rfl))
 |((with_reducible apply L3.Cn);(·ext:0);(·rfl);(·rfl))
 |((with_reducible apply L3.agq);(·ext:0);(·rfl))
 |((with_reducible apply L3.ak8);(·ext:0);(·ext:0);(·ext:0);(·rfl);(·first|with_reducible assumption|rfl))
 |((with_reducible apply L3.ahQ);(·ext:0))
 |((with_reducible apply L3.uS);(·ext:0);(·intro _;ext:0))
 |((with_reducible apply L3.Gw);(·ext:0);(·intro _;ext:0))
 |((with_reducible apply L3.ahz);(·ext:0))
 |((with_reducible apply L3.tE);(·ext:0);(·intro _;ext:0))
 |((with_reducible apply L3.aeS);(·ext:0);(·intro _;ext:0))
 |((with_reducible apply L3.Hr);(·ext:0);(·rfl);(·first|with_reducible assumption|rfl))
 |((with_reducible apply L3.jG);(·ext:0);(·rfl);(·rfl))
 |((with_reducible apply L3.agn);(·ext:0);(·rfl);(·rfl))
 |((with_reducible apply L3.uT);(·rfl);(·ext:0);(·rfl);(·rfl);(·first|with_reducible assumption|(simp only[Wt,UJ,L3.fh] at*;ext));ext:5)
 |((with_reducible apply L3.aiL);(·rfl);(·ext:0);(·rfl);(·rfl);(·with_reducible assumption);(·with_reducible assumption);(·with_reducible assumption);ext:5)
 |((with_reducible apply L3.xO);(·ext:0);(·rfl);ext:5)
 |((with_reducible apply L3.yV);(·ext:0))
 |((with_reducible apply L3.tL);(·ext:0);(·rfl)))
local macro_rules| `(tactic|ext:7)=> `(tactic|first
 |((with_reducible apply L3.ajr);(·ext:0);(·ext:0);(·rfl);(·rfl);(·ext:4))
 |((with_reducible apply L3.ahq);(·ext:0);(·rfl);(·rfl);(·with_reducible assumption))
 |((with_reducible apply L3.ai0);(·ext:0);(·rfl);(·first|ext:4|rfl))
 |ext:0)
local macro_rules| `(tactic|ext:0)=> `(tactic|first
 |with_reducible assumption
 |((with_reducible apply L3.tE);(·ext:0);(·intro _;ext:7))
 |((with_reducible apply L3.aeS);(·ext:0);(·intro _;ext:7))
 |((with_reducible apply L3.agD);(·ext:0);(·ext:0);(·ext:0);(·rfl);(·rfl);(·rfl);(·ext:4);(·intro _;ext:4))
 |((with_reducible apply L3.tQ);(·ext:0);(·rfl);(·rfl);(·rfl)))
local macro_rules| `(tactic|ext:2)=> `(tactic|first
 |((with_reducible apply L3.dU);(·ext:0);(·rfl);ext:5;try ext:2)
 |((with_reducible apply L3.ahw);(·ext:0);try ext:2)
 |((with_reducible apply L3.EC);try ext:2)
 |((with_reducible apply L3.fu);try ext:2)
 |((with_reducible apply L3.gM);(·ext:0);(·rfl))
 |((with_reducible apply L3.lh);(·ext:0))
 |((with_reducible apply L3.aiY);(·ext:0);(·rfl);ext:5)
 |((with_reducible apply L3.oh);(·ext:0))
 |((with_reducible apply L3.d8);(·ext:0);(·rfl))
 |((with_reducible apply L3.Db);(·ext:0))
 |(with_reducible apply L3.sR))
namespace STP
open PySem L2 L3
def iX(c:Nat):Str:=#[#v[97+c]]
inductive Mn where
 |Vq (c:Nat)
 |Xa (n:Int)
 |ZC (c:Nat) (n:Int)
 |once (n:Int)
 |none
 |below
 deriving DecidableEq
def mD:Mn->D
 |.Vq c=>.tuple [.str "letter",.str (iX c)]
 |.Xa n=>.tuple [.str "layer",.int n]
 |.ZC c n=>.tuple [.str "tap",.str (iX c),.int n]
 |.once n=>.tuple [.str "once",.int n]
 |.none=>.tuple [.str "none"]
 |.below=>.tuple [.str "below"]
def VM(L a:Int):Mn->Prop
 |.Vq c=>c<26
 |.Xa n=>1<=n/\n<a
 |.ZC c n=>c<26/\1<=n/\n<a
 |.once n=>1<=n/\n<a
 |.none=>True
 |.below=>L≠0
def Mn.isL:Mn->Bool
 |.Vq _=>R
 |_=>A
structure Bd where
 n:Int
 ls:G (G Mn)
 cs:G (G Nat×Nat)
 wt:Int
def i4(l:G Mn):D:=.tuple (l.map mD)
def Wk(c:G Nat×Nat):D:=.tuple [.tuple (bq c.1),.str (iX c.2)]
def bD(b:Bd):D:=.tuple [.int b.n,.tuple (b.ls.map i4),.tuple (b.cs.map Wk),.int b.wt]
def VL(n a:Int)(b:G (G Mn)):Prop:=∀(i:Nat) l,b[i]?=S l->(l.length:Int)=n/\∀m∈l,VM i a m
def B8(l0:G Mn)(k:Nat):Bool:=(l0[k]?.map Mn.isL).getD A
def VC(l0:G Mn)(c:G Nat×Nat):Prop:=2<=c.1.length/\c.1.Pairwise (·<·)/\(∀k∈c.1,B8 l0 k=R)/\c.2<26
structure VB(b:Bd):Prop where
 n1:1<=b.n
 n5:b.n<=5
 l1:1<=b.ls.length
 l3:b.ls.length<=3
 vl:VL b.n b.ls.length b.ls
 c4:b.cs.length<=4
 vc:∀c∈b.cs,VC (b.ls.headD []) c
 cu:b.cs.Pairwise λa c=>a.1≠c.1
 w1:1<=b.wt
 w4:b.wt<=4
def wn:Mn->Nat
 |.Vq _=>0
 |.Xa _=>1
 |.ZC _ _=>2
 |.once _=>3
 |.none=>4
 |.below=>5
def ws:Nat->Str
 |0=> "letter"
 |1=> "layer"
 |2=> "tap"
 |3=> "once"
 |4=> "none"
 |_=> "below"
def wd(m:Mn):Str:=ws (wn m)
def sD(m:Mn):wn m<6:=by ext m<;>show Uy W
def rO(m:Mn):aZ (mD m) (.int 0)=S (.fz (.str (wd m))):=by ext m<;>show g7
theorem K6(m:Mn):Uv.strOk (wd m)=R:=(by left:∀i,i<6->Uv.strOk (ws i)=R) _ (sD m)
def zX:∀i,i<6->∀j,j<6->(ws i==ws j)=decide (i=j):=by left
def vf(m:Mn)(j:Nat)(a:j<6):cX (.str (wd m)) (.str (ws j))=S (.fz (.bool (decide (wn m=j)))):=by rw[S0 (K6 m) ((by left:∀i,i<6->Uv.strOk (ws i)=R) j a)];ext wd;rw[zX _ (sD m) _ a]
def Mn.isB:Mn->Bool
 |.below=>R
 |_=>A
def Mn.acn:Mn->Bool
 |.Xa _=>R
 |_=>A
def Mn.isT:Mn->Bool
 |.ZC _ _=>R
 |_=>A
def Mn.isO:Mn->Bool
 |.once _=>R
 |_=>A
theorem jR(m:Mn):cX (.str (wd m)) (.str "letter")=S (.fz (.bool m.isL)):=(vf m 0 ()).trans (by ext m<;>rfl)
theorem Ez(m:Mn):cX (.str (wd m)) (.str "below")=S (.fz (.bool m.isB)):=(vf m 5 ()).trans (by ext m<;>rfl)
theorem D6(m:Mn):cX (.str (wd m)) (.str "layer")=S (.fz (.bool m.acn)):=(vf m 1 ()).trans (by ext m<;>rfl)
theorem Mr(m:Mn):cX (.str (wd m)) (.str "tap")=S (.fz (.bool m.isT)):=(vf m 2 ()).trans (by ext m<;>rfl)
theorem Hu(m:Mn):cX (.str (wd m)) (.str "once")=S (.fz (.bool m.isO)):=(vf m 3 ()).trans (by ext m<;>rfl)
def RK(m:Mn):uZ (.str (wd m)) (.tuple [.str "layer",.str "once"])=S (.fz (.bool (!(m.acn||m.isO)))):=by
 let h:∀a:Str,Uv.strOk a=R->uZ (.str a) (.tuple [.str "layer",.str "once"])=S (.fz (.bool (!(("layer":Str)==a||("once":Str)==a)))):=λa b=>by show(if(kg (.str a)&&(Uv.strOk "layer"&&(Uv.strOk "once"&&R)))=R then S (RV.fz (.bool (!(Uv.eqv (.str "layer") (.str a)||(Uv.eqv (.str "once") (.str a)||false)))))else P)=_;rw[show kg (.str a)=R by ext kg;rw[show Uv.canLay0 (.str a)=R from b];rfl,show Uv.strOk "layer"=R by left,show Uv.strOk "once"=R by left,aez];rfl
 rw[h _ (K6 m)];ext wd;rw[show(("layer":Str)==ws (wn m))=_ from zX 1 () _ (sD m),show(("once":Str)==ws (wn m))=_ from zX 3 () _ (sD m)];ext m<;>rfl
def LB:Mn->Prop
 |.Vq c=>c<26
 |.ZC c _=>c<26
 |_=>True
def VM.lb(h:VM L nL m):LB m:=by
 cases m with
 |Vq c=>show h
 |ZC c n=>show h.1
 |_=>trivial
def pO(h:c<26):Uv.strOk (iX c)=R:=by show((#v[97+c]:Array Nat).all λc=>decide (c<0x110000))=R;simp;ext
def IW(h:iX c=iX d):c=d:=by
 let:(97+c)=97+d:=by let a:=en (λz:Str=>z.cps.toList) h;show List.head_eq_of_cons_eq a
 ext
def Gf(h:LB m):Uv.canLay0 (mD m)=R:=by
 cases m with
 |Vq c=>show(Uv.strOk "letter"&&(Uv.strOk (iX c)&&R))=R;rw[pO h,show Uv.strOk "letter"=R by left];rfl
 |Xa n=>show(Uv.strOk "layer"&&(R&&R))=R;left
 |ZC c n=>show(Uv.strOk "tap"&&(Uv.strOk (iX c)&&(R&&R)))=R;rw[pO h,show Uv.strOk "tap"=R by left];rfl
 |once n=>show(Uv.strOk "once"&&(R&&R))=R;left
 |none=>show(Uv.strOk "none"&&R)=R;left
 |below=>show(Uv.strOk "below"&&R)=R;left
def Ex(h:LB m):kg (mD m)=R:=by ext kg;rw[Gf h];ext m<;>rfl
def mR:Mn->G D
 |.Vq c=>[.str (iX c)]
 |.Xa n=>[.int n]
 |.ZC c n=>[.str (iX c),.int n]
 |.once n=>[.int n]
 |.none=>[]
 |.below=>[]
def Mq(m:Mn):mD m=.tuple (.str (wd m)::mR m):=by ext m<;>rfl
def Qv(a b:Mn):decide (wd a=wd b)=decide (wn a=wn b):=by
 let h:=zX _ (sD a) _ (sD b)
 assumption
theorem zn(c d:Nat):decide (iX c=iX d)=decide (c=d):=decide_eq_decide.mpr #[IW,λh=>by rw[h]]
def Mx(a b:Mn)(h:wn a=wn b):Uv.eqvAll (mR a) (mR b)=decide (a=b):=by
 ext a<;>ext b<;>first|ext h|skip
 .show(decide (iX _=iX _)&&R)=_;rw[zn,Zi];show decide_eq_decide.mpr #[λh=>by rw[h],λh=>by ext h;rfl]
 .show(decide (_=_)&&R)=_;rw[Zi];show decide_eq_decide.mpr #[λh=>by rw[h],λh=>by ext h;rfl]
 .show(decide (iX _=iX _)&&(decide (_=_)&&R))=_;rw[zn,Zi,<-Bool.decide_and];show decide_eq_decide.mpr #[λh=>by rw[h.1,h.2],λh=>by ext h;show#[W,W]]
 .show(decide (_=_)&&R)=_;rw[Zi];show decide_eq_decide.mpr #[λh=>by rw[h],λh=>by ext h;rfl]
 .rfl
 .rfl
def NM(a b:Mn):Uv.eqv (mD a) (mD b)=decide (a=b):=by
 rw[Mq,Mq];show(decide (wd a=wd b)&&Uv.eqvAll (mR a) (mR b))=_;rw[Qv];by_cases h:wn a=wn b
 .rw[a5 h,XJ,Mx a b h]
 .rw[a6 h,YZ,a6 λz=>h (by rw[z])]
theorem Ak:∀{l:G Mn},(∀m∈l,LB m)->Uv.canLayAll0 (l.map mD)=R
 |[],_=>rfl
 |m::r,h=>by show(Uv.canLay0 (mD m)&&Uv.canLayAll0 (r.map mD))=R;rw[Gf (h m UX),Ak λx a=>h x (UN _ a)];rfl
theorem Ah(a:Mn):∀l:G Mn,((l.map mD).any λe=>Uv.eqv e (mD a))=decide (a∈l)
 |[]=>rfl
 |m::r=>by
  rw[UK,XM,Ah a r,NM,<-Bool.decide_or]
  grind
def JP{l:G Mn}(c:LB a)(b:∀m∈l,LB m):GS (mD a) (.list (l.map mD))=S (.fz (.bool (decide (a∈l)))):=by show(if(kg (mD a)&&Uv.canLayAll0 (l.map mD))=R then _ else _)=_;rw[Ex c,Ak b,WW,ax W,Ah]
def zz(e:α->D)(g:α->z D)(I:aL->Prop)(xs:G α)(p:I d)(i:xs.length<=1000)(b:∀x∈xs,∀d,I d->∃c,jb gt C J (e x) d=.ok (g x,c)/\I c):i9 (cW gt C J (xs.map e) d [])=.ok (xs.filterMap g):=by
 let h:∀(xs:G α) (a:G D) (d:aL),I d->a.length+xs.length<=1000->(∀x∈xs,∀d,I d->∃c,jb gt C J (e x) d=.ok (g x,c)/\I c)->cW gt C J (xs.map e) d a=.ok (a++xs.filterMap g):=by
  intro xs
  induction xs with
  |nil=>intro a d _ _ _;show Res.ok a=_;simp_all
  |cons x r j=>
   intro a d m i b;rw[UJ]at i;let(c,o,n):=b x UX d m;rw[UK,pp o ()];let f:(a++(g x).toList).length+r.length<=1000:=by
    rw[Uz];cases g x with
    |none=>rw[ab1,Wt];ext
    |some y=>rw[Option.toList_some,YR];ext
   rw[j _ c n f λy l=>b y (UN _ l),U3];cases q:g x with
   |none=>rw[aaS q];rfl
   |some y=>rw[aaT q];rfl
 rw[h xs [] d p (by simpa using i) b];rfl
def AC(a:cJ o=o):cJ (S (PV.fz d)::o)=S (.fz d)::o:=by show Fi _::cJ o=_;rw[a];rfl
def uA{α:Type}{d:FT}{k:FE}{c:aL}(e f:α->D)(p:α->Bool)(xs:G α)(i:xs.length<=1000)(l:cJ c=c)(g:∀x∈xs,d (S (.fz (e x))::c)=.ok (p x,S (.fz (e x))::c))(j:∀x∈xs,p x=R->k (S (.fz (e x))::c)=.ok (.fz (f x),S (.fz (e x))::c)):i9 (cW (gN 0) d k (xs.map e) (P::c) [])=.ok ((xs.filter p).map f):=by
 rw[zz e (λx=>if p x=R then S (f x)else P) (λm=>∃o,m=o::c) xs #[P,W] i ?_]
 .congr 1
  clear i g j
  induction xs with
  |nil=>rfl
  |cons x r h=>
   cases q:p x with
   |true=>rw[aaT (b:=f x) (by rw[ax q]),List.filter_cons_of_pos q,h];rfl
   |false=>rw[aaS (by rw[a4 (by rw[q];simp)]),List.filter_cons_of_neg (by rw[q];simp),h]
 .rintro x a m ⟨o,rfl⟩
  cases q:p x with
  |true=>show#[_,Hh W ((g x a).trans (by rw[q])) (j x a q) W (AC l),_,W]
  |false=>show#[_,RH W ((g x a).trans (by rw[q])) (AC l),_,W]
theorem yu(xs:G α):xs.filter (λ_=>R)=xs:=List.filter_eq_self.mpr λ_ _=>W
def iH{α:Type}(e f:α->D)(xs:G α)(b:xs.length<=1000)(h:cJ cp=cp)(g:∀x∈xs,fe (S (.fz (e x))::cp)=.ok (.fz (f x),S (.fz (e x))::cp)):i9 (cW (gN 0) cN fe (xs.map e) (P::cp) [])=.ok (xs.map f):=by rw[uA e f (λ_=>R) xs b h (λ_ _=>W) λx a _=>g x a,yu]
theorem i6(p:α->Bool):∀l:G α,ng (l.map λc=>Uv.bool (p c))=S (l.map p)
 |[]=>rfl
 |c::r=>by show(ng (r.map λc=>Uv.bool (p c))).map (p c::·)=_;rw[i6 p r];rfl
def lK(p:α->Bool)(l:G α):nG [.list (l.map λc=>Uv.bool (p c))]=S (.fz (.bool (l.all p))):=by show(ng _).map (λbs=>RV.fz (.bool (bs.all id)))=_;rw[i6];simp_all
theorem oB:∀ns:G Int,mG (ns.map Uv.int)=S ns
 |[]=>rfl
 |n::r=>by show(mG (r.map Uv.int)).map (n::·)=_;rw[oB r];rfl
abbrev Ac:=Nat->z Mn
abbrev Wq:=z (G Nat×Int×z (Nat×Int))
structure W4 where
 ac:Ac
 wt:Wq
 oc:z Int
def gj(ac:Ac):G (Nat×Mn):=(UM 5).filterMap λk=>(ac k).map λa=>(k,a)
def pD(p:Nat×Mn):D:=.tuple [nd p.1,mD p.2]
def rp:z (Nat×Int)->D
 |some (c,n)=>mD (.ZC c n)
 |none=>.tuple [.str "chord"]
def iQ:Wq->D
 |some (b,a,w)=>.tuple [.tuple (bq b),.int a,rp w]
 |none=>.none
def qY:z Int->D
 |some o=>.int o
 |none=>.none
def bU(s:W4):D:=.tuple [.tuple ((gj s.ac).map pD),iQ s.wt,qY s.oc]
inductive Yy where
 |down (k:Nat)
 |up (k:Nat)
 |turn
def b9:Yy->D
 |.down k=>.tuple [.str "down",nd k]
 |.up k=>.tuple [.str "up",nd k]
 |.turn=>.tuple [.str "turn",.int 0]
def jI:p∈gj ac↔p.1<5/\ac p.1=S p.2:=by
 ext gj;rw[X9];constructor
 .rintro⟨k,e,b⟩
  cases q:ac k with
  |none=>simp_all
  |some a=>rw[q]at b;ext b;show#[WE.mp e,q]
 .rintro⟨e,b⟩;show#[p.1,WE.mpr e,by rw[b];rfl]
theorem tZ(ac:Ac):(gj ac).length<=5:=List.length_filterMap_le _ _
def OX:Nat×Mn->z Int
 |(_,.Xa n)=>S n
 |_=>P
def wl(ac:Ac):Int:=(((gj ac).filterMap OX).foldl jX P).getD 0
def rC(ac:Ac):z Int->Int
 |some o=>o
 |none=>wl ac
def GI(ac:Ac):i9 (cW (gT 2 (MC (gN 0) (MC (gN 1) QU))) (aF (aG cX (aG aZ (ad 1) (~~~0)) (pC (.str "layer")))) (aG aZ (ad 1) (~~~1)) ((gj ac).map pD) [P,P] [])=.ok (((gj ac).filterMap OX).map .int):=by
 rw[zz pD (λp=>(OX p).map .int) (λg=>∃e b,g=[e,b]) (gj ac) #[P,P,W] (Vb (tZ ac) ()) ?_,List.map_filterMap];rintro⟨k,a⟩ _ g ⟨e,b,rfl⟩;let e1:=rO a;let e2:=D6 a;let f:aF (aG cX (aG aZ (ad 1) (~~~0)) (pC (.str "layer"))) [S (.fz (nd k)),S (.fz (mD a))]=.ok (a.acn,[S (.fz (nd k)),S (.fz (mD a))]):=by ext:0
 show#[[S (.fz (nd k)),S (.fz (mD a))],?_,_,_,W];cases a with
 |Xa n=>show Hh W f (aI (ag W) ay W W kG) W W
 |_=>show RH W f W
def wm(s:W4):db [bU s]=.ok (.fz (.int (rC s.ac s.oc))):=by
 show gR W ?_;let e2:aZ (bU s) (.int 2)=S (.fz (qY s.oc)):=rc;let e0:aZ (bU s) (.int 0)=S (.fz (.tuple ((gj s.ac).map pD))):=g7;ext gy;cases q:s.oc with
 |some o=>
  rw[q]at e2;let e3:nu (qY (S o)) .none=S (.fz (.bool R)):=W;ext:2
  .intro _;show gM (by ext:0) W W
  .intro h;ext h
 |none=>
  rw[q]at e2;let e3:nu (qY P) .none=S (.fz (.bool A)):=W;ext:2
  .intro h;ext h
  .intro _;show fu (d8 (dX (rv:=.fz (.int (wl s.ac))) (ai (dM (by ext:0) W (GI s.ac)) az) W ?_) W W);show(mG _).map _=_;rw[oB];rfl
def ri(b:Bd)(L k:Nat):Mn:=((b.ls[L]?.getD [])[k]?).getD .none
def look(b:Bd)(L:Int)(k:Nat):Mn:=if(ri b L.toNat k).isB=R then ri b 0 k else ri b L.toNat k
section
variable{b:Bd}(Z:VB b)
include Z
def LU{L k:Nat}(a:L<b.ls.length)(e:(k:Int)<b.n):∃l,b.ls[L]?=S l/\l[k]?=S (ri b L k):=by
 let g:=Z.vl L _ (UE a);let f:k<(b.ls[L]).length:=by ext
 show#[_,UE a,?_];ext ri;simp_all
def xz{L k:Nat}(e:L<b.ls.length)(a:(k:Int)<b.n):VM L b.ls.length (ri b L k):=by let(l,g,f):=LU Z e a;show(Z.vl L l g).2 _ (Vj f)
def Ei{L k:Nat}(e:L<b.ls.length)(a:(k:Int)<b.n):∃d,aZ (.tuple (b.ls.map i4)) (nd L)=S (.fz d)/\aZ d (nd k)=S (.fz (mD (ri b L k))):=by let(l,f,g):=LU Z e a;show#[i4 l,Ob (by rw[UG,f];rfl),Ob (by simp_all)]
def IJ{L:Int}{k:Nat}(i:0<=L)(h:L<b.ls.length)(e:(k:Int)<b.n):gI [bD b,.int L,nd k]=.ok (.fz (mD (look b L k))):=by
 obtain⟨n,rfl⟩:∃n:Nat,L=(n:Int):=#[L.toNat,by ext];let g:=Z.l1;let(d,e2,e3):=Ei Z (L:=n) () e;let(f,e4,e5):=Ei Z (L:=0) () e;let e1:aZ (bD b) (.int 1)=S (.fz (.tuple (b.ls.map i4))):=kG;let e6:=rO (ri b n k);let e7:=Ez (ri b n k);let e8:aZ (.tuple (b.ls.map i4)) (.int 0)=S (.fz f):=e4;let a:look b (n:Int) k=if(ri b n k).isB=R then ri b 0 k else ri b n k:=W
 rw[a];generalize ri b n k=m at e3 e6 e7 a;generalize ri b 0 k=m0 at e5 a;show gR W ?_;ext fA;ext:2
 .intro q;rw[ax q];show gM (by ext:0) W W
 .intro q;rw[a4 (by rw[q];simp)];show fu (d8 (by ext:0) W W)
def zx{L:Int}{k:Nat}(g:0<=L)(i:L<b.ls.length)(f:(k:Int)<b.n):VM L b.ls.length (look b L k)/\look b L k≠.below:=by
 let h:=Z.l1;let a:=xz Z (L:=0) (k:=k) () f;let v:=xz Z (L:=L.toNat) (k:=k) () f;let e:ri b 0 k≠.below:=λz=>by rw[z]at a;show a W
 rw[Zg g]at v;ext look;split
 .show#[?_,e]
  generalize ri b 0 k=m at a e;cases m with
  |below=>show bg W e
  |_=>show a
 .rename_i q;show#[v,λz=>?_];rw[z]at q;show q W
omit Z in
theorem C8(ks:b3 Nat)(a:ks.length<=5)(c:b3 Nat×Nat):aF (fG nG {dc 1 [0] (gq (ad 1)) (gN 0) cN (aG GS (ad 0) (aG aZ (ad 1) (~~~0)))}) [cL (.fz (Wk c)),cL (.fz (.tuple (bq ks)))]=.ok (ks.all λk=>decide (k∈c.1),[cL (.fz (Wk c)),cL (.fz (.tuple (bq ks)))]):=by
 have e:i9 (cW (gN 0) cN (aG GS (ad 0) (aG aZ (ad 1) (~~~0))) (bq ks) [Uo,cL (.fz (Wk c))] [])=.ok (ks.map λk=>.bool (decide (k∈c.1))):=iH nd (λk=>.bool (decide (k∈c.1))) ks (by ext) rfl λk _=>by have e0:aZ (Wk c) (.int 0)=cL (.fz (.tuple (bq c.1))):=g7;exact aI (rv:=.fz (.bool (decide (k∈c.1)))) (ag rfl) (by ext:0) rfl rfl (sS _ _)
 exact b8 (dX (rv:=.fz (.bool (ks.all λk=>decide (k∈c.1)))) (ds:=[.list (ks.map λk=>.bool (decide (k∈c.1)))]) (ai (dM (cs:=[Wk c]) (ds:=bq ks) (by ext:0) rfl e) az) rfl (lK _ _)) rfl
def eG(b:Bd)(a:G Nat):G (G Nat×Nat):=b.cs.filter λc=>a.all λk=>decide (k∈c.1)
def zU(a:o.length<=5):br [bD b,.tuple (bq o)]=.ok (.ow ((eG b o).map Wk)):=by let e2:aZ (bD b) (.int 2)=S (.fz (.tuple (b.cs.map Wk))):=rc;let e:=Z.c4;show gR W ?_;ext dD;show d8 (dM (cs:=[.tuple (bq o)]) (by ext:0) W (uA Wk Wk (λc=>o.all λk=>decide (k∈c.1)) b.cs () W (λc _=>C8 o a c) λc _ _=>ag W)) W W
def ny(a:G Nat):G Nat:=(je (a.map ZV)).map abk
omit Z in
theorem ph(ks:b3 Nat):(ny ks).Perm ks:=by have h:=(dS (ks.map ZV)).map abk;rw[Vo]at h;exact h.trans (by rw[show(abk∘ZV)=id from funext λx=>rfl,List.map_id])
omit Z in
theorem Ix(ks:b3 Nat):(je (ks.map ZV)).map Uv.int=bq (ny ks):=by unfold ny bq;rw[Vo];refine X0 λx a=>?_;obtain⟨n,_,rfl⟩:=Vt.mp ((dS _).mem_iff.mp a);rfl
omit Z in
theorem yH(ks:b3 Nat):(ny ks).Pairwise (·<=·):=by
 have h:∀l:b3 Int,l.Pairwise (·<=·)->(l.map abk).Pairwise (·<=·):=λl h=>by rw[Yi];exact h.imp λh=>by ext
 exact h _ (dk _)
omit Z in
theorem Jq(ks:b3 Nat):(ny ks).length=ks.length:=(ph ks).length_eq
omit Z in
theorem vg{ks:b3 Nat}(h:ks.length<64):L9.fq [.tuple (bq ks)]=cL (.ow (bq (ny ks))):=by
 have e:bq ks=(ks.map ZV).map Uv.int:=by rw[Vo];rfl
 show(match mG (bq ks)with
  |some a=>if a.length<64 then cL (RV.ow ((je a).map .int))else Uo
  |none=>Uo)=_
 rw[e,oB];dsimp only;rw[ax (by rw[Us];exact h),Ix]
def Qk(b:Bd)(a:G Nat):G Mn:=match b.cs.find? λc=>decide (c.1=ny a)with
 |some c=>.Vq c.2::UA (a.length - 1) .none
 |none=>a.map (ri b 0)
omit Z in
omit Z in
theorem Qs(n:Nat)(d:D):(UA n [d]).flatten=UA n d:=by
 induction n with
 |zero=>rfl
 |succ n a=>rw[VG,Ww,a];rfl
def Pi{n:b3 Nat}(G:1<=n.length)(F:n.length<=5)(B:∀k∈n,(k:Int)<b.n):d6 [bD b,.tuple (bq n)]=.ok (.ow ((Qk b n).map mD)):=by
 let e2:aZ (bD b) (.int 2)=S (.fz (.tuple (b.cs.map Wk))):=rc;let e1:aZ (bD b) (.int 1)=S (.fz (.tuple (b.ls.map i4))):=kG;let E:=Z.l1;let i:=vg (ks:=n) ();show gR W ?_;ext eK;let rt:∀c:b3 Nat×Nat,(aG cV (cC {bG {pC (.str "letter"),aG aZ (ad 2) (~~~1)}}) (aG fS (cC {pC (.tuple [(.str "none")])}) (aG nz (fG c9 {ad 1}) (~~~1)))) [S (.fz (bD b)),S (.fz (.tuple (bq n))),S (.fz (Wk c))]=.ok (.ow ((Mn.Vq c.2::UA (n.length - 1) Mn.none).map mD),[S (.fz (bD b)),S (.fz (.tuple (bq n))),S (.fz (Wk c))]):=λc=>by
  let l:aZ (Wk c) (.int 1)=S (.fz (.str (iX c.2))):=kG;let j:fS (.list [.tuple [.str "none"]]) (.int (((bq n).length:Int) - 1))=S (.ow (UA (n.length - 1) (.tuple [.str "none"]))):=by rw[fh,show((n.length:Int) - 1)=((n.length - 1:Nat):Int) by ext];show(NH () ()).trans (by rw[Qs])
  let y:cV (.list [mD (.Vq c.2)]) (.list (UA (n.length - 1) (.tuple [.str "none"])))=S (.ow ((Mn.Vq c.2::UA (n.length - 1) Mn.none).map mD)):=by show(if 1+(UA (n.length - 1) (Uv.tuple [.str "none"])).length<=1000000 then S (RV.ow ([mD (.Vq c.2)]++UA (n.length - 1) (Uv.tuple [.str "none"])))else P)=_;rw[VS,ax (),UK,List.map_replicate];rfl
  show aI (by ext:0) (aI (by ext:0) (aI (by ext:0) ay W W (mH _ _)) W W j) W W y
 let f:∀(e:b3 (b3 Nat×Nat)) (o:b4 PV),(∀c,e.find? (λc=>decide (c.1=ny n))=S c->nj (gN 2) (kM (aF (aG cX (fG rA {aG aZ (ad 2) (~~~0)}) (fG L9.fq {ad 1}))) (di (aG cV (cC {bG {pC (.str "letter"),aG aZ (ad 2) (~~~1)}}) (aG fS (cC {pC (.tuple [(.str "none")])}) (aG nz (fG c9 {ad 1}) (~~~1))))) dA) (e.map Wk) [S (.fz (bD b)),S (.fz (.tuple (bq n))),o]=.ok (.rt (.ow ((Mn.Vq c.2::UA (n.length - 1) Mn.none).map mD))))/\
   (e.find? (λc=>decide (c.1=ny n))=P->∃u,nj (gN 2) (kM (aF (aG cX (fG rA {aG aZ (ad 2) (~~~0)}) (fG L9.fq {ad 1}))) (di (aG cV (cC {bG {pC (.str "letter"),aG aZ (ad 2) (~~~1)}}) (aG fS (cC {pC (.tuple [(.str "none")])}) (aG nz (fG c9 {ad 1}) (~~~1))))) dA) (e.map Wk) [S (.fz (bD b)),S (.fz (.tuple (bq n))),o]=.ok (.nx [S (.fz (bD b)),S (.fz (.tuple (bq n))),u])):=by
  intro e
  induction e with
  |nil=>show λo=>#[λc h=>(by ext h),λ_=>#[o,W]]
  |cons c r A=>
   intro o;let C:aZ (Wk c) (.int 0)=S (.fz (.tuple (bq c.1))):=g7
   let a:aF (aG cX (fG rA {aG aZ (ad 2) (~~~0)}) (fG L9.fq {ad 1})) [S (.fz (bD b)),S (.fz (.tuple (bq n))),S (.fz (Wk c))]=.ok (decide (c.1=ny n),[S (.fz (bD b)),S (.fz (.tuple (bq n))),S (.fz (Wk c))]):=
    b8 (aI (dX (by ext:0) W W) (dX (by ext:0) W i) W W (tU _ _)) W
   rw[Vg];by_cases h:c.1=ny n
   .rw[a5 h]at a⊢;show#[λH t=>?_,λt=>(by ext t)];ext t;show((gN 2 (.fz (Wk c)) [S (.fz (bD b)),S (.fz (.tuple (bq n))),o]).bind λg=>_)=_;rw[C3,ey];show((kM _ _ _ [S (.fz (bD b)),S (.fz (.tuple (bq n))),S (.fz (Wk c))]).bind _)=_;rw[Sm a,tL (rt c) W];rfl
   .rw[a6 h]at a⊢
    let w:nj (gN 2) (kM (aF (aG cX (fG rA {aG aZ (ad 2) (~~~0)}) (fG L9.fq {ad 1}))) (di (aG cV (cC {bG {pC (.str "letter"),aG aZ (ad 2) (~~~1)}}) (aG fS (cC {pC (.tuple [(.str "none")])}) (aG nz (fG c9 {ad 1}) (~~~1))))) dA) ((c::r).map Wk) [S (.fz (bD b)),S (.fz (.tuple (bq n))),o]=nj (gN 2) (kM (aF (aG cX (fG rA {aG aZ (ad 2) (~~~0)}) (fG L9.fq {ad 1}))) (di (aG cV (cC {bG {pC (.str "letter"),aG aZ (ad 2) (~~~1)}}) (aG fS (cC {pC (.tuple [(.str "none")])}) (aG nz (fG c9 {ad 1}) (~~~1))))) dA) (r.map Wk) [S (.fz (bD b)),S (.fz (.tuple (bq n))),S (.fz (Wk c))]:=by show((gN 2 (.fz (Wk c)) [S (.fz (bD b)),S (.fz (.tuple (bq n))),o]).bind λg=>_)=_;rw[C3,ey];show((kM _ _ _ [S (.fz (bD b)),S (.fz (.tuple (bq n))),S (.fz (Wk c))]).bind _)=_;rw[Sj a];rfl
    rw[w];show A _
 let(z,m):=f b.cs P;let v:gq (aG aZ (ad 0) (~~~2)) [S (.fz (bD b)),S (.fz (.tuple (bq n))),P]=.ok (b.cs.map Wk,[S (.fz (bD b)),S (.fz (.tuple (bq n))),P]):=by ext:0
 ext Qk;cases q:b.cs.find? λc=>decide (c.1=ny n)with
 |some c=>show .eq (C7 ((yB v).trans (z c q))) #[W]
 |none=>let(u,m):=m q;show .eq (DW ((yB v).trans m)) ?_;show d8 (dM (by ext:0) W ?_) W W;rw[Vo];show iH nd (mD∘ri b 0) n () W λk p=>?_;let(d,l,j):=Ei Z (L:=0) () (B k p);let l:aZ (.tuple (b.ls.map i4)) (.int 0)=S (.fz d):=l;show aI (by ext:0) (ag W) W W j
end
end STP
local macro_rules|`(-($x))=>`(Option.some (.fz $x))
namespace STP
open PySem L2 L3
open L10
def iY(p:Nat×Mn):b5×SV:=(.inl (p.1:Int),.fz (mD p.2))
def kz(ac:Ac)(k:Nat)(o:z Mn):Ac:=λj=>if j=k then o else ac j
def dH:kz ac k o k=o:=by ext kz;simp_all
def fH(h:j≠k):kz ac k o j=ac j:=by ext kz;rw[a4 h]
def Cz(ac:Ac):(gj ac).Pairwise λp q=>p.1<q.1:=by
 ext gj;show af1 _ (λa g h p f q b=>?_) (abl);cases e:ac a with
 |none=>simp_all
 |some x=>
  cases i:ac g with
  |none=>simp_all
  |some y=>rw[e]at f;rw[i]at b;ext f;ext b;show h
def pY(ac:Ac):((gj ac).map (·.1)).Nodup:=by rw[ag6,Yi];show(Cz ac).imp λh=>UY h
def Ab{l:G (Nat×Mn)}(h:(l.map (·.1)).Nodup):l.Nodup:=by rw[ag6,Yi]at h;show h.imp λh e=>h (by rw[e])
theorem oJ{l:G (Nat×Mn)}(h:(l.map (·.1)).Nodup)(hm:∀p,p∈l↔p.1<5/\ac p.1=S p.2):l.Perm (gj ac):=
 (List.perm_ext_iff_of_nodup (Ab h) (Ab (pY ac))).mpr λp=>(hm p).trans jI.symm
section
variable{Y:b3 (Nat×Mn)}{X:Ac}(Z:Y.Perm (gj X))
include Z
theorem jc:p∈Y↔p.1<5/\X p.1=S p.2:=Z.mem_iff.trans jI
theorem Ey:(Y.map (·.1)).Nodup:=(Z.map (·.1)).nodup_iff.mpr (pY X)
def DU:Y.length<=5:=by rw[Z.length_eq];show tZ X
def lj{k:Nat}(f:k<5):iK (Y.map iY) (.inl (k:Int))=(X k).map λa=>SV.fz (mD a):=by
 ext iK;cases q:(Y.map iY).find? λb=>decide (b.1=(.inl (k:Int):b5))with
 |none=>
  cases e:X k with
  |none=>rfl
  |some a=>let:=List.find?_eq_none.mp q (iY (k,a)) (Vt.mpr #[(k,a),(jc Z).mpr #[f,e],W]);show bg (a5 W) this
 |some b=>
  let(p,i,rfl):=Vt.mp (aax q);let h:=a7 (List.find?_some (p:=λb:b5×SV=>decide (b.1=(.inl (k:Int):b5))) q);let g:p.1=k:=by let:=Sum.inl.inj h;ext
  rw[<-g,((jc Z).mp i).2];rfl
def Km{k:Nat}(o:k<5):∃c:G (Nat×Mn),iR (Y.map iY) (.inl (k:Int)) (.fz (mD a))=c.map iY/\c.Perm (gj (kz X k (S a))):=by
 ext iR;let i:∀p:Nat×Mn,((iY p).1=(.inl (k:Int):b5))↔p.1=k:=λp=>#[λh=>by let:=Sum.inl.inj h;ext,λh=>by rw[<-h];rfl];split
 .rename_i h
  show#[Y.map λp=>if p.1=k then(k,a)else p,?_,oJ ?_ λp=>?_]
  .rw[Vo,Vo]
   show X0 λp _=>?_;show(if(iY p).1=(.inl (k:Int):b5)then((iY p).1,SV.fz (mD a))else iY p)=iY (if p.1=k then(k,a)else p);by_cases e:p.1=k
   .rw[ax ((i p).mpr e),ax e,(i p).mpr e];rfl
   simp_all
  .rw[Vo,show Y.map ((·.1)∘λp:Nat×Mn=>if p.1=k then(k,a)else p)=Y.map (·.1)from X0 λp _=>by
    show(if p.1=k then(k,a)else p).1=p.1;split
    .rename_i e;show e.symm
    .rfl]
   show Ey Z
  .let(w,l,j):=ZO.mp h
   let(n,v,rfl):=Vt.mp l;let b:=(i n).mp (a7 j);rw[Vt];constructor
   .rintro⟨r,u,rfl⟩
    split
    .show#[o,dH]
    .rename_i e;let:=(jc Z).mp u;show#[this.1,by rw[fH e];show this.2]
   .rintro⟨f,g⟩
    by_cases e:p.1=k
    .rw[e,dH]at g;show#[n,v,?_];rw[ax b,<-e,UI g]
    .rw[fH e]at g;show#[p,(jc Z).mpr #[f,g],by rw[a4 e]]
 .rename_i h
  let B:=λp m e=>h (ZO.mpr #[iY p,Vt.mpr #[p,m,W],a5 ((i p).mpr e)]);show#[Y++[(k,a)],by rw[UP];rfl,oJ ?_ λp=>?_]
  .rw[UP,Yj];show#[Ey Z,V8.mpr #[V2,Y3],λx t y q=>?_];let(p,b,rfl):=Vt.mp t;rw[Ve.mp q];show B p b
  .rw[VD,Ve]
   constructor
   .rintro(b|rfl)
    .let:=(jc Z).mp b;show#[this.1,by rw[fH (B p b)];show this.2]
    .show#[o,dH]
   .rintro⟨b,f⟩
    by_cases e:p.1=k
    .rw[e,dH]at f;show .inr (by rw[<-e,UI f])
    .rw[fH e]at f;show .inl ((jc Z).mpr #[b,f])
def C9{k:Nat}:∃c:G (Nat×Mn),kj (Y.map iY) (.inl (k:Int))=c.map iY/\c.Perm (gj (kz X k P)):=by
 let g:∀p:Nat×Mn,((iY p).1=(.inl (k:Int):b5))↔p.1=k:=λp=>#[λh=>by let:=Sum.inl.inj h;ext,λh=>by rw[<-h];rfl];show#[Y.filter λp=>decide (p.1≠k),?_,oJ ?_ λp=>?_]
 .ext kj;rw[List.filter_map];congr 1;show List.filter_congr λp _=>?_;show decide_eq_decide.mpr (not_congr (g p))
 .show aj9 ((List.filter_sublist).map _) (Ey Z)
 .rw[Ws,jc Z,decide_eq_true_eq]
  constructor
  .rintro⟨⟨b,a⟩,f⟩;show#[b,by rw[fH f];show a]
  .rintro⟨b,a⟩
   by_cases e:p.1=k
   .rw[e,dH]at a;ext a
   .rw[fH e]at a;show#[#[b,a],e]
def EF:aA yn ((Y.map iY).map (·.1))=S (Y.map λp=>(p.1:Int)):=by
 clear Z
 induction Y with
 |nil=>rfl
 |cons p r a=>rw[UK,UK];ext aA;rw[a];rfl
def F0:je (Y.map λp=>(p.1:Int))=(gj X).map λp=>(p.1:Int):=by show jx ((dS _).trans (Z.map _)) (dk _) ?_;rw[Yi];show(Cz X).imp λh=>by ext
end
abbrev Sn:=G (Nat×Bool)
def nJ(ac:Ac)(a:Mn):Bool:=decide (a∈(gj ac).map (·.2))
def pJ(ac:Ac):Mn->Sn
 |.Vq c=>if nJ ac (.Vq c)=R then[]else[(c,R)]
 |_=>[]
def Nj(ac:Ac):Mn->Sn
 |.Vq c=>if nJ ac (.Vq c)=R then[]else[(c,A)]
 |_=>[]
def gw(p:W4×Sn)(k:Nat)(a:Mn):W4×Sn:=({p.1 with ac:=kz p.1.ac k (S a)},p.2++pJ p.1.ac a)
def go(p:W4×Sn)(k:Nat):W4×Sn:=match p.1.ac k with
 |some a=>({p.1 with ac:=kz p.1.ac k P},p.2++Nj (kz p.1.ac k P) a)
 |none=>p
def ke(p:W4×Sn)(a:G (Nat×Mn)):W4×Sn:=a.foldl (λp q=>gw p q.1 q.2) p
def gS(b:Bd)(a:G Nat):z (Nat×Int)->G Mn
 |some (_,n)=>[.Xa n]
 |none=>Qk b a
def c8(b:Bd)(p:W4×Sn):W4×Sn:=match p.1.wt with
 |none=>p
 |some (a,_,w)=>ke ({p.1 with wt:=P},p.2) (a.zip (gS b a w))
def GU:Wq->Nat->Bool
 |some (a,_,_),k=>decide (k∈a)
 |none,_=>A
def D0(b:Bd)(s:W4)(k:Nat):Bool:=match s.wt with
 |some (a,_,P)=>decide (rC s.ac s.oc=0)&& !(eG b (a++[k])).isEmpty
 |_=>A
def u8(b:Bd)(p:W4×Sn)(k:Nat):W4×Sn:=match p.1.wt with
 |some (a,g,_)=>if(eG b (a++[k])).map (·.1.length)=[(a++[k]).length]then c8 b ({p.1 with wt:=S (a++[k],g,P)},p.2)else({p.1 with wt:=S (a++[k],g,P)},p.2)
 |none=>p
def iW(s:W4)(m:Mn):W4:=if(m.acn||m.isO)=R then s else{s with oc:=P}
def xi(b:Bd)(L:Int)(p:W4×Sn)(k:Nat):Mn->W4×Sn
 |.ZC c n=>({p.1 with wt:=S ([k],0,S (c,n))},p.2)
 |.Vq c=>if(decide (L=0)&& !(eG b [k]).isEmpty)=R then({p.1 with wt:=S ([k],0,P)},p.2)else gw p k (.Vq c)
 |.once n=>({(gw p k .none).1 with oc:=S n},(gw p k .none).2)
 |m=>gw p k m
def Ma(b:Bd)(p:W4×Sn)(k:Nat):W4×Sn:=
 xi b (rC p.1.ac p.1.oc) (iW p.1 (look b (rC p.1.ac p.1.oc) k),p.2) k (look b (rC p.1.ac p.1.oc) k)
def qS(b:Bd)(p:W4×Sn)(k:Nat):W4×Sn:=
 if((p.1.ac k).isSome||GU p.1.wt k)=R then p else if D0 b p.1 k=R then u8 b p k else Ma b (c8 b p) k
def dn(b:Bd)(p:W4×Sn)(k:Nat):W4×Sn:=match p.1.wt with
 |some (_,_,P)=>c8 b p
 |some (_,_,S (c,_))=>gw ({p.1 with wt:=P},p.2) k (.Vq c)
 |none=>p
def Bs(b:Bd)(p:W4×Sn)(k:Nat):W4×Sn:=go (if GU p.1.wt k=R then dn b p k else p) k
def mW(b:Bd)(p:W4×Sn):W4×Sn:=match p.1.wt with
 |none=>p
 |some (a,g,w)=>if g+1=b.wt then c8 b ({p.1 with wt:=S (a,g+1,w)},p.2)else({p.1 with wt:=S (a,g+1,w)},p.2)
def aw(b:Bd)(s:W4):Yy->W4×Sn
 |.down k=>qS b (s,[]) k
 |.up k=>Bs b (s,[]) k
 |.turn=>mW b (s,[])
def HI(b:Bd)(s:W4):G (Str×SV):=[("bed",.fz (bD b)),("acts",.rf 1),("waiting",.fz (iQ s.wt)),("once",.fz (qY s.oc)),("sent",.rf 2)]
def qU(p:Nat×Bool):D:=.tuple [.str (iX p.1),.str (if p.2=R then "down" else "up")]
def cH(b:Bd)(s:W4)(sn:Sn)(a:G (Nat×Mn))(J:aJ):aJ:=.obj "Hand" (HI b s):: .Zm (a.map iY):: .lst ((sn.map qU).map .fz)::J
def HS(b:Bd)(p:W4×Sn)(c:aJ):Prop:=∃a J,a.Perm (gj p.1.ac)/\c=cH b p.1 p.2 a J
section
variable{b:Bd}{s:W4}{sn:Sn}{Y:b3 (Nat×Mn)}{J:aJ}{ρ:aP}{i:Nat}{X:aJ}{p:W4×Sn}{k:Nat}{a:Mn}
def OP:(HI b s).lookup ("bed":Str)=-(bD b):=by rfl
def HL:(HI b s).lookup ("acts":Str)=S (.rf 1):=by rfl
def Je:(HI b s).lookup ("waiting":Str)=-(iQ s.wt):=by rfl
def JM:(HI b s).lookup ("once":Str)=-(qY s.oc):=by rfl
def JB:(HI b s).lookup ("sent":Str)=S (.rf 2):=by rfl
def SM(m:Str):Bool:=(m== "bed"||m== "acts"||m== "waiting"||m== "once"||m== "sent")==A
def Rh(h:SM m=R):(HI b s).lookup m=P:=by unfold SM at h;simp only[beq_iff_eq,ab2]at h;let((((l,j),g),f),e):=h;ext HI;simp_all
theorem mq(h:ρ[i]?=S (S (.rf 0))):aV "Hand" "bed" (am i) ρ (cH b s sn Y J)=.ok (.fz (bD b)) (cH b s sn Y J):=iA (aO h) W OP
theorem fR(h:ρ[i]?=S (S (.rf 0))):aV "Hand" "acts" (am i) ρ (cH b s sn Y J)=.ok (.rf 1) (cH b s sn Y J):=iA (aO h) W HL
theorem bp(h:ρ[i]?=S (S (.rf 0))):aV "Hand" "waiting" (am i) ρ (cH b s sn Y J)=.ok (.fz (iQ s.wt)) (cH b s sn Y J):=iA (aO h) W Je
theorem zc(h:ρ[i]?=S (S (.rf 0))):aV "Hand" "once" (am i) ρ (cH b s sn Y J)=.ok (.fz (qY s.oc)) (cH b s sn Y J):=iA (aO h) W JM
theorem uC(h:ρ[i]?=S (S (.rf 0))):aV "Hand" "sent" (am i) ρ (cH b s sn Y J)=.ok (.rf 2) (cH b s sn Y J):=iA (aO h) W JB
theorem jO(w:Wq)(h:ρ[i]?=S (S (.rf 0)))(e:o ρ X=.ok (.fz (iQ w)) (cH b s sn Y J)):d4 "Hand" "waiting" (am i) o ρ X=.ok (.nx ρ) (cH b {s with wt:=w} sn Y J):=
 (lL e (aO h) W (by show Uy W)).trans (by rfl)
theorem y9(o:z Int)(h:ρ[i]?=S (S (.rf 0)))(e:C ρ X=.ok (.fz (qY o)) (cH b s sn Y J)):d4 "Hand" "once" (am i) C ρ X=.ok (.nx ρ) (cH b {s with oc:=o} sn Y J):=
 (lL e (aO h) W (by show Uy W)).trans (by rfl)
def bx(e:HS b p X)(hm:SM m=R)(h:ρ[i]?=S (S (.rf 0)))(d:fa ρ X=.ok xs X)(c:(SV.rf 0::xs).length=n)(f:F (.rf 0::xs) X=.ok x o):aK "Hand" m F n (am i) fa ρ X=.ok x o:=by let(Y,J,g,rfl):=e;show KH (aO h) W (Rh hm) d c f
def F9(Y:G (Nat×Mn)):(Y.map iY).map (·.2)=((Y.map (·.2)).map mD).map SV.fz:=by rw[Vo,Vo,Vo];rfl
def AK(ac:Ac):Prop:=∀k a,ac k=S a->k<5/\LB a
def Cr(f:HS b p X)(g:AK p.1.ac)(d:LB a):∃c,bw [.rf 0,.fz (mD a)] X=.ok (.fz (.bool (nJ p.1.ac a))) c/\HS b p c:=by
 let(Y,J,e,rfl):=f;let e1:nJ p.1.ac a=decide (a∈Y.map (·.2)):=decide_eq_decide.mpr (e.map (·.2)).symm.mem_iff;let lb:∀m∈Y.map (·.2),LB m:=λm hm=>by let(q,h,rfl):=Vt.mp hm;show(g _ _ ((jc e).mp h).2).2
 show#[cH b p.1 p.2 Y (J++[.lst ((Y.map iY).map (·.2))]),?_,Y,_,e,W];rw[e1];show ir W (gr (bT (af (ag W)) (Kv (fR W) W) (ko W (cz (by rw[F9];show aU)) (JP d lb))))
theorem zR(f:sn.length<1000)(h:ρ[i]?=S (S (.rf 0)))(e:o ρ (cH b s sn Y J)=.ok (.fz (qU (c,d))) (cH b s sn Y J)):jf (aV "Hand" "sent" (am i)) o ρ (cH b s sn Y J)=.ok (.fz .none) (cH b s (sn++[(c,d)]) Y J):=
 (oU (uC h) W e W (by rw[Us,Us];ext)).trans (by ext cH;rw[UP,UP];rfl)
def pH(e:Y.Perm (gj s.ac))(h:k<5)(o:ρ[0]?=S (S (.rf 0)))(n:ρ[1]?=S (-(nd k)))(m:ρ[2]?=S (-(mD a))):∃c:G (Nat×Mn),c.Perm (gj (kz s.ac k (S a)))/\sH (aV "Hand" "acts" (am 0)) (ae (ad 1)) (ae (ad 2)) ρ (cH b s sn Y J)=.ok (.nx ρ) (cH b {s with ac:=kz s.ac k (S a)} sn c J):=by let(c,l,j):=Km e h;let g:ad 1 (a8 ρ)=.ok (.fz (nd k),a8 ρ):=ag (by ext a8;rw[UG,n];rfl);let f:ad 2 (a8 ρ)=.ok (.fz (mD a),a8 ρ):=ag (by ext a8;rw[UG,m];rfl);show#[c,j,(Jg (af f) (fR o) (af g) W W (by rw[Us];let:=DU e;ext)).trans ?_];rw[l];rfl
def n6(l:HS b p X)(v:AK p.1.ac)(x:LB a)(m:k<5)(u:p.2.length<1000):∃d,a9 [.rf 0,.fz (nd k),.fz (mD a)] X=.ok (.fz .none) d/\HS b (gw p k a) d:=by
 let e0:=rO a;let e1:=jR a;cases q:a.isL with
 |false=>
  let(Y,J,g,rfl):=l;rw[q]at e1;let(f,h,w):=pH (ρ:=[S (.rf 0),-(nd k),-(mD a)]) g m W W W;show#[_,lg W (cb (fE (gl (bS (by ext:0))) eT) w),f,J,h,?_];let:pJ p.1.ac a=[]:=by ext a<;>first|rfl|ext q
  ext gw;simp_all
 |true=>
  rw[q]at e1;let(j,h,y):=Cr l v x;let t:∀r,nJ p.1.ac a=r->(kB (bM (aF (aG cX (aG aZ (ad 2) (~~~0)) (pC (.str "letter"))))) (kJ (aQ (aK "Hand" "has_act" bw 2 (am 0) (ah (ae (ad 2)) aC))))) [S (.rf 0),-(nd k),-(mD a)] X=.ok (!r) j:=λr e=>by rw[e]at h;show hW (bS (by ext:0)) (jN (aH (bx l (by rfl) W (aj (af (ag W)) aD) W h)))
  let(Y,J,g,rfl):=y;cases B:nJ p.1.ac a with
  |true=>
   let(f,o,n):=pH (ρ:=[S (.rf 0),-(nd k),-(mD a)]) g m W W W;show#[_,lg W (cb (fE (t R B) eT) n),f,J,o,?_];let:pJ p.1.ac a=[]:=by
    ext a<;>first|ext q|skip
    show(if nJ p.1.ac _=R then _ else _)=_;simp_all
   ext gw;simp_all
  |false=>
   ext a<;>first|ext q|skip
   rename_i c;let(f,o,n):=pH (ρ:=[S (.rf 0),-(nd k),-(mD (.Vq c))]) (sn:=p.2++[(c,R)]) g m W W W;let z:aZ (mD (.Vq c)) (.int 1)=-(.str (iX c)):=kG;show#[_,lg W (cb (dC (t A B) (eV (zR u W (af (show _=Res.ok (PV.fz (.tuple [.str (iX c),.str "down"]),_) by ext:0))))) n),f,J,o,?_];let:pJ p.1.ac (.Vq c)=[(c,R)]:=by show(if nJ p.1.ac _=R then _ else _)=_;simp_all
   ext gw;rw[this]
end
end STP
namespace STP
open PySem L2 L3 L10
def VA(a:Int):Mn->Prop
 |.Vq c=>c<26
 |.Xa n=>1<=n/\n<a
 |.none=>True
 |_=>False
def VA.lb(h:VA nL m):LB m:=by
 cases m with
 |Vq c=>show h
 |ZC c n=>show h.elim
 |_=>trivial
structure SA(b:Bd)(s:W4):Prop where
 ac:∀k a,s.ac k=S a->(k:Int)<b.n/\VA b.ls.length a
 oc:∀o,s.oc=S o->1<=o/\o<b.ls.length
structure WV(b:Bd)(ac:Ac)(ks:G Nat)(g:Int)(w:z (Nat×Int)):Prop where
 ne:ks≠[]
 nd:ks.Nodup
 kn:∀k∈ks,(k:Int)<b.n
 kf:∀k∈ks,ac k=P
 g0:0<=g
 tp:∀c n,w=S (c,n)->c<26/\(1<=n/\n<b.ls.length)/\ks.length=1
 ch:w=P->∀k∈ks,B8 (b.ls.headD []) k=R
structure SW(b:Bd)(s:W4):Prop where
 sa:SA b s
 wt:∀ks g w,s.wt=S (ks,g,w)->WV b s.ac ks g w/\g<b.wt
def xh{c:G Nat}(hd:c.Nodup)(h:∀k∈c,k<n):c.length<=n:=by rw[<-Jq c];let b:=(ph c).nodup_iff.mpr hd;show IG (((yH c).and b).imp λh=>by ext) λk a=>h k ((ph c).mem_iff.mp a)
section
variable{b:Bd}(Z:VB b){s:W4}{p:W4×Sn}{Y:b3 Nat}{g:Int}{w:b4 (Nat×Int)}{X:Ac}{k:Nat}{a:Mn}
include Z
theorem WV.len(h:WV b X Y g w):Y.length<=5:=xh h.nd λk e=>by let:=h.kn k e;let:=Z.n5;ext
omit Z in
theorem WV.ajC(h:WV b X Y g w):1<=Y.length:=List.length_pos_iff.mpr h.ne
theorem SA.ak(h:SA b s):AK s.ac:=λk a e=>by let:=h.ac k a e;let:=Z.n5;show#[by ext,(h.ac k a e).2.lb]
omit Z in
theorem SA.cm(h:SA b p.1)(f:(k:Int)<b.n)(ha:VA b.ls.length a):SA b (gw p k a).1:=by
 refine⟨λj x e=>?_,h.oc⟩;by_cases z:j=k
 .subst z;have i:cL a=cL x:=(dH (ac:=p.1.ac) (k:=j) (o:=cL a)).symm.trans e;cases i;exact⟨f,ha⟩
 .exact h.ac j x ((fH z).symm.trans e)
omit Z in
theorem SA.gg(h:SA b p.1):SA b (go p k).1:=by
 unfold go;split
 .refine⟨λj x e=>?_,h.oc⟩
  by_cases z:j=k
  .subst z;exact bg ((dH (ac:=p.1.ac) (k:=j) (o:=Uo)).symm.trans e) (by simp)
  .exact h.ac j x ((fH z).symm.trans e)
 .exact h
omit Z in
theorem pk:(gw p k a).2.length<=p.2.length+1:=by
 show(p.2++pJ p.1.ac a).length<=_;rw[Uz];have:(pJ p.1.ac a).length<=1:=by
  cases a with
  |Vq c=>show(if _ then _ else _:Sn).length<=1;split<;>simp
  |_=>simp[pJ]
 ext
omit Z in
theorem BX(e:b3 (Nat×Mn)):∀p:W4×Sn,(ke p e).2.length<=p.2.length+e.length:=by
 induction e with
 |nil=>exact λp=>UC _
 |cons q r f=>intro p;have i:=f (gw p q.1 q.2);have h:=pk (p:=p) (k:=q.1) (a:=q.2);show(ke (gw p q.1 q.2) r).2.length<=_;rw[UJ];ext
omit Z in
theorem SA.cms(e:b3 (Nat×Mn)):∀{p:W4×Sn},SA b p.1->(∀q∈e,(q.1:Int)<b.n/\VA b.ls.length q.2)->SA b (ke p e).1/\(ke p e).1.wt=p.1.wt/\(ke p e).1.oc=p.1.oc:=by
 induction e with
 |nil=>exact λh _=>⟨h,rfl,rfl⟩
 |cons q r j=>intro p h f;have i:=f q UX;exact j (h.cm i.1 i.2) λx l=>f x (UN _ l)
def Om(h:B8 (b.ls.headD []) k=R):∃c,ri b 0 k=.Vq c:=by
 let i:=Z.l1;obtain⟨f,r,e⟩:∃f r,b.ls=f::r:=by
  cases q:b.ls with
  |nil=>rw[q]at i;ext i
  |cons l r=>show#[l,r,W]
 unfold B8 at h;ext ri;rw[e]at h⊢;rw[aa0,acv];rw[List.headD_cons]at h;cases q:f[k]? with
 |none=>rw[q]at h;ext h
 |some m=>
  rw[q]at h;cases m with
  |Vq c=>show#[c,W]
  |_=>ext h
def IR(f:(k:Int)<b.n)(h:B8 (b.ls.headD []) k=R):VA b.ls.length (ri b 0 k):=by let i:=Z.l1;let(c,e):=Om Z h;let:=xz Z (L:=0) () f;rw[e]at this⊢;show this
def Pw(h:WV b X Y g P):∀m∈Qk b Y,VA b.ls.length m:=by
 intro m hm;unfold Qk at hm;split at hm
 .rename_i c f
  rcases U5.mp hm with rfl|hm
  .show(Z.vc c (aax f)).2.2.2
  .rw[(List.mem_replicate.mp hm).2];trivial
 .let(j,e,rfl):=Vt.mp hm;show IR Z (h.kn j e) (h.ch W j e)
def zQ(h:WV b X Y g w):∀q∈Y.zip (gS b Y w),(q.1:Int)<b.n/\VA b.ls.length q.2:=by
 intro q f;let e:=XW f;show#[h.kn _ e.1,?_];cases w with
 |none=>show Pw Z h _ e.2
 |some i=>let(c,n):=i;rw[Ve.mp e.2];show(h.tp c n W).2.1
def WD(b:Bd)(s:W4):Prop:=∀Y g w,s.wt=S (Y,g,w)->WV b s.ac Y g w
def ji(h:SA b p.1)(f:WD b p.1):SW b (c8 b p).1/\(c8 b p).1.wt=P/\(c8 b p).2.length<=p.2.length+5/\(c8 b p).1.oc=p.1.oc:=by
 ext c8;split
 .rename_i q;show#[#[h,λY g w e=>by simp_all],q,Nat.le_add_right _ _,W]
 .rename_i Y g w q
  let v:=f Y g w q;let(l,j,i):=SA.cms (Y.zip (gS b Y w)) (p:=({p.1 with wt:=P},p.2)) #[h.ac,h.oc] (zQ Z v);show#[#[l,λ_ _ _ e=>?_],j,?_,i]
  .simp_all
  .let:=BX (Y.zip (gS b Y w)) ({p.1 with wt:=P},p.2)
   let m:=v.len Z
   grind
omit Z in
theorem AA:∀(l:b3 Int) (m:b4 Int),l.foldl jX m=m\/∃x∈l,l.foldl jX m=cL x
 |[],m=>.inl rfl
 |x::r,m=>by
  rw[YF];rcases AA r (jX m x)with h|⟨y,hy,h⟩
  .rw[h]
   cases m with
   |none=>exact .inr ⟨x,UX,rfl⟩
   |some z=>
    show cL (if x>z then x else z)=cL z\/_;split
    .exact .inr ⟨x,UX,by show cL (if x>z then x else z)=_;rename_i q;rw[ax q]⟩
    .exact .inl rfl
  .exact .inr ⟨y,UN _ hy,h⟩
omit Z in
theorem AJ:∀(l:b3 Int) (m:b4 Int),(∀x∈l,∃y,l.foldl jX m=cL y/\x<=y)/\∀z,m=cL z->∃y,l.foldl jX m=cL y/\z<=y
 |[],m=>⟨λx f=>(by cases f),λz h=>⟨z,h,Yo _⟩⟩
 |x::r,m=>by
  rw[YF];obtain⟨o,n⟩:=AJ r (jX m x);have j:∃z,jX m x=cL z/\x<=z/\∀u,m=cL u->u<=z:=by
   cases m with
   |none=>exact⟨x,rfl,Yo _,λu h=>by cases h⟩
   |some u=>
    refine⟨if x>u then x else u,rfl,?_,λv h=>?_⟩
    .split<;>ext
    .cases h;split<;>ext
  obtain⟨z,e1,e2,e3⟩:=j;obtain⟨y,e4,e5⟩:=n z e1;refine⟨λv e=>?_,λu i=>⟨y,e4,by have:=e3 u i;ext⟩⟩;rcases U5.mp e with rfl|e
  .exact⟨y,e4,by ext⟩
  .exact o v e
omit Z in
theorem zw{X:Ac}{n:Int}:n∈(gj X).filterMap OX↔∃k,k<5/\X k=cL (.Xa n):=by
 rw[X9];constructor
 .rintro⟨⟨k,m⟩,f,e⟩
  have h:=jI.mp f;cases m with
  |Xa x=>have:x=n:=UI e;subst this;exact⟨k,h.1,h.2⟩
  |_=>cases e
 .rintro⟨k,f,e⟩;exact⟨(k,.Xa n),jI.mpr ⟨f,e⟩,rfl⟩
def G1(h:SA b s):0<=wl s.ac/\wl s.ac<b.ls.length/\(∀k n,s.ac k=S (.Xa n)->n<=wl s.ac)/\(wl s.ac=0\/∃k,s.ac k=S (.Xa (wl s.ac))):=by
 let l:=Z.l1;let o:=Z.n5;ext wl;generalize hm:((gj s.ac).filterMap OX).foldl jX P=m;let i:=(AJ ((gj s.ac).filterMap OX) P).1;let f:=AA ((gj s.ac).filterMap OX) P;rw[hm]at i f;let up:∀k n,s.ac k=S (.Xa n)->∃y,m=S y/\n<=y:=λk n e=>i n (zw.mpr #[k,by let:=(h.ac k _ e).1;ext,e]);cases m with
 |none=>show#[Yo _,by show(0:Int)<_;ext,λk n e=>?_,.inl W];let(y,e2,_):=up k n e;ext e2
 |some x=>
  rcases f with f|⟨y,q,f⟩
  .ext f
  .ext f;let(k,_,e):=zw.mp q;let:=(h.ac k _ e).2;let:1<=x/\x<b.ls.length:=this;show#[by show 0<=x;ext,by show x<_;ext,λk n e=>?_,.inr #[k,e]];let(y,e2,j):=up k n e;ext e2;show j
def Gq(h:SA b s):0<=rC s.ac s.oc/\rC s.ac s.oc<b.ls.length:=by
 cases q:s.oc with
 |none=>let:=G1 Z h;show#[this.1,this.2.1]
 |some o=>let:=h.oc o q;show#[by show 0<=o;ext,this.2]
end
section
variable{b:Bd}{s:W4}{Q:Sn}{Y:b3 (Nat×Mn)}{J:aJ}{T:aP}{i:Nat}{X:aJ}{p:W4×Sn}{k:Nat}{a:Mn}
def xH(h:f x=S y):aA f [x]=S [y]:=by ext aA;rw[h];rfl
def hV:(l++[c]).set l.length o=l++[o]:=by simp
def mh(f:HS b p X):∃c,bt [.rf 0] X=.ok (.fz (bU p.1)) c/\HS b p c:=by
 let(Y,J,e,rfl):=f;let h:=DU e;let j:jY (oW (aV "Hand" "acts" (am 0))) [S (.rf 0)] (cH b p.1 p.2 Y J)=.ok ((gj p.1.ac).map λq=>nd q.1) (cH b p.1 p.2 Y (J++[.dead])):=by
  show(Dj (ds:=(gj p.1.ac).map λq=>nd q.1) (JX (fR W) W (EF e) (by rw[Us];ext)) ?_).trans ?_
  .rw[F0 e];show aU.trans ?_;rw[Vo,Vo];rfl
  .rw[hV];rfl
 let l:ce (fw 0) hG (kr (ah (ae (ad 0)) (ah (qC (aV "Hand" "acts" (am 1)) (ae (ad 0))) aC))) ((gj p.1.ac).map λq=>nd q.1) [P,S (.rf 0)] (cH b p.1 p.2 Y (J++[.dead])) []=.ok (((gj p.1.ac).map pD).map .fz) (cH b p.1 p.2 Y (J++[.dead])):=by show(mr (λq:Nat×Mn=>nd q.1) (λq=>.fz (pD q)) _ (λT=>∃o,T=[o,S (.rf 0)]) (gj p.1.ac) _ [] #[P,W] (by let:=tZ p.1.ac;grind) ?_).trans (by rw[Vo];rfl);rintro q g T ⟨o,rfl⟩;let hm:=jI.mp g;show#[[-(nd q.1),S (.rf 0)],W,W,?_,_,W];show tq (aj (af (ag W)) (aj (JV (fR W) (af (ag W)) W W (by rw[lj e hm.1,hm.2];rfl)) aD)) (Uy W)
 let tp:pL gp (ah (jj 1 [0] (jY (oW (aV "Hand" "acts" (am 0)))) (fw 0) hG (kr (ah (ae (ad 0)) (ah (qC (aV "Hand" "acts" (am 1)) (ae (ad 0))) aC)))) aC) [S (.rf 0)] (cH b p.1 p.2 Y J)=.ok (.fz (.tuple ((gj p.1.ac).map pD))) (cH b p.1 p.2 Y (J++[.dead]++[.lst (((gj p.1.ac).map pD).map .fz)])):=
  rT (aj (uj j l) aD) (xH (cz aU)) W
 show#[_,ir W (gr (tq (aj tp (aj (bp W) (aj (zc W) aD))) (Uy W))),Y,_,e,W]
def Ec(f:HS b p X):bP [.rf 0,.fz (nd k)] X=.ok (.fz (.bool (GU p.1.wt k))) X:=by
 let(Y,J,h,rfl):=f;show ir W (gr ?_);cases q:p.1.wt with
 |none=>
  let e1:nu (iQ p.1.wt) .none=-(.bool A):=by rw[q];rfl
  show B1 (aH (bT (bp W) (af ay) (bN e1)))
 |some x=>
  let(e,g,w):=x;let e1:nu (iQ p.1.wt) .none=-(.bool R):=by rw[q];rfl
  let e2:aZ (iQ p.1.wt) (.int 0)=-(.tuple (bq e)):=by rw[q];show g7
  show se (aH (bT (bp W) (af ay) (bN e1))) (bT (af (ag W)) (b7 (bp W) (af ay) e2) (bN (sS _ _)))
def QS(E:HS b p X)(o:AK p.1.ac)(N:p.1.ac k=S a)(F:p.2.length<1000):∃D,hJ [.rf 0,.fz (nd k)] X=.ok (.fz .none) D/\HS b (go p k) D:=by
 let(Y,J,B,rfl):=E;let G:=(o k a N).1;let lb:=(o k a N).2;let(f,I,v):=C9 B
 let m:sF (aV "Hand" "acts" (am 0)) (ae (ad 1)) [S (.rf 0),-(nd k),P] (cH b p.1 p.2 Y J)=.ok (.fz (mD a)) (cH b {p.1 with ac:=kz p.1.ac k P} p.2 f J):=
  (II (fR W) W (af (ag W)) W W (by rw[lj B G,N];rfl)).trans (by rw[I];rfl)
 let H:go p k=({p.1 with ac:=kz p.1.ac k P},p.2++Nj (kz p.1.ac k P) a):=by ext go;rw[N]
 rw[H];let n:AK (kz p.1.ac k P):=λj x e=>by
  by_cases z:j=k
  .subst z;rw[dH]at e;ext e
  .rw[fH z]at e;show o j x e
 let e0:=rO a;let e1:=jR a;let h:aF (aG cX (aG aZ (ad 2) (~~~0)) (pC (.str "letter"))) (a8 [S (.rf 0),-(nd k),-(mD a)])=.ok (a.isL,a8 [S (.rf 0),-(nd k),-(mD a)]):=by ext:0
 let u:X4 (bR (kB (bM (aF (aG cX (aG aZ (ad 2) (~~~0)) (pC (.str "letter"))))) (kJ (aQ (aK "Hand" "has_act" bw 2 (am 0) (ah (ae (ad 2)) aC))))) (bc (jf (aV "Hand" "sent" (am 0)) (ae (bG {aG aZ (ad 2) (~~~1),pC (.str "up")})))) bX [S (.rf 0),-(nd k),-(mD a)] (cH b {p.1 with ac:=kz p.1.ac k P} p.2 f J)) (λ_ D=>SV.fz .none=.fz .none/\HS b ({p.1 with ac:=kz p.1.ac k P},p.2++Nj (kz p.1.ac k P) a) D) (λ_ _=>False) (λr D=>r=.fz .none/\HS b ({p.1 with ac:=kz p.1.ac k P},p.2++Nj (kz p.1.ac k P) a) D):=by
  cases q:a.isL with
  |false=>
   rw[q]at h;show dg (gl (bS h)) (jJ #[W,f,J,v,?_]);let:Nj (kz p.1.ac k P) a=[]:=by ext a<;>first|rfl|ext q
   simp_all
  |true=>
   rw[q]at h;let(g,t,K):=Cr (p:=({p.1 with ac:=kz p.1.ac k P},p.2)) #[f,J,v,W] n lb;let w:∀l,nJ (kz p.1.ac k P) a=l->(kB (bM (aF (aG cX (aG aZ (ad 2) (~~~0)) (pC (.str "letter"))))) (kJ (aQ (aK "Hand" "has_act" bw 2 (am 0) (ah (ae (ad 2)) aC))))) [S (.rf 0),-(nd k),-(mD a)] (cH b {p.1 with ac:=kz p.1.ac k P} p.2 f J)=.ok (!l) g:=λl e=>by
    let t:bw [.rf 0,.fz (mD a)] (cH b {p.1 with ac:=kz p.1.ac k P} p.2 f J)=.ok (.fz (.bool l)) g:=by rw[<-e];show t
    show hW (bS h) (jN (aH (bx (p:=({p.1 with ac:=kz p.1.ac k P},p.2)) #[f,J,v,W] (by rfl) W (aj (af (ag W)) aD) W t)))
   let(y,C,A,e2):=K;rw[e2]at w;cases q2:nJ (kz p.1.ac k P) a with
   |true=>
    show dg (w R q2) (jJ #[W,y,C,A,?_]);let:Nj (kz p.1.ac k P) a=[]:=by
     ext a<;>first|ext q|skip
     show(if nJ (kz p.1.ac k P) _=R then _ else _)=_;rw[ax q2]
    simp_all
   |false=>
    ext a<;>first|ext q|skip
    rename_i c;let L:aZ (mD (.Vq c)) (.int 1)=-(.str (iX c)):=kG;show oQ (w Ut q2) (gK (zR (d:=Ut) F W (af (show _=Res.ok (PV.fz (.tuple [.str (iX c),.str "up"]),_) by ext:0))) #[W,y,C,A,?_]);let:Nj (kz p.1.ac k P) (.Vq c)=[(c,Ut)]:=by show(if nJ (kz p.1.ac k P) _=R then _ else _)=_;simp_all
    rw[this]
 show gQ W (iJ m W u)
end
section
variable{b:Bd}(Z:VB b){s:W4}{N:Sn}{X:b3 (Nat×Mn)}{J:aJ}{Q:aP}{i:Nat}{T:aJ}{p:W4×Sn}{k:Nat}{a:Mn}{Y:b3 Nat}{g:Int}{w:b4 (Nat×Int)}
theorem EN:∀(Y:G Nat) (as:G Mn),jr (bq Y) (as.map mD)=(Y.zip as).map pD
 |[],_=>by rfl
 |_::_,[]=>rfl
 |k::r,a::t=>by show Uv.tuple [nd k,mD a]::jr (bq r) (t.map mD)=_;rw[EN r t];rfl
def xC(h:∀c n,w=S (c,n)->c<26):cX (rp w) (.tuple [.str "chord"])=-(.bool w.isNone)/\qh (rp w) (.tuple [.str "chord"])=-(.bool w.isSome):=by
 cases w with
 |none=>
  let l:kg (.tuple [.str "chord"])=R:=by left
  let j:Uv.canLay0 (.tuple [.str "chord"])=R:=by left
  let f:Uv.eqv (.tuple [.str "chord"]) (.tuple [.str "chord"])=R:=by rfl
  constructor
  .show(if(kg (.tuple [.str "chord"])&&Uv.canLay0 (.tuple [.str "chord"]))=R then S (RV.fz (.bool (Uv.eqv (.tuple [.str "chord"]) (.tuple [.str "chord"]))))else P)=_;rw[l,j,f];rfl
  .show(if(kg (.tuple [.str "chord"])&&Uv.canLay0 (.tuple [.str "chord"]))=R then S (RV.fz (.bool (!Uv.eqv (.tuple [.str "chord"]) (.tuple [.str "chord"]))))else P)=_;rw[l,j,f];rfl
 |some m=>
  let(c,n):=m;let lb:LB (.ZC c n):=h c n W;let e:Uv.eqv (mD (.ZC c n)) (.tuple [.str "chord"])=A:=by rfl
  constructor
  .show(if(kg (mD (.ZC c n))&&Uv.canLay0 (.tuple [.str "chord"]))=R then S (RV.fz (.bool (Uv.eqv (mD (.ZC c n)) (.tuple [.str "chord"]))))else P)=_;rw[Ex lb,show Uv.canLay0 (.tuple [.str "chord"])=R by left,e];rfl
  .show(if(kg (mD (.ZC c n))&&Uv.canLay0 (.tuple [.str "chord"]))=R then S (RV.fz (.bool (!Uv.eqv (mD (.ZC c n)) (.tuple [.str "chord"]))))else P)=_;rw[Ex lb,show Uv.canLay0 (.tuple [.str "chord"])=R by left,e];rfl
theorem wH(Y:G Nat)(w:b4 (Nat×Int))(as:G Mn):∀(h:G (Nat×Mn)) (p:W4×Sn) (T:aJ) (m C:b4 SV),HS b p T->AK p.1.ac->(∀q∈h,q.1<5/\LB q.2)->p.2.length+h.length<1000->
  ∃d c,jd (Nx 2 (mZ (fw 4) (mZ (fw 5) xS))) (bc (aK "Hand" "come" a9 3 (am 0) (ah (ae (ad 4)) (ah (ae (ad 5)) aC)))) (h.map pD) [S (.rf 0),-(.tuple (bq Y)),-(rp w),-(.list (as.map mD)),m,C] T=.ok (.nx d) c/\HS b (ke p h) c
 |[],p,T,m,C,B,_,_,_=>#[_,T,W,B]
 |q::r,p,T,m,C,B,L,I,hl=>by
  rw[UJ]at hl;let l:=I q UX;let(f,e1,y):=n6 B L l.2 l.1 ();let n:AK (gw p q.1 q.2).1.ac:=λj x e=>by
   by_cases z:j=q.1
   .let u:S q.2=S x:=by rw[z]at e;show(dH).symm.trans e
    ext u;show#[by rw[z];show l.1,l.2]
   .show L j x ((fH z).symm.trans e)
  let:=pk (p:=p) (k:=q.1) (a:=q.2);let(d,c,e2,v):=wH Y w as r (gw p q.1 q.2) f (-(nd q.1)) (-(mD q.2)) y n (λx t=>I x (UN _ t)) ();show#[d,c,?_,v]
  let o:bc (aK "Hand" "come" a9 3 (am 0) (ah (ae (ad 4)) (ah (ae (ad 5)) aC))) [S (.rf 0),-(.tuple (bq Y)),-(rp w),-(.list (as.map mD)),-(nd q.1),-(mD q.2)] T=.ok (.nx [S (.rf 0),-(.tuple (bq Y)),-(rp w),-(.list (as.map mD)),-(nd q.1),-(mD q.2)]) f:=
   eV (bx B (by left) W (aj (af (ag W)) (aj (af (ag W)) aD)) W e1)
  show((bc (aK "Hand" "come" a9 3 (am 0) (ah (ae (ad 4)) (ah (ae (ad 5)) aC))) [S (.rf 0),-(.tuple (bq Y)),-(rp w),-(.list (as.map mD)),-(nd q.1),-(mD q.2)] T).bind _)=_;rw[o,eH];show e2
include Z
def jE(y:HS b p T)(r:SA b p.1)(j:p.1.wt=S (Y,g,w))(v:WV b p.1.ac Y g w)(K:p.2.length<900):∃d,cy [.rf 0] T=.ok (.fz .none) d/\HS b (c8 b p) d:=by
 let(X,J,A,rfl):=y;let e0:aZ (iQ p.1.wt) (.int 0)=-(.tuple (bq Y)):=by rw[j];show g7
 let e2:aZ (iQ p.1.wt) (.int 2)=-(rp w):=by rw[j];show rc
 let t:=v.len Z;let u:=v.ajC;let F:=xC λc n h=>(v.tp c n h).1;let E:c8 b p=ke ({p.1 with wt:=P},p.2) (Y.zip (gS b Y w)):=by ext c8;rw[j]
 rw[E];let o:aF (aG cX (ad 2) (pC (.tuple [.str "chord"]))) (a8 [S (.rf 0),-(.tuple (bq Y)),-(rp w),P,P,P])=.ok (w.isNone,a8 [S (.rf 0),-(.tuple (bq Y)),-(rp w),P,P,P]):=b8 (aI (ag W) ay W W F.1) W;let m:l7 (LM (bM (aF (aG cX (ad 2) (pC (.tuple [(.str "chord")]))))) (gP d6 2 (ah (aV "Hand" "bed" (am 0)) (ah (ae (ad 1)) aC))) (ae (cC {bG {pC (.str "layer"),aG aZ (ad 2) (~~~2)}}))) [S (.rf 0),-(.tuple (bq Y)),-(rp w),P,P,P] (cH b {p.1 with wt:=P} p.2 X J)=.ok (.fz (.list ((gS b Y w).map mD))) (cH b {p.1 with wt:=P} p.2 X (J++[.dead])):=by
  cases w with
  |none=>let H:=Pi Z u t v.kn;show(qO (Hj (bS o) (sT (aj (mq W) (aj (af (ag W)) aD)) W H)) (nV aU)).trans (by rw[hV];rfl)
  |some G=>let(c,n):=G;let I:aZ (rp (S (c,n))) (.int 2)=-(.int n):=rc;show(qO (Ka (bS o) (df (show _=Res.ok (PV.ow [.tuple [.str "layer",.int n]],_) by ext:0))) (nV aU)).trans (by rw[hV];rfl)
 let f:∃e d,wX (gz (ut {ad 1,ad 3})) (Nx 2 (mZ (fw 4) (mZ (fw 5) xS))) (bc (aK "Hand" "come" a9 3 (am 0) (ah (ae (ad 4)) (ah (ae (ad 5)) aC)))) [S (.rf 0),-(.tuple (bq Y)),-(rp w),-(.list ((gS b Y w).map mD)),P,P] (cH b {p.1 with wt:=P} p.2 X (J++[.dead]))=.ok (.nx e) d/\HS b (ke ({p.1 with wt:=P},p.2) (Y.zip (gS b Y w))) d:=by
  let L:=Z.n5;let(e,d,C,B):=wH Y w (gS b Y w) (Y.zip (gS b Y w)) ({p.1 with wt:=P},p.2) (cH b {p.1 with wt:=P} p.2 X (J++[.dead])) P P #[X,_,A,W] (SA.ak Z #[r.ac,r.oc]) (λq z=>by
   let:=zQ Z v q z;show#[by ext,this.2.lb]) (by
   rw[List.length_zip];show p.2.length+_<1000;ext)
  show#[e,d,?_,B];ext wX;rw[lB (tQ (ai (ag W) (ai (ag W) az)) W W W),eH,EN];show C
 let(e,d,f,l):=f;show#[d,lg (ρ1:=e) W ?_,l];show cb (ym (b7 (bp W) (af ay) e0) W) (cb (ym (b7 (bp W) (af ay) e2) W) (cb (jO P W (af ay)) (cb (ym m W) f)))
omit Z in
theorem KC{c:b3 Nat×Nat}(h:c.2<26):Uv.canLay0 (Wk c)=Uq:=by show(Uv.canLayAll0 (bq c.1)&&(Uv.strOk (iX c.2)&&Uq))=Uq;rw[lc,pO h];rfl
omit Z in
theorem MV:∀{cs:b3 (b3 Nat×Nat)},(∀c∈cs,c.2<26)->qh (.list (cs.map Wk)) (.list [])=-(.bool (!cs.isEmpty)):=by
 intro cs h;have j:∀cs:b3 (b3 Nat×Nat),(∀c∈cs,c.2<26)->Uv.canLayAll0 (cs.map Wk)=Uq:=by
  intro cs
  induction cs with
  |nil=>exact λ_=>rfl
  |cons c r e=>intro h;show(Uv.canLay0 (Wk c)&&Uv.canLayAll0 (r.map Wk))=Uq;rw[KC (h c UX),e λx l=>h x (UN _ l)];rfl
 have f:∀cs:b3 (b3 Nat×Nat),Uv.depthAll (cs.map Wk)<=2:=by
  intro cs
  induction cs with
  |nil=>exact Vm _
  |cons c r e=>show max (Uv.depth (Wk c)) (Uv.depthAll (r.map Wk))<=2;refine aic.mpr ⟨?_,e⟩;show max (Uv.depthAll (bq c.1)+1) (max 0 0)+1<=2;rw[oj];decide
 show(if((Uv.canLayAll0 (cs.map Wk)&&decide (Uv.depthAll (cs.map Wk)+1<=64))&&Uq)=Uq then cL (RV.fz (.bool (!Uv.eqvAll (cs.map Wk) [])))else Uo)=_;rw[j cs h,a5 (show Uv.depthAll (cs.map Wk)+1<=64 by have:=f cs;ext)];cases cs<;>rfl
theorem Jo(h:c∈eG b Y):c.2<26:=(Z.vc c (Ws.mp h).1).2.2.2
omit Z in
theorem AF(h:Y≠[])(e:Y.length<=5):cV (.tuple (bq Y)) (.tuple [nd k])=-(.tuple (bq (Y++[k]))):=by
 show(if bq Y≠[]/\(bq Y).length+1<=1000000 then cL (RV.fz (.tuple (bq Y++[nd k])))else Uo)=_;rw[ax ⟨by cases Y with
  |nil=>exact bg rfl h
  |cons x r=>simp[bq],by rw[fh];ext⟩,Ku]
 rfl
def zZ{d:cM}{ω1:aJ}(e:∃X J,ω1=cH b s N X J)(l:Q[0]?=S (S (.rf 0)))(f:Y.length<=5)(h:d Q ω1=.ok (.fz (.tuple (bq Y))) ω1):iS qh (gP br 2 (ah (aV "Hand" "bed" (am 0)) (ah d aC))) (ae (cC aq)) Q ω1=.ok (.fz (.bool (!(eG b Y).isEmpty))) (ω1++[.lst (((eG b Y).map Wk).map .fz)]++[.lst []]):=by let(X,J,rfl):=e;show bT (sT (ds:=[bD b,.tuple (bq Y)]) (aj (mq l) (aj h aD)) W (zU Z f)) (df (ds:=[]) (ρ':=a8 Q) (lW az W (Vm _))) ?_;show ko (cz (dG aU)) (cz (ds:=[]) aU) (MV λc j=>Jo Z j)
def PK(l:HS b p T)(C:SW b p.1)(K:(k:Int)<b.n)(D:GU p.1.wt k=Ut):∃d,cP [.rf 0,.fz (nd k)] T=.ok (.fz (.bool (D0 b p.1 k))) d/\HS b p d:=by
 cases q:p.1.wt with
 |none=>
  let m:D0 b p.1 k=Ut:=by ext D0;rw[q]
  rw[m];let(X,J,j,rfl):=l;let e1:qQ (iQ p.1.wt) .none=-(.bool R):=by rw[q];rfl
  show#[_,ir W (lY (dC (pw (aH (bT (bp W) (af ay) (bN e1)))) (gr (af ay)))),X,J,j,W]
 |some x=>
  let(Y,g,w):=x;let v:=(C.wt Y g w q).1;let E:=v.len Z;let e1:qQ (iQ p.1.wt) .none=-(.bool Ut):=by rw[q];rfl
  let e2:aZ (iQ p.1.wt) (.int 2)=-(rp w):=by rw[q];show rc
  let e0:aZ (iQ p.1.wt) (.int 0)=-(.tuple (bq Y)):=by rw[q];show g7
  let A:=(xC λc n h=>(v.tp c n h).1).2;cases w with
  |some M=>
   let m:D0 b p.1 k=Ut:=by ext D0;rw[q]
   rw[m];let(X,J,j,rfl):=l;show#[_,ir W (lY (dC (gv (aH (bT (bp W) (af ay) (bN e1))) (pw (aH (bT (b7 (bp W) (af ay) e2) (af ay) (bN A))))) (gr (af ay)))),X,J,j,W]
  |none=>
   let m:D0 b p.1 k=(decide (rC p.1.ac p.1.oc=0)&& !(eG b (Y++[k])).isEmpty):=by ext D0;rw[q]
   rw[m];let(f,G,B):=mh l;let o:(uV (aQ (iS qQ (aV "Hand" "waiting" (am 0)) (ae (pC .none)))) (uV (aQ (iS qh (gh (aV "Hand" "waiting" (am 0)) (ae (~~~2))) (ae (pC (.tuple [(.str "chord")]))))) (aQ (iS qh (gP db 1 (ah (aK "Hand" "stands" bt 1 (am 0) aC) aC)) (ae (~~~0)))))) [S (.rf 0),-(nd k)] T=.ok (!decide (rC p.1.ac p.1.oc=0)) f:=by
    let H:aQ (iS qh (gP db 1 (ah (aK "Hand" "stands" bt 1 (am 0) aC) aC)) (ae (~~~0))) [S (.rf 0),-(nd k)] T=.ok (!decide (rC p.1.ac p.1.oc=0)) f:=
     aH (bT (xb (aj (bx l (by rfl) W aD W G) aD) W (wm p.1)) (af ay) (bN (uh _ _)))
    let(X,J,j,rfl):=l;show gv (aH (bT (bp W) (af ay) (bN e1))) (gv (aH (bT (b7 (bp W) (af ay) e2) (af ay) (bN A))) H)
   by_cases z:rC p.1.ac p.1.oc=0
   .rw[a5 z]at o⊢
    let(X,J,j,rfl):=B;let t:k∉Y:=by rw[q]at D;show of_decide_eq_false D
    let r:(Y++[k]).Nodup:=by rw[Yj];show#[v.nd,V8.mpr #[V2,Y3],λx u y I e=>t (by simp_all)]
    let F:(Y++[k]).length<=5:=xh r λx u=>by
     let L:=Z.n5;rcases VD.mp u with h|h
     .let:=v.kn x h;ext
     .rw[Ve.mp h];ext
    show#[_,ir W (cb (fE o eT) (gr (zZ Z #[X,J,W] W F (bT (b7 (bp W) (af ay) e0) (af (eD (ai (ag W) az) W (Uy W))) (bN (AF v.ne E)))))),X,_,j,W]
   .rw[a6 z]at o⊢;show#[f,ir W (lY (dC o (gr (af ay)))),B]
end
section
variable{b:Bd}(Z:VB b){s:W4}{sn:Sn}{ps:b3 (Nat×Mn)}{J:aJ}{ρ:aP}{i:Nat}{ω:aJ}{p:W4×Sn}{k:Nat}{a:Mn}{ks:b3 Nat}{g:Int}{w:b4 (Nat×Int)}
include Z
def NJ(v:WV b p.1.ac ks g w)(c:k∉ks)(m:(k:Int)<b.n):(ks++[k]).Nodup/\(ks++[k]).length<=5:=by
 let f:(ks++[k]).Nodup:=by rw[Yj];show#[v.nd,V8.mpr #[V2,Y3],λx j y l e=>c (by simp_all)]
 show#[f,xh f λx j=>?_];let o:=Z.n5;rcases VD.mp j with h|h
 .let:=v.kn x h;ext
 .rw[Ve.mp h];ext
def GA(o:SW b p.1)(m:(k:Int)<b.n)(C:p.1.ac k=P)(d:GU p.1.wt k=Ut)(hm:D0 b p.1 k=R):∃ks g,p.1.wt=S (ks,g,P)/\k∉ks/\WV b p.1.ac (ks++[k]) g P/\g<b.wt:=by
 unfold D0 at hm;split at hm
 .rename_i ks g q
  rw[Ur]at hm;let(v,t):=o.wt ks g P q;let f:k∉ks:=by rw[q]at d;show of_decide_eq_false d
  let(l,A):=NJ Z v f m;show#[ks,g,q,f,#[by simp,l,λx e=>?_,λx e=>?_,v.g0,λc n h=>(by ext h),λ_ x e=>?_],t]
  .rcases VD.mp e with h|h
   .show v.kn x h
   .rw[Ve.mp h];show m
  .rcases VD.mp e with h|h
   .show v.kf x h
   .rw[Ve.mp h];show C
  .let j:=hm.2
   cases B:eG b (ks++[k])with
   |nil=>rw[B]at j;ext j
   |cons c r=>
    let u:c∈eG b (ks++[k]):=by rw[B];show UX
    let(z,y):=Ws.mp u;let:=VP.mp y x e;show(Z.vc c z).2.2.1 x (a7 this)
 .ext hm
def KK(u:HS b p ω)(j:SW b p.1)(f:p.1.wt=S (ks,g,P))(v:WV b p.1.ac (ks++[k]) g P)(h:WV b p.1.ac ks g P)(y:p.2.length<900):∃d,cG [.rf 0,.fz (nd k)] ω=.ok (.fz .none) d/\HS b (u8 b p k) d:=by
 let(ps,J,l,rfl):=u;let r:=v.len Z;let e0:aZ (iQ p.1.wt) (.int 0)=-(.tuple (bq ks)):=by rw[f];show g7
 let e1:aZ (iQ p.1.wt) (.int 1)=-(.int g):=by rw[f];show kG
 let C:u8 b p k=if(eG b (ks++[k])).map (·.1.length)=[(ks++[k]).length]then c8 b ({p.1 with wt:=S (ks++[k],g,P)},p.2)else({p.1 with wt:=S (ks++[k],g,P)},p.2):=by ext u8;rw[f]
 let F:HS b ({p.1 with wt:=S (ks++[k],g,P)},p.2) (cH b {p.1 with wt:=S (ks++[k],g,P)} p.2 ps J):=#[ps,J,l,W];let E:ce (fw 0) hG (ae (fG c9 {aG aZ (ad 0) (~~~0)})) ((eG b (ks++[k])).map Wk) [P] (cH b {p.1 with wt:=S (ks++[k],g,P)} p.2 ps (J++[.dead])) []=.ok ((bq ((eG b (ks++[k])).map (·.1.length))).map .fz) (cH b {p.1 with wt:=S (ks++[k],g,P)} p.2 ps (J++[.dead])):=by
  show(mr Wk (λc=>.fz (nd c.1.length)) _ (λρ=>∃o,ρ=[o]) (eG b (ks++[k])) _ [] #[P,W] ?_ ?_).trans (by ext bq;rw[Vo,Vo];rfl)
  .let:=YS (λc:G Nat×Nat=>(ks++[k]).all λk=>decide (k∈c.1)) b.cs;let:=Z.c4;show 0+(eG b (ks++[k])).length<=_;ext eG;ext
  .rintro c _ ρ ⟨o,rfl⟩;let t:aZ (Wk c) (.int 0)=-(.tuple (bq c.1)):=g7;show#[[-(Wk c)],W,W,af (dX (ai (aI (ag W) ay W W t) az) W ((jt _).trans (by rw[fh]))),_,W]
 let B:jY (gP br 2 (ah (aV "Hand" "bed" (am 0)) (ah (ae (ad 2)) aC))) [S (.rf 0),-(nd k),-(.tuple (bq (ks++[k])))] (cH b {p.1 with wt:=S (ks++[k],g,P)} p.2 ps J)=.ok ((eG b (ks++[k])).map Wk) (cH b {p.1 with wt:=S (ks++[k],g,P)} p.2 ps (J++[.dead])):=
  (Dj (sT (aj (mq W) (aj (af (ag W)) aD)) W (zU Z r)) aU).trans (by rw[hV];rfl)
 let rt:cC {fG c9 {ad 2}} (a8 [S (.rf 0),-(nd k),-(.tuple (bq (ks++[k])))])=.ok (.ow (bq [(ks++[k]).length]),a8 [S (.rf 0),-(nd k),-(.tuple (bq (ks++[k])))]):=by show lW (ai (dX (ai (ag W) az) W ((jt _).trans (by rw[fh]))) az) W (Uy W)
 let m:aQ (iS cX (jj 1 [] (jY (gP br 2 (ah (aV "Hand" "bed" (am 0)) (ah (ae (ad 2)) aC)))) (fw 0) hG (ae (fG c9 {aG aZ (ad 0) (~~~0)}))) (ae (cC {fG c9 {ad 2}}))) [S (.rf 0),-(nd k),-(.tuple (bq (ks++[k])))] (cH b {p.1 with wt:=S (ks++[k],g,P)} p.2 ps J)=.ok (decide ((eG b (ks++[k])).map (·.1.length)=[(ks++[k]).length])) (cH b {p.1 with wt:=S (ks++[k],g,P)} p.2 ps (J++[.dead])++[.lst ((bq ((eG b (ks++[k])).map (·.1.length))).map .fz)]++[.lst ((bq [(ks++[k]).length]).map .fz)]):=
  aH (bT (uj B E) (df rt) (ko (cz (dG aU)) (cz aU) (tU _ _)))
 let e:HS b ({p.1 with wt:=S (ks++[k],g,P)},p.2) (cH b {p.1 with wt:=S (ks++[k],g,P)} p.2 ps (J++[.dead])++[.lst ((bq ((eG b (ks++[k])).map (·.1.length))).map .fz)]++[.lst ((bq [(ks++[k]).length]).map .fz)]):=#[ps,_,l,W];generalize (cH b {p.1 with wt:=S (ks++[k],g,P)} p.2 ps (J++[.dead])++[.lst ((bq ((eG b (ks++[k])).map (·.1.length))).map .fz)]++[.lst ((bq [(ks++[k]).length]).map .fz)]:aJ)=I at m e;rw[C];show gQ W (iJ (bT (b7 (bp W) (af ay) e0) (af (eD (ai (ag W) az) W (Uy W))) (bN (AF h.ne (h.len Z)))) W (yW (jO (S (ks++[k],g,P)) W (tq (aj (af (ag W)) (aj (b7 (bp W) (af ay) e1) (aj (af ay) aD))) (Uy W))) (wy m (λq=>?_) λq=>?_)))
 .rw[ax (a7 q)];let(n,A,z):=jE Z e #[j.sa.ac,j.sa.oc] W v y;show gK (bx e (by rfl) W aD W A) #[W,z]
 .rw[a4 (of_decide_eq_false q)];show jJ #[W,e]
def He(f:SW b p.1)(h:p.1.wt=S (ks,g,P))(v:WV b p.1.ac (ks++[k]) g P)(j:g<b.wt):SW b (u8 b p k).1:=by
 let l:u8 b p k=if(eG b (ks++[k])).map (·.1.length)=[(ks++[k]).length]then c8 b ({p.1 with wt:=S (ks++[k],g,P)},p.2)else({p.1 with wt:=S (ks++[k],g,P)},p.2):=by ext u8;rw[h]
 rw[l];split
 .show(ji Z (p:=({p.1 with wt:=S (ks++[k],g,P)},p.2)) #[f.sa.ac,f.sa.oc] λ_ _ _ e=>by ext e;show v).1
 .show#[#[f.sa.ac,f.sa.oc],λ_ _ _ e=>by ext e;show#[v,j]]
omit Z in
theorem Ag(s:W4)(m:Mn):(iW s m).ac=s.ac/\(iW s m).wt=s.wt:=by unfold iW;split<;>exact⟨rfl,rfl⟩
omit Z in
theorem Aj{m:Mn}(h:SA b s):SA b (iW s m):=by
 unfold iW;split
 .exact h
 .exact⟨h.ac,λo e=>by cases e⟩
def N5(E:HS b p ω)(P:SA b p.1)(hw:p.1.wt=Uo)(S:(k:Int)<b.n)(V:p.2.length<900):∃D,d9 [.rf 0,.fz (nd k)] ω=.ok (.fz .none) D/\HS b (Ma b p k) D:=by
 let(O,N):=Gq Z P;let H:=IJ Z O N S;let(u,Q):=zx Z O N S;let(ω1,h1,YV):=mh E;let h5:=Z.n5;let eb:Ma b p k=xi b (rC p.1.ac p.1.oc) (iW p.1 (look b (rC p.1.ac p.1.oc) k),p.2) k (look b (rC p.1.ac p.1.oc) k):=W;rw[eb];let R:gP db 1 (ah (aK "Hand" "stands" bt 1 (am 0) aC) aC) [cL (.rf 0),-(nd k),Uo,Uo,Uo] ω=.ok (.fz (.int (rC p.1.ac p.1.oc))) ω1:=xb (aj (bx E (by rfl) W aD W h1) aD) W (wm p.1);generalize rC p.1.ac p.1.oc=L at H u Q R O N;generalize look b L k=m at H u Q;let(ps,J,hp,rfl):=YV;let lb:=u.lb;let c0:=rO m;let c1:=RK m;let c2:=Mr m;let c3:=jR m;let c4:=Hu m;let eL:cX (.int L) (.int 0)=-(.bool (decide (L=0))):=iu _ _;let A:(aB (bR (bM (aF (aG uZ (ad 4) (bG {pC (.str "layer"),pC (.str "once")})))) (d4 "Hand" "once" (am 0) (ae (pC .none))) bX) bX) [cL (.rf 0),-(nd k),-(.int L),-(mD m),-(.str (wd m))] (cH b p.1 p.2 ps J)=.ok (.nx [cL (.rf 0),-(nd k),-(.int L),-(mD m),-(.str (wd m))]) (cH b (iW p.1 m) p.2 ps J):=by
  let t:bM (aF (aG uZ (ad 4) (bG {pC (.str "layer"),pC (.str "once")}))) [cL (.rf 0),-(nd k),-(.int L),-(mD m),-(.str (wd m))] (cH b p.1 p.2 ps J)=.ok (!(m.acn||m.isO)) (cH b p.1 p.2 ps J):=bS (by ext:0);ext iW;cases q:(m.acn||m.isO)with
  |true=>rw[q]at t;rw[ax W];show cb (fE t eT) eT
  |false=>rw[q]at t;rw[a4 UH];show cb (dC t (y9 Uo W (af ay))) eT
 let T:=Ag p.1 m;let G:SA b (iW p.1 m):=Aj P;let e:ps.Perm (gj (iW p.1 m).ac):=by simp_all
 let z:HS b (iW p.1 m,p.2) (cH b (iW p.1 m) p.2 ps J):=#[ps,J,e,W];generalize iW p.1 m=s2 at A T G e z;let M:X4 ((bR (bM (aF (aG cX (ad 4) (pC (.str "tap"))))) (d4 "Hand" "waiting" (am 0) (ae (bG {bG {ad 1},~~~0,ad 3}))) (bR (kB (bM (aF (aG cX (ad 4) (pC (.str "letter"))))) (kB (bM (aF (aG cX (ad 2) (~~~0)))) (aQ (iS qh (gP br 2 (ah (aV "Hand" "bed" (am 0)) (ah (ae (bG {ad 1})) aC))) (ae (cC aq)))))) (d4 "Hand" "waiting" (am 0) (ae (bG {bG {ad 1},~~~0,pC (.tuple [(.str "chord")])}))) (bR (bM (aF (aG cX (ad 4) (pC (.str "once"))))) (aB (bc (aK "Hand" "come" a9 3 (am 0) (ah (ae (ad 1)) (ah (ae (pC (.tuple [(.str "none")]))) aC))))
 (d4 "Hand" "once" (am 0) (ae (aG aZ (ad 3) (~~~1))))) (bc (aK "Hand" "come" a9 3 (am 0) (ah (ae (ad 1)) (ah (ae (ad 3)) aC))))))) [cL (.rf 0),-(nd k),-(.int L),-(mD m),-(.str (wd m))] (cH b s2 p.2 ps J)) (λ_ D=>SV.fz .none=.fz .none/\HS b (xi b L (s2,p.2) k m) D) (λ_ _=>False) (λr D=>r=.fz .none/\HS b (xi b L (s2,p.2) k m) D):=by
  let y:∀{ω:aJ},bM (aF (aG cX (ad 4) (pC (.str "tap")))) [cL (.rf 0),-(nd k),-(.int L),-(mD m),-(.str (wd m))] ω=.ok m.isT ω:=bS (by ext:0);let C:∀{ω:aJ},bM (aF (aG cX (ad 4) (pC (.str "letter")))) [cL (.rf 0),-(nd k),-(.int L),-(mD m),-(.str (wd m))] ω=.ok m.isL ω:=bS (by ext:0);let B:∀{ω:aJ},bM (aF (aG cX (ad 4) (pC (.str "once")))) [cL (.rf 0),-(nd k),-(.int L),-(mD m),-(.str (wd m))] ω=.ok m.isO ω:=bS (by ext:0);let F:∀{ω:aJ},bM (aF (aG cX (ad 2) (~~~0))) [cL (.rf 0),-(nd k),-(.int L),-(mD m),-(.str (wd m))] ω=.ok (decide (L=0)) ω:=bS (by ext:0);let kt:∀{ω:aJ},ae (bG {ad 1}) [cL (.rf 0),-(nd k),-(.int L),-(mD m),-(.str (wd m))] ω=.ok (.fz (.tuple (bq [k]))) ω:=af (eD (ai (ag W) az) W (Uy W));let cm:∀{ω:aJ},HS b (s2,p.2) ω->VA b.ls.length m->∃D,bc (aK "Hand" "come" a9 3 (am 0) (ah (ae (ad 1)) (ah (ae (ad 3)) aC))) [cL (.rf 0),-(nd k),-(.int L),-(mD m),-(.str (wd m))] ω=.ok (.nx [cL (.rf 0),-(nd k),-(.int L),-(mD m),-(.str (wd m))]) D/\HS b (gw (s2,p.2) k m) D:=λ{ω} E va=>by let(D,l,j):=n6 (k:=k) E (G.ak Z) va.lb () (show p.2.length<1000 by ext);show#[D,eV (bx E (by rfl) W (aj (af (ag W)) (aj (af (ag W)) aD)) W l),j]
  cases m with
  |below=>simp_all
  |ZC c n=>show oQ y (lC (jO (cL ([k],0,cL (c,n))) W (af (ρ':=a8 [cL (.rf 0),-(nd k),-(.int L),-(mD (.ZC c n)),-(.str (wd (.ZC c n)))]) ?_)) #[W,ps,J,e,W]);rfl
  |Vq c=>
   obtain⟨d1,d2⟩:VA b.ls.length (.Vq c)/\True:=#[u,trivial];by_cases K:L=0
   .rw[a5 K]at F
    let Y:=zZ Z (ω1:=cH b s2 p.2 ps J) #[ps,J,W] W (Uy W) kt;let I:HS b (s2,p.2) (cH b s2 p.2 ps J++[.lst (((eG b [k]).map Wk).map .fz)]++[.lst []]):=#[ps,_,e,W];let v:xi b L (s2,p.2) k (.Vq c)=if(!(eG b [k]).isEmpty)=Uq then({s2 with wt:=cL ([k],0,Uo)},p.2)else gw (s2,p.2) k (.Vq c):=by show(if(decide (L=0)&& !(eG b [k]).isEmpty)=Uq then _ else _)=_;rw[a5 K,XJ]
    rw[v];show dg y (wy (hW C (hW F (aH Y))) (λq=>?_) λq=>?_)
    .rw[ax q];show lC (jO (cL ([k],0,Uo)) W (af (ρ':=a8 [cL (.rf 0),-(nd k),-(.int L),-(mD (.Vq c)),-(.str (wd (.Vq c)))]) ?_)) #[W,ps,_,e,W];rfl
    .rw[a4 (by rw[q];simp)];let(D,l,j):=cm I u;show dg B (lC l #[W,j])
   .rw[a6 K]at F
    let v:xi b L (s2,p.2) k (.Vq c)=gw (s2,p.2) k (.Vq c):=by show(if(decide (L=0)&& !(eG b [k]).isEmpty)=Uq then _ else _)=_;simp_all
    rw[v];let(D,l,j):=cm z u;show dg y (dg (hW C (gl F)) (dg B (lC l #[W,j])))
  |Xa n=>let(D,l,j):=cm z u;show dg y (dg (gl C) (dg B (lC l #[W,j])))
  |none=>let(D,l,j):=cm z trivial;show dg y (dg (gl C) (dg B (lC l #[W,j])))
  |once n=>let(D,l,j):=n6 (k:=k) (a:=.none) z (G.ak Z) trivial () (show p.2.length<1000 by ext);let i1:aZ (mD (.once n)) (.int 1)=-(.int n):=kG;let(X,J2,hq,rfl):=j;show dg y (dg (gl C) (oQ B (yW (eV (bx z (by rfl) W (aj (af (ag W)) (aj (af ay) aD)) W l)) (lC (y9 (cL n) W (af (ρ':=a8 [cL (.rf 0),-(nd k),-(.int L),-(mD (.once n)),-(.str (wd (.once n)))]) ?_)) #[W,X,J2,hq,W]))));rfl
 show gQ (ρ:=[cL (.rf 0),-(nd k),Uo,Uo,Uo]) W (iJ R W (iJ (xb (ds:=[bD b,.int L,nd k]) (aj (mq W) (aj (af (ag W)) (aj (af (ag W)) aD))) W H) W (iJ (af (d:=.str (wd m)) (ρ':=a8 [cL (.rf 0),-(nd k),-(.int L),-(mD m),Uo]) (aI (rv:=.fz (.str (wd m))) (ag W) ay W W c0)) W ?_)));show .eq ?_ M;let U:∀{f g:dw} {ρ:aP} {ω D:aJ},aB f bX ρ ω=.ok (.nx ρ) D->aB f g ρ ω=g ρ D:=λ{f g ρ ω D} h=>by
  unfold aB at h⊢;cases q:f ρ ω with
  |bad=>rw[q]at h;ext h
  |er x o=>rw[q]at h;ext h
  |ok fl o=>
   rw[q]at h;cases fl with
   |nx r=>ext h;rfl
   |_=>ext h
 show U A
end
section
variable{b:Bd}(Z:VB b){s:W4}{sn:Sn}{X:b3 (Nat×Mn)}{J:aJ}{T:aP}{i:Nat}{ω:aJ}{p:W4×Sn}{k:Nat}{a:Mn}{Y:b3 Nat}{g:Int}{w:b4 (Nat×Int)}
include Z
omit Z in
theorem Aa(h:SA b s)(f:s.wt=Uo):SW b s:=⟨h,λ_ _ _ e=>by rw[f]at e;cases e⟩
def NQ(y:SA b p.1)(K:p.1.wt=Uo)(E:(k:Int)<b.n)(d:p.1.ac k=Uo):SW b (Ma b p k).1:=by
 let(G,F):=Gq Z y;let(f,z):=zx Z G F E;let N:Ma b p k=xi b (rC p.1.ac p.1.oc) (iW p.1 (look b (rC p.1.ac p.1.oc) k),p.2) k (look b (rC p.1.ac p.1.oc) k):=W;rw[N];generalize rC p.1.ac p.1.oc=L at f z G F;generalize look b L k=m at f z;let v:=Ag p.1 m;let j:SA b (iW p.1 m):=Aj y;let l:=v.2.trans K;let u:(iW p.1 m).ac k=Uo:=by rw[v.1];show d
 generalize iW p.1 m=s2 at j l u;let R:=Z.w1;let A:[k].Nodup:=V8.mpr #[V2,Y3];let B:∀x∈[k],(x:Int)<b.n:=λx t=>by simp_all
 let C:∀x∈[k],s2.ac x=Uo:=λx t=>by simp_all
 let cm:∀m,VA b.ls.length m->SW b (gw (s2,p.2) k m).1:=λm H=>Aa (j.cm E H) l;cases m with
 |below=>simp_all
 |ZC c n=>show#[#[j.ac,j.oc],λ_ _ _ e=>?_];ext e;show#[#[by simp,A,B,C,Yo _,λQ I e=>by ext e;show#[f.1,f.2,W],λe=>by ext e],by ext]
 |Vq c=>
  show SW b (if(decide (L=0)&& !(eG b [k]).isEmpty)=Uq then({s2 with wt:=cL ([k],0,Uo)},p.2)else gw (s2,p.2) k (.Vq c)).1;split
  .rename_i q
   show#[#[j.ac,j.oc],λ_ _ _ e=>?_];ext e;show#[#[by simp,A,B,C,Yo _,λQ I e=>(by ext e),λ_ x t=>?_],by ext];let S:=(Ur _ _▸q:_/\_).2;cases qo:eG b [k]with
   |nil=>simp_all
   |cons c r=>
    let M:c∈eG b [k]:=by simp_all
    let(P,O):=Ws.mp M;show(Z.vc c P).2.2.1 x (a7 (VP.mp O x t))
  .show cm _ f
 |Xa n=>show cm _ f
 |none=>show cm _ trivial
 |once n=>let h:=cm .none trivial;show#[#[h.sa.ac,λo e=>by ext e;show f],λY g w e=>by let e:s2.wt=cL (Y,g,w):=e;simp_all]
theorem SW.wd(h:SW b s):WD b s:=λY g w e=>(h.wt Y g w e).1
omit Z in
theorem xw(e:b3 (Nat×Mn)):∀{p:W4×Sn},p.1.ac k=Uo->k∉e.map (·.1)->(ke p e).1.ac k=Uo:=by
 induction e with
 |nil=>exact λh _=>h
 |cons q r f=>intro p h hn;rw[UK,U5,not_or]at hn;exact f (p:=gw p q.1 q.2) ((fH hn.1).trans h) hn.2
omit Z in
theorem xk(ha:p.1.ac k=Uo)(hn:GU p.1.wt k=Ut):(c8 b p).1.ac k=Uo:=by
 unfold c8;split
 .exact ha
 .rename_i Y g w q;refine xw _ (p:=({p.1 with wt:=Uo},p.2)) ha λz=>?_;rw[q]at hn;obtain⟨x,e,rfl⟩:=Vt.mp z;exact of_decide_eq_false hn (XW e).1
def Ga(e:SW b p.1)(f:(k:Int)<b.n):SW b (qS b p k).1:=by
 ext qS;split
 .show e
 .rename_i q
  rw[VT,not_or]at q;let l:p.1.ac k=P:=by simp_all
  let j:GU p.1.wt k=A:=by simp_all
  split
  .rename_i h;let(Y,g,e1,e2,e3,e4):=GA Z e f l j h;show He Z e e1 e3 e4
  .let d:=ji Z e.sa (SW.wd Z e);show NQ Z d.1.sa d.2.1 f (xk l j)
def Gs(h:HS b p ω)(f:SW b p.1)(A:(k:Int)<b.n)(N:p.2.length<800):∃c,gc [.rf 0,.fz (nd k)] ω=.ok (.fz .none) c/\HS b (qS b p k) c:=by
 let O:=Z.n5;let z:k<5:=by ext
 let M:uV (aQ (rb Ut (ae (ad 1)) (aV "Hand" "acts" (am 0)))) (aQ (aK "Hand" "is_waiting" bP 2 (am 0) (ah (ae (ad 1)) aC))) [S (.rf 0),-(nd k)] ω=.ok ((p.1.ac k).isSome||GU p.1.wt k) ω:=by
  let I:=bx (ρ:=[S (.rf 0),-(nd k)]) (i:=0) (m:= "is_waiting") (fa:=ah (ae (ad 1)) aC) h (by rfl) W (aj (af (ag W)) aD) W (Ec h);let(X,J,y,rfl):=h
  let t:rb Ut (ae (ad 1)) (aV "Hand" "acts" (am 0)) [S (.rf 0),-(nd k)] (cH b p.1 p.2 X J)=.ok (.fz (.bool (p.1.ac k).isSome)) (cH b p.1 p.2 X J):=
   (x9 (af (ag W)) (fR W) W W).trans (by rw[show iK (X.map iY) (.inl (k:Int))=_ from lj y z];simp_all)
  cases q:(p.1.ac k).isSome with
  |true=>rw[q]at t;rw[Xq];show pw (aH t)
  |false=>rw[q]at t;rw[Yn];show gv (aH t) (aH I)
 show gQ W (we M (λq=>?_) λq=>lu ?_)
 .ext qS;rw[ax q];show sV #[W,h]
 rw[ab2]at q;let Q:p.1.ac k=Uo:=by simp_all
 let L:qS b p k=if D0 b p.1 k=R then u8 b p k else Ma b (c8 b p) k:=by ext qS;simp_all
 rw[L];let(u,H,l):=PK Z h f A q.2;show we (aH (bx h (by rfl) W (aj (af (ag W)) aD) W H)) (λo=>?_) λo=>lu ?_
 .rw[ax o];let(Y,g,e1,e2,e3,e4):=GA Z f A Q q.2 o;let(e,B,j):=KK Z l f e1 e3 (f.wt _ _ _ e1).1 ();show NL (jy (bx l (by rfl) W (aj (af (ag W)) aD) W B) (sV #[W,j]))
 .rw[a4 (by rw[o];simp)]
  let d:=ji Z f.sa (SW.wd Z f);let E:∀e,HS b (c8 b p) e->X4 (bc (aK "Hand" "begin" d9 2 (am 0) (ah (ae (ad 1)) aC)) [S (.rf 0),-(nd k)] e) (λ_ c=>SV.fz .none=.fz .none/\HS b (Ma b (c8 b p) k) c) (λ_ _=>False) (λr c=>r=.fz .none/\HS b (Ma b (c8 b p) k) c):=λe j=>by let(F,K,v):=N5 Z j d.1.sa d.2.1 A ();show gK (bx j (by rfl) W (aj (af (ag W)) aD) W K) #[W,v]
  cases n:p.1.wt with
  |none=>
   let P:c8 b p=p:=by ext c8;rw[n]
   let e1:nu (iQ p.1.wt) .none=-(.bool Ut):=by rw[n];rfl
   let C:=E u (by simp_all);let(X,J,y,rfl):=l;show p7 (aH (bT (bp W) (af ay) (bN e1))) (lu C)
  |some x=>
   let(Y,g,w):=x;let e1:nu (iQ p.1.wt) .none=-(.bool R):=by rw[n];rfl
   let(e,B,j):=jE Z l f.sa n (f.wt _ _ _ n).1 ();let G:=bx (ρ:=[S (.rf 0),-(nd k)]) (i:=0) (m:= "decide") l (by rfl) W aD W B;let(X,J,y,rfl):=l;show uJ (aH (bT (bp W) (af ay) (bN e1))) (jy G (E e j))
def rN(e:SW b p.1)(f:GU p.1.wt k=R):SW b (dn b p k).1/\(dn b p k).2.length<=p.2.length+5:=by
 ext dn;split
 .let d:=ji Z e.sa (SW.wd Z e);simp_all
 .rename_i Y g c n q
  let v:=(e.wt _ _ _ q).1;rw[q]at f;let h:=v.kn k (a7 f);let j:=(v.tp c n W).1;show#[Aa (SA.cm #[e.sa.ac,e.sa.oc] h j) W,?_];let:=pk (p:=({p.1 with wt:=P},p.2)) (k:=k) (a:=.Vq c)
  grind
 simp_all
def jA(j:HS b p ω)(e:SW b p.1)(f:GU p.1.wt k=R)(G:p.2.length<800):∃d,eR [.rf 0,.fz (nd k)] ω=.ok (.fz .none) d/\HS b (dn b p k) d:=by
 let I:=Z.n5;cases q:p.1.wt with
 |none=>rw[q]at f;ext f
 |some x=>
  let(Y,g,w):=x;let v:=(e.wt _ _ _ q).1;let o:k∈Y:=by rw[q]at f;show a7 f
  let e2:aZ (iQ p.1.wt) (.int 2)=-(rp w):=by rw[q];show rc
  let E:=(xC λc n h=>(v.tp c n h).1).1;let u:∀{ω:aJ},bM (aF (aG cX (ad 2) (pC (.tuple [.str "chord"])))) [S (.rf 0),-(nd k),-(rp w)] ω=.ok w.isNone ω:=bS (b8 (aI (ag W) ay W W E) W);cases w with
  |none=>
   let es:dn b p k=c8 b p:=by ext dn;rw[q]
   rw[es];let(l,r,t):=jE Z j e.sa q v ();let A:=bx (ρ:=[S (.rf 0),-(nd k),-(rp P)]) (i:=0) (m:= "decide") j (by left) W aD W r;let(X,J,y,rfl):=j;show gQ W (iJ (b7 (bp W) (af ay) e2) W (oQ u (gK A #[W,t])))
  |some F=>
   let(c,n):=F;let es:dn b p k=gw ({p.1 with wt:=P},p.2) k (.Vq c):=by ext dn;rw[q]
   rw[es];let C:=(v.tp c n W).1;let H:=v.kn k o;let(X,J,y,rfl):=j;let z:HS b ({p.1 with wt:=P},p.2) (cH b {p.1 with wt:=P} p.2 X J):=#[X,J,y,W];let(l,r,t):=n6 (k:=k) (a:=.Vq c) z (SA.ak Z #[e.sa.ac,e.sa.oc]) C () (show p.2.length<1000 by ext);let B:aZ (rp (S (c,n))) (.int 1)=-(.str (iX c)):=kG;show gQ W (iJ (b7 (bp W) (af ay) e2) W (dg u (yW (jO P W (af ay)) (gK (bx z (by left) W (aj (af (ag W)) (aj (af (eD (ai ay (ai (aI (ag W) ay W W B) az)) W (Uy W))) aD)) W r) #[W,t]))))
omit Z in
theorem Lr(f:SW b p.1):SW b (go p k).1:=by
 refine⟨f.sa.gg,?_⟩;unfold go;split
 .intro Y g w e;obtain⟨v,j⟩:=f.wt Y g w e;exact⟨⟨v.ne,v.nd,v.kn,λx h=>by
   by_cases z:x=k
   .rw[z];exact dH
   .exact(fH z).trans (v.kf x h),v.g0,v.tp,v.ch⟩,j⟩
 .exact f.wt
def Jx(e:SW b p.1):SW b (Bs b p k).1:=by
 ext Bs;split
 .rename_i q;show Lr (rN Z e q).1
 .show Lr e
def IV(e:HS b p ω)(h:SW b p.1)(F:(k:Int)<b.n)(v:p.2.length<700):∃c,gH [.rf 0,.fz (nd k)] ω=.ok (.fz .none) c/\HS b (Bs b p k) c:=by
 let G:=Z.n5;let j:k<5:=by ext
 let f:∀{p:W4×Sn} {ω:aJ},HS b p ω->SW b p.1->p.2.length<800->X4 (bR (aQ (rb Ut (ae (ad 1)) (aV "Hand" "acts" (am 0)))) (bc (aK "Hand" "go" hJ 2 (am 0) (ah (ae (ad 1)) aC))) bX [S (.rf 0),-(nd k)] ω) (λ_ c=>SV.fz .none=.fz .none/\HS b (go p k) c) (λ_ _=>False) (λr c=>r=.fz .none/\HS b (go p k) c):=λ{p ω} e h v=>by
  cases n:p.1.ac k with
  |none=>
   let B:go p k=p:=by ext go;rw[n]
   rw[B];let(X,J,l,rfl):=e;show dg (aH ((x9 (af (ag W)) (fR W) W W).trans (by rw[show iK (X.map iY) (.inl (k:Int))=_ from lj l j,n];rfl))) (jJ #[W,X,J,l,W])
  |some a=>let(o,y,C):=QS e (h.sa.ak Z) n ();let u:=bx (ρ:=[S (.rf 0),-(nd k)]) (i:=0) (m:= "go") (fa:=ah (ae (ad 1)) aC) e (by rfl) W (aj (af (ag W)) aD) W y;let(X,J,l,rfl):=e;show oQ (aH ((x9 (af (ag W)) (fR W) W W).trans (by rw[show iK (X.map iY) (.inl (k:Int))=_ from lj l j,n];rfl))) (gK u #[W,C])
 show gQ W (we (aH (bx e (by rfl) W (aj (af (ag W)) aD) W (Ec e))) (λq=>?_) λq=>?_)
 .ext Bs;rw[ax q];let(t,A,E):=jA Z e h q ();let z:=rN Z h q;show jy (bx e (by rfl) W (aj (af (ag W)) aD) W A) (f E z.1 ())
 .ext Bs;rw[a4 (by rw[q];simp)];show lu (f e h ())
def HK(f:SW b p.1):SW b (mW b p).1:=by
 ext mW;split
 .show f
 .rename_i Y g w q
  let(v,l):=f.wt Y g w q;let j:WV b p.1.ac Y (g+1) w:=#[v.ne,v.nd,v.kn,v.kf,by let:=v.g0;ext,v.tp,v.ch];split
  .show(ji Z (p:=({p.1 with wt:=S (Y,g+1,w)},p.2)) #[f.sa.ac,f.sa.oc] λ_ _ _ e=>by simp_all).1
  .rename_i h;show#[#[f.sa.ac,f.sa.oc],λ_ _ _ e=>by ext e;show#[j,by ext]]
def Ho(n:HS b p ω)(e:SW b p.1)(t:p.2.length<800):∃c,eA [.rf 0] ω=.ok (.fz .none) c/\HS b (mW b p) c:=by
 let(X,J,j,rfl):=n;cases q:p.1.wt with
 |none=>
  let f:mW b p=p:=by ext mW;rw[q]
  rw[f];let e1:qQ (iQ p.1.wt) .none=-(.bool R):=by rw[q];rfl
  show gQ W (uJ (aH (bT (bp W) (af ay) (bN e1))) (sV #[W,X,J,j,W]))
 |some x=>
  let(Y,g,w):=x;let v:=(e.wt _ _ _ q).1;let m:WV b p.1.ac Y (g+1) w:=#[v.ne,v.nd,v.kn,v.kf,by let:=v.g0;ext,v.tp,v.ch];let f:mW b p=if g+1=b.wt then c8 b ({p.1 with wt:=S (Y,g+1,w)},p.2)else({p.1 with wt:=S (Y,g+1,w)},p.2):=by ext mW;rw[q]
  rw[f];let e1:qQ (iQ p.1.wt) .none=-(.bool A):=by rw[q];rfl
  let e0:aZ (iQ p.1.wt) (.int 0)=-(.tuple (bq Y)):=by rw[q];show g7
  let e2:aZ (iQ p.1.wt) (.int 2)=-(rp w):=by rw[q];show rc
  let e3:aZ (iQ p.1.wt) (.int 1)=-(.int g):=by rw[q];show kG
  let e4:aZ (bD b) (.int 3)=-(.int b.wt):=Ob W;let h:HS b ({p.1 with wt:=S (Y,g+1,w)},p.2) (cH b {p.1 with wt:=S (Y,g+1,w)} p.2 X J):=#[X,J,j,W];show gQ W (p7 (aH (bT (bp W) (af ay) (bN e1))) (lu (iJ (bT (b7 (bp W) (af ay) e3) (af ay) (bN (fM _ _))) W (yW (jO (S (Y,g+1,w)) W (tq (aj (b7 (bp W) (af ay) e0) (aj (af (ag W)) (aj (b7 (bp W) (af ay) e2) aD))) (Uy W))) (wy (aH (bT (af (ag W)) (b7 (mq W) (af ay) e4) (bN (iu _ _)))) (λz=>?_) λz=>?_)))))
  .rw[ax (a7 z)];let(l,o,r):=jE Z h #[e.sa.ac,e.sa.oc] W m (show p.2.length<900 by ext);show gK (bx h (by rfl) W aD W o) #[W,r]
  .rw[a4 (of_decide_eq_false z)];show jJ #[W,h]
def Yy.adg:Yy->Bool
 |.turn=>R
 |_=>A
def Yy.isDown:Yy->Bool
 |.down _=>R
 |_=>A
def EV(b:Bd):Yy->Prop
 |.down k=>(k:Int)<b.n
 |.up k=>(k:Int)<b.n
 |.turn=>True
def sU(f:SW b s)(h:EV b e):SW b (aw b s e).1:=by
 cases e with
 |down k=>show Ga Z f h
 |up k=>show Jx Z f
 |turn=>show HK Z f
omit Z in
theorem su:∀l:b3 (Nat×Mn),aA ou (l.map pD)=cL (l.map iY)
 |[]=>rfl
 |q::r=>by rw[UK];unfold aA;rw[su r];rfl
omit Z in
theorem wo:∀(l acc:b3 (Nat×Mn)),((acc++l).map (·.1)).Nodup->kh (acc.map iY) (l.map iY)=(acc++l).map iY
 |[],acc,_=>by rw[U9];rfl
 |q::r,acc,h=>by
  have hn:∀x∈acc,x.1≠q.1:=λx f e=>by rw[UP,Yj]at h;exact h.2.2 _ (Vt.mpr ⟨x,f,rfl⟩) q.1 UX e
  have e1:iR (acc.map iY) (iY q).1 (iY q).2=(acc++[q]).map iY:=by
   unfold iR;rw[a4 ?_,UP]
   .rfl
   .intro z;obtain⟨o,n,m⟩:=ZO.mp z;obtain⟨x,j,rfl⟩:=Vt.mp n;have:=Sum.inl.inj (a7 m);exact hn x j (by ext)
  show kh (iR (acc.map iY) (iY q).1 (iY q).2) (r.map iY)=_;rw[e1,wo r (acc++[q]) (by rw[U3];exact h),U3];rfl
omit Z in
theorem IZ:cT [.rf 0,.fz (bD b),.fz (bU s)] [.obj "Hand" []]=.ok (.fz .none) (cH b s [] (gj s.ac) []):=by
 have e0:aZ (bU s) (.int 0)=-(.tuple ((gj s.ac).map pD)):=g7;have e1:aZ (bU s) (.int 1)=-(iQ s.wt):=kG;have e2:aZ (bU s) (.int 2)=-(qY s.oc):=rc;have v:gx "bed" (.fz (bD b)) []=([("bed",.fz (bD b))]:b3 (Str×SV)):=rfl;have q:gx "acts" (.rf 1) ([("bed",.fz (bD b))]:b3 (Str×SV))=([("bed",.fz (bD b)),("acts",.rf 1)]:b3 (Str×SV)):=by unfold gx;rw[a4 (by left)];rfl
 have o:gx "waiting" (.fz (iQ s.wt)) ([("bed",.fz (bD b)),("acts",.rf 1)]:b3 (Str×SV))=([("bed",.fz (bD b)),("acts",.rf 1),("waiting",.fz (iQ s.wt))]:b3 (Str×SV)):=by unfold gx;rw[a4 (by left)];unfold gx;rw[a4 (by left)];rfl
 have n:gx "once" (.fz (qY s.oc)) ([("bed",.fz (bD b)),("acts",.rf 1),("waiting",.fz (iQ s.wt))]:b3 (Str×SV))=([("bed",.fz (bD b)),("acts",.rf 1),("waiting",.fz (iQ s.wt)),("once",.fz (qY s.oc))]:b3 (Str×SV)):=by unfold gx;rw[a4 (by left)];unfold gx;rw[a4 (by left)];unfold gx;rw[a4 (by left)];rfl
 have m:gx "sent" (.rf 2) ([("bed",.fz (bD b)),("acts",.rf 1),("waiting",.fz (iQ s.wt)),("once",.fz (qY s.oc))]:b3 (Str×SV))=HI b s:=by unfold gx;rw[a4 (by left)];unfold gx;rw[a4 (by left)];unfold gx;rw[a4 (by left)];unfold gx;rw[a4 (by left)];rfl
 have r:kh [] ((gj s.ac).map iY)=(gj s.ac).map iY:=wo (gj s.ac) [] (pY s.ac);have j:∀{x:SV} {T:aP} {fs:b3 (Str×SV)} {ω:aJ} {l:cM} {f:Str} {c:Cell} {e:aJ},T[0]?=cL (cL (.rf 0))->l T ω=.ok x (.obj "Hand" fs::e)->fs.length<100->d4 "Hand" f (am 0) l T ω=.ok (.nx T) (.obj "Hand" (gx f x fs)::e):=λh u t=>(lL u (aO h) rfl t).trans rfl
 have ha:sG (ae (aG aZ (ad 2) (~~~0))) [cL (.rf 0),-(bD b),-(bU s)] [.obj "Hand" ([("bed",.fz (bD b))]:b3 (Str×SV))]=.ok (.rf 1) [.obj "Hand" ([("bed",.fz (bD b))]:b3 (Str×SV)),.Zm ((gj s.ac).map iY)]:=
  (Im (af (d:=.tuple ((gj s.ac).map pD)) (aI (rv:=.fz (.tuple ((gj s.ac).map pD))) (ag rfl) ay rfl rfl e0)) (su _)).trans (by rw[r];rfl)
 refine lg (ρ:=[cL (.rf 0),-(bD b),-(bU s)]) (ρ1:=[cL (.rf 0),-(bD b),-(bU s)]) rfl (cb (j rfl (c:=.dead) (af (d:=bD b) (ag rfl)) (Uy rfl)) (cb (j rfl (c:=.dead) ha (Uy rfl)) (cb (j rfl (c:=.dead) (af (d:=iQ s.wt) (aI (rv:=.fz (iQ s.wt)) (ag rfl) ay rfl rfl e1)) (Uy rfl)) (cb (j rfl (c:=.dead) (af (d:=qY s.oc) (aI (rv:=.fz (qY s.oc)) (ag rfl) ay rfl rfl e2)) (Uy rfl)) ?_))));rw[q,o,n];refine(j (fs:=([("bed",.fz (bD b)),("acts",.rf 1),("waiting",.fz (iQ s.wt)),("once",.fz (qY s.oc))]:b3 (Str×SV))) rfl (c:=.dead) (df (ds:=[]) (lW az rfl (Vm _))) (Uy rfl)).trans ?_;show RS.ok _ (Cell.obj "Hand" (gx "sent" (.rf 2) ([("bed",.fz (bD b)),("acts",.rf 1),("waiting",.fz (iQ s.wt)),("once",.fz (qY s.oc))]:b3 (Str×SV)))::_)=_;rw[m];rfl
omit Z in
theorem Ig(e:Yy):∃x:Str,aZ (b9 e) (.int 0)=-(.str x)/\cX (.str x) (.str "turn")=-(.bool (e.adg))/\cX (.str x) (.str "down")=-(.bool (e.isDown)):=by
 have h:Uv.strOk "down"=Uq:=by left
 have j:Uv.strOk "up"=Uq:=by left
 have f:Uv.strOk "turn"=Uq:=by left
 cases e with
 |down k=>exact⟨"down",g7,AB h f (by left),LI h⟩
 |up k=>exact⟨"up",g7,AB j f (by left),AB j h (by left)⟩
 |turn=>exact⟨"turn",g7,LI f,AB f h (by left)⟩
def JC(q:SW b s)(y:EV b e):∃c,gO [.fz (bD b),.fz (bU s),.fz (b9 e)] []=.ok (.tp [.rf 2,.fz (bU (aw b s e).1)]) c/\sh c (.rf 2)=S (.list ((aw b s e).2.map qU)):=by
 let f:HS b (s,[]) (cH b s [] (gj s.ac) []):=#[gj s.ac,[],.refl _,W];let(x,u,A,z):=Ig e;let o:∀{ω:aJ},bM (aF (aG cX (aG aZ (ad 2) (~~~0)) (pC (.str "turn")))) [-(bD b),-(bU s),-(b9 e),S (.rf 0)] ω=.ok (e.adg) ω:=bS (b8 (aI (aI (ag W) ay W W u) ay W W A) W);let v:∀{ω:aJ},bM (aF (aG cX (aG aZ (ad 2) (~~~0)) (pC (.str "down")))) [-(bD b),-(bU s),-(b9 e),S (.rf 0)] ω=.ok (e.isDown) ω:=bS (b8 (aI (aI (ag W) ay W W u) ay W W z) W);let l:∀{ω:aJ},HS b (aw b s e) ω->X4 (fy (kr (ah (aV "Hand" "sent" (am 3)) (ah (aK "Hand" "stands" bt 1 (am 3) aC) aC))) [-(bD b),-(bU s),-(b9 e),S (.rf 0)] ω) (λ_ c=>SV.fz .none=.tp [.rf 2,.fz (bU (aw b s e).1)]/\sh c (.rf 2)=S (.list ((aw b s e).2.map qU))) (λ_ _=>False) (λr c=>r=.tp [.rf 2,.fz (bU (aw b s e).1)]/\sh c (.rf 2)=S (.list ((aw b s e).2.map qU))):=λ{ω} I=>by let(h,j,n):=mh I;let m:=bx (ρ:=[-(bD b),-(bU s),-(b9 e),S (.rf 0)]) (i:=3) (m:= "stands") I (by rfl) W aD W j;let(X,J,F,rfl):=I;let(C,G,E,rfl):=n;show Nv (Mf (aj (uC W) (aj m aD)) (Uy W) W W) #[W,cz W]
 let B:pT "Hand" cT 3 (ah (ae (ad 0)) (ah (ae (ad 1)) aC)) [-(bD b),-(bU s),-(b9 e),P] []=.ok (.rf 0) (cH b s [] (gj s.ac) []):=OH (aj (af (ag W)) (aj (af (ag W)) aD)) W IZ;show gQ W (iJ B W ?_);cases e with
 |turn=>let(h,j,n):=Ho Z f q (show 0<800 by decide);show uJ o (jy (bx f (by rfl) W aD W j) (l n))
 |down k=>let(h,j,n):=Gs Z f q y (show 0<800 by decide);let t:aZ (b9 (.down k)) (.int 1)=-(nd k):=kG;show p7 o (uJ v (jy (bx f (by rfl) W (aj (af (aI (ag W) ay W W t)) aD) W j) (l n)))
 |up k=>let(h,j,n):=IV Z f q y (show 0<700 by decide);let t:aZ (b9 (.up k)) (.int 1)=-(nd k):=kG;show p7 o (p7 v (jy (bx f (by rfl) W (aj (af (aI (ag W) ay W W t)) aD) W j) (l n)))
def Lf{e:Yy}(h:SW b s)(l:EV b e):oG gO 3 [.fz (bD b),.fz (bU s),.fz (b9 e)] ω=.ok (.tp [.rf ω.length,.fz (bU (aw b s e).1)]) (ω++[.lst (((aw b s e).2.map qU).map .fz)]):=by
 let(f,n,m):=JC Z h l;ext oG;rw[ax (show([.fz (bD b),.fz (bU s),.fz (b9 e)]:G SV).length=3 from rfl),show aA vB [.fz (bD b),.fz (bU s),.fz (b9 e)]=S [bD b,bU s,b9 e]from rfl];dsimp only;rw[show[bD b,bU s,b9 e].map SV.fz=[.fz (bD b),.fz (bU s),.fz (b9 e)]from rfl,n];show(match B3 f ω.length [.rf 2,.fz (bU (aw b s e).1)]with
  |some (o,cs,q)=>if q.Nodup then RS.ok (SV.tp o) (ω++cs.map RT)else .bad
  |none=>.bad)=_
 let j:B3 f ω.length [.rf 2,.fz (bU (aw b s e).1)]=S ([.rf ω.length,.fz (bU (aw b s e).1)],[(aw b s e).2.map qU],[2]):=by ext B3;rw[m];rfl
 rw[j];dsimp only;rw[ax ()];rfl
end
def xx:W4:=#[λ_=>P,P,P]
theorem t8(b:Bd):SW b xx:=#[#[λk a e=>(by ext e),λo e=>(by ext e)],λf g w e=>(by ext e)]
theorem uf{α:Type}{f:α->D}:∀{l:G α},(∀a∈l,Uv.canLay0 (f a)=R)->Uv.canLayAll0 (l.map f)=R
 |[],_=>rfl
 |a::r,h=>by show(Uv.canLay0 (f a)&&Uv.canLayAll0 (r.map f))=R;rw[h a UX,uf λx b=>h x (UN _ b)];rfl
theorem nW{α:Type}{f:α->D}{n:Nat}:∀{l:G α},(∀a∈l,Uv.depth (f a)<=n)->Uv.depthAll (l.map f)<=n
 |[],_=>Vm _
 |a::r,h=>aic.mpr #[h a UX,nW λx b=>h x (UN _ b)]
def L7{d:D}(b:Uv.canLay0 d=R)(a:Uv.depth d<=64):kg d=R:=by ext kg;simp_all
def sN{d:D}(h:kg d=R):Uv.canLay0 d=R:=by unfold kg at h;simp_all
def zj{d:D}(h:kg d=R):qh d d=-(.bool A):=by ext qh;rw[h,sN h,WW,ax W,Yr d (sN h)];rfl
def Jl{d:D}(h:kg d=R):cX d d=-(.bool R):=by ext cX;rw[h,sN h,WW,ax W,Yr d (sN h)]
section
variable{b:Bd}(Y:VB b){s:W4}{p:W4×Sn}{k:Nat}{a:Mn}
include Y
end
end STP
namespace K41
open PySem L2 L3 STP
def gG:FS:=(bu (kM (aF (aG L8 (ad 1) (fG c9 {ad 0}))) (di (aG aZ (ad 0) (ad 1))) dA)
 (di (~~~0)))
def bK:FN:=fK 2 gG
def dW:FS:=(bu (kM (Ly (aF (aG L8 (ad 0) (~~~0))) (aF (aG Qr (ad 0) (aG EZ (~~~10) (~~~18))))) (bu (mj (mw iE {ad 1}) (gN 3) (fJ (aG xP (ad 0) (~~~1000)) (gN 0)))
 (di (aG nF (ad 0) (ad 2)))) dA)
 (bu (fJ (aG fS (aG cV (aG cV (aG nF (ad 0) (~~~1000033)) (aG fS (~~~77) (ad 1))) (~~~5)) (aG cV (aG fS (ad 1) (ad 1)) (~~~40009))) (gN 4))
 (di (aG nF (aG xP (aG nF (aG cV (aG fS (aG nF (ad 4) (~~~998857)) (~~~30011)) (ad 1)) (~~~999983)) (~~~3)) (ad 2)))))
def aN:FN:=fK 5 dW
def eX:FS:=(di (aG gh (pC (.str "abz")) (cZ aN 3 {ad 0,ad 1,~~~3})))
def cA:FN:=fK 2 eX
def cI:FS:=(bu (fJ (cZ aN 3 {ad 0,~~~11,~~~12}) (gN 3))
 (bu (kM (aF (aG cX (ad 2) (~~~1))) (fJ (aG aZ (cC {~~~1,~~~1,~~~1,~~~8}) (cZ aN 3 {ad 0,~~~12,~~~4})) (gN 3)) dA)
 (bu (fJ (aG cV (~~~1) (cZ aN 3 {ad 0,~~~13,fG vk {~~~1,aG nz (ad 2) (~~~1)}})) (gN 4))
 (bu (kM (Ly (aF (aG cX (ad 3) (~~~4))) (aF (aG cX (ad 3) (~~~5)))) (di (bG {pC (.str "layer"),ad 4})) dA)
 (bu (kM (Ly (aF (aG cX (ad 3) (~~~6))) (aF (aG cX (ad 3) (~~~7)))) (di (bG {pC (.str "tap"),cZ cA 2 {ad 0,~~~14},ad 4})) dA)
 (bu (kM (aF (aG cX (ad 3) (~~~8))) (di (bG {pC (.str "none")})) dA)
 (bu (kM (aF (aG cX (ad 3) (~~~9))) (di (bG {pC (.str "once"),ad 4})) dA)
 (bu (kM (wU (aF (aG K4 (ad 3) (~~~9))) (aF (aG K4 (ad 1) (~~~0)))) (di (bG {pC (.str "below")})) dA)
 (di (bG {pC (.str "letter"),cZ cA 2 {ad 0,~~~15}}))))))))))
def de:FN:=fK 5 cI
def cY:FS:=(bu (fJ (cC aq) (gN 3))
 (bu (mj (mw iE {aG HJ (~~~1) (ad 1)}) (gN 4) (bu (fJ (fG gp {dc 1 [4] (mw iE {ad 1}) (gN 0) (aF (aG cX (aG wN (aG Ci (ad 1) (ad 0)) (~~~1)) (~~~1))) (ad 0)}) (gN 5))
 (bu (fJ (BT (aG K4 (fG c9 {ad 5}) (~~~1)) (fG nG {dc 1 [2] (gq (ad 5)) (gN 0) cN (aG cX (aG aZ (aG aZ (ad 1) (ad 0)) (~~~0)) (pC (.str "letter")))})) (gN 6))
 (kM (wU (aF (ad 6)) (wU (aF (aG L8 (fG c9 {ad 3}) (~~~4))) (aF (aG cX (cZ aN 3 {ad 0,aG cV (~~~20) (ad 4),~~~3}) (~~~0))))) (kQ (wj 3 (bG {ad 5,aG gh (pC (.str "abcz")) (cZ aN 3 {ad 0,aG cV (~~~40) (ad 4),~~~4})}))) dA))))
 (di (fG gp {ad 3}))))
def eS:FN:=fK 7 cY
def eP:FS:=(bu (fJ (cZ bK 2 {ad 0,ad 1}) (gN 3))
 (bu (fJ (aG aZ (cC (aa (~~~1) {~~~2,~~~2,~~~2,~~~3})) (cZ aN 3 {ad 3,~~~5,~~~5})) (gN 4))
 (bu (fJ (cC aq) (gN 5))
 (bu (mj (mw iE {ad 4}) (gN 6) (bu (fJ (dc 1 [0,1,2,6] (mw iE {ad 2}) (gN 0) cN (cZ bK 2 {ad 1,aG cV (aG cV (aG cV (ad 2) (~~~1)) (aG fS (ad 3) (ad 4))) (ad 0)})) (gN 7))
 (kQ (wj 5 (fG gp {dc 1 [6,4] (gq (ad 7)) (gN 0) cN (cZ de 3 {ad 0,ad 1,ad 2})})))))
 (bu (fJ (cZ eS 3 {cZ bK 2 {ad 0,aG cV (ad 1) (~~~10)},ad 2,aG aZ (ad 5) (~~~0)}) (gN 8))
 (di (bG {ad 2,fG gp {ad 5},ad 8,aG cV (~~~1) (cZ aN 3 {ad 3,~~~6,aG aZ (cC {~~~4,~~~4,~~~2}) (aG nz (ad 2) (~~~1))})})))))))
def iz:FN:=fK 9 eP
def gL:FS:=(di (aG aZ (cC {~~~1,~~~2,~~~2,~~~3}) (cZ aN 3 {cZ bK 2 {ad 0,~~~0},~~~1,~~~4})))
def gC:FN:=fK 1 gL
def eU:FS:=(bu (fJ (cC aq) (gN 1))
 (bu (mj (gq (cC {pC (.str "down"),pC (.str "up")})) (gN 2) (mj (mw iE {aG aZ (ad 0) (~~~0)}) (gN 3) (kQ (wj 1 (bG {ad 2,ad 3})))))
 (di (aG cV (ad 1) (cC {bG {pC (.str "turn"),~~~0}})))))
def bJ:FN:=fK 4 eU
def fF:FS:=(bu (fJ (dc 1 [] (mw iE {aG aZ (ad 0) (~~~0)}) (gN 0) cN (bG {pC (.str "down"),ad 0})) (gN 1))
 (bu (fJ (dc 1 [] (mw iE {aG aZ (ad 0) (~~~0)}) (gN 0) cN (bG {pC (.str "up"),ad 0})) (gN 2))
 (di (aG cV (aG cV (ad 1) (ad 2)) (cC {bG {pC (.str "turn"),~~~0}})))))
def cO:FN:=fK 3 fF
end K41
namespace K41
open PySem L2 L3 L10 STP
def bL:dw:=(aB (bR (aQ (pR R (ae (ad 1)) (aV "Places" "numbers" (am 0)))) (aB (bR (aQ (iS Qr (pL c9 (ah (aV "Places" "found" (am 0)) aC)) (aV "Places" "most" (am 0)))) (lr "TooMany" "most" (aV "Places" "most" (am 0))) bX)
 (aB (mx (aV "Places" "numbers" (am 0)) (ae (ad 1)) (pL c9 (ah (aV "Places" "found" (am 0)) aC)))
 (bc (jf (aV "Places" "found" (am 0)) (ae (bG {ad 1,ad 2,ad 3})))))) bX)
 (fy (l8 (aV "Places" "numbers" (am 0)) (ae (ad 1)))))
def bA:fD:=cB 4 bL
def bz:dw:=(aB (d4 "Places" "most" (am 0) (ae (ad 2)))
 (aB (d4 "Places" "found" (am 0) (ae (cC aq)))
 (aB (d4 "Places" "numbers" (am 0) uE)
 (bc (iT "Places" "enter" bA 4 (am 0) (ah (ae (ad 1)) (ah (ae (pC .none)) (ah (ae (pC .none)) aC))))))))
def cx:fD:=cB 3 bz
def jo:dw:=(aB (cU (l7 (ae (cZ cO 1 {ad 0}))) (fw 2))
 (aB (cU (AR "Places" cx 3 (ah (ae (pC (.tuple [(.tuple []),.none,.none]))) (ah (ae (ad 1)) aC))) (fw 3))
 (aB (cU (ae (cC aq)) (fw 4))
 (aB (cU (ae (cC aq)) (fw 5))
 (aB (pQ (aQ (iS L8 (pL c9 (ah (am 4) aC)) (pL c9 (ah (aV "Places" "found" (am 3)) aC)))) (aB (cU (pL c9 (ah (am 4) aC)) (fw 6))
 (aB (cU (gh (gh (aV "Places" "found" (am 3)) (ae (ad 6))) (ae (~~~0))) (fw 7))
 (aB (cU (l7 (jj 1 [0,7] (gz (gq (ad 2))) (fw 0) hG (j9 STP.gO 3 (ah (ae (ad 1)) (ah (ae (ad 2)) (ah (ae (ad 0)) aC)))))) (fw 8))
 (aB (bc (jf (am 4) (pL gp (ah (lZ 2 [3,6] (gz (ut {ad 2,ad 8})) (Nx 2 (mZ (fw 0) (mZ (fw 1) xS))) hG (iT "Places" "enter" bA 4 (am 2) (ah (ae (aG aZ (ad 1) (~~~1))) (ah (ae (ad 3)) (ah (ae (ad 0)) aC))))) aC))))
 (bc (jf (am 5) (ae (fG gp {dc 1 [] (gq (ad 8)) (gN 0) cN (fG gp {aG aZ (ad 0) (~~~0)})})))))))))
 (fy (kr (ah (aV "Places" "found" (am 3)) (ah (am 4) (ah (am 5) aC))))))))))
def jg:fD:=cB 9 jo
def kX:dw:=(fy (gh (vO jg 2 [] (ah (ae (ad 0)) (ah (ae (ad 1)) aC))) (ae (~~~0))))
def cS:fD:=cB 2 kX
def d7:dw:=(aB (cU (ae (cC {bG {bG {bG aq,pC .none,pC .none},pC .none,pC .none}})) (fw 2))
 (aB (cU (A9 (gh (gh (am 2) (ae (~~~0))) (ae (~~~0))) (ae (pC (.bool R)))) (fw 3))
 (aB (cU (ae (~~~0)) (fw 4))
 (aB (pQ (aQ (iS L8 (ae (ad 4)) (pL c9 (ah (am 2) aC)))) (aB (wX (gz (gq (cZ bJ 1 {ad 0}))) (fw 5) (aB (cU (l7 (gh (j9 STP.gO 3 (ah (ae (ad 0)) (ah (gh (gh (am 2) (ae (ad 4))) (ae (~~~0))) (ah (ae (ad 5)) aC)))) (ae (~~~1)))) (fw 6))
 (bR (aQ (pR R (ae (ad 6)) (am 3))) (aB (mx (am 3) (ae (ad 6)) (ae (pC (.bool R))))
 (bc (jf (am 2) (ae (bG {ad 6,ad 4,ad 5}))))) bX)))
 (aB (cU (ae (aG cV (ad 4) (~~~1))) (fw 4))
 (bR (aQ (iS K4 (pL c9 (ah (am 2) aC)) (ae (ad 1)))) (fy (ae (pC .none))) bX))))
 (fy (am 2))))))
def fV:fD:=cB 7 d7
def bv:fD
 |[.fz b,.fz (.int m)],e=>(match cS [.fz b,.fz (.int m)] e with
  |.er x a=>if x.cls=("TooMany":Str)then(match x.fs with
   |[(f,.int k)]=>if f=("most":Str)/\k=m then .ok (.fz (.bool R)) a else .bad
   |_=>.bad)else .bad
  |_=>.bad)
 |_,_=>.bad
def u9:dw:=(aB (cU (ae (cZ iz 3 {ad 0,~~~1,cZ gC 1 {ad 0}})) (fw 1))
 (aB (cU (ae (cZ cO 1 {ad 1})) (fw 2))
 (aB (bR (uV (kJ (aQ (wV "list" (am 2)))) (aQ (iS qh (am 2) (ae (cZ bJ 1 {ad 1}))))) (fy (ae (pC (.bool A)))) bX)
 (aB (bc (vR (am 2)))
 (aB (bR (bM (aF (aG qh (cZ cO 1 {ad 1}) (cZ bJ 1 {ad 1})))) (fy (ae (pC (.bool A)))) bX)
 (aB (cU (pX fV 2 (ah (ae (ad 1)) (ah (ae (~~~90)) aC))) (fw 3))
 (aB (bR (aQ (iS qQ (am 3) (ae (pC .none)))) (fy (pX bv 2 (ah (ae (ad 1)) (ah (ae (~~~90)) aC)))) bX)
 (aB (cU (l6 cS 2 [] (ah (ae (ad 1)) (ah (pL c9 (ah (am 3) aC)) aC))) (fw 4))
 (aB (bR (uV (kJ (aQ (wV "list" (am 4)))) (uV (aQ (iS qh (am 4) (am 3))) (kJ (aQ (mK 4 (fG nG {dc 1 [] (pU 4) (gN 0) cN (rj "tuple" (ad 0))})))))) (fy (ae (pC (.bool A)))) bX)
 (aB (bc (jf (am 4) (ae (pC .none))))
 (fy (vW (iS cX (l6 cS 2 [(.int 400)] (ah (ae (ad 1)) aC)) (am 3)) (pX bv 2 (ah (ae (ad 1)) (ah (iS nz (pL c9 (ah (am 3) aC)) (ae (~~~1))) aC)))))))))))))))
def F_law:fD:=cB 5 u9
abbrev zf(d:D):z PV:=-(d)
abbrev zo(l:G D):z PV:=S (.ow l)
def nZ(a:G Int)(k:Nat):∃c:Int,bK [.list (a.map .int),nd k]=.ok (.fz (.int c)):=by
 let f:c9 [.list (a.map .int)]=-(nd a.length):=(eB _).trans (by rw[Us]);let lt:=kq (k:Int) (a.length:Int);by_cases h:k<a.length
 .rw[a5 ()]at lt;let e:aZ (.list (a.map .int)) (nd k)=-(.int a[k]):=zl (by rw[UG,UE h];rfl);show#[a[k],gR (ρ:=[zf (.list (a.map .int)),zf (nd k)]) W (lh (b:=R) (b8 (aI (rv:=.fz (.bool R)) (ag W) (dX (rv:=.fz (nd a.length)) (ai (ag W) az) W f) W W lt) W) (λ_=>gM (pv:=.fz (.int a[k])) (rv:=.fz (.int a[k])) (aI (rv:=.fz (.int a[k])) (ag W) (ag W) W W e) W W) λq=>nomatch q)]
 .rw[a6 ()]at lt;show#[0,gR (ρ:=[zf (.list (a.map .int)),zf (nd k)]) W (lh (b:=A) (b8 (aI (rv:=.fz (.bool A)) (ag W) (dX (rv:=.fz (nd a.length)) (ai (ag W) az) W f) W W lt) W) (λq=>nomatch q) λ_=>fu (d8 (pv:=.fz (.int 0)) (rv:=.fz (.int 0)) ay W W))]
abbrev ET(c:Int)(k m:Nat)(a b:z PV):aL:=[zf (.int c),zf (nd k),zf (nd m),a,b]
def fX(c:Int)(k m:Nat)(o:k<=1000)(hm:0<m):∃r:Nat,aN [.int c,nd k,nd m]=.ok (.fz (nd r))/\r<m:=by
 let a:∀x:Int,∃r:Nat,nF (.int x) (nd m)=-(nd r)/\r<m:=λx=>by let A:0<=x % (m:Int):=aea _ ();let J:x % (m:Int)<m:=acH _ ();show#[(x % (m:Int)).toNat,?_,by ext];rw[sL (),nd,Zg A]
 let g:∃L,fK 5 dW [.int c,nd k,nd m]=.ok L/\∃r:Nat,L=.fz (nd r)/\r<m:=by
  show pK (T:=λL=>∃r:Nat,L=.fz (nd r)/\r<m) (ρ:=ET c k m P P) W ?_;ext dW;let f:=La;show lh (b:=decide (c<0)||decide ((10:Int)^18<=c)) (ρ1:=ET c k m P P) (Gw (b8 (aI (rv:=.fz (.bool (decide (c<0)))) (ag W) ay W W (kq _ _)) W) λ_=>b8 (aI (rv:=.fz (.bool (decide ((10:Int)^18<=c)))) (ag W) (aI (rv:=.fz (.int ((10:Int)^18))) ay ay W W f) W W (u6 _ _)) W) (λ_=>EC ?_) (λ_=>fu ?_)
  .let B:=iw (n:=k) ()
   show tH (λ_ N=>∃(x:Int) (t:b4 PV),N=ET x k m t P) (ds:=bq (UM k)) (ρ1:=ET c k m P P) (by ext:0) #[c,P,W] ?_ ?_
   .rintro i d N X ⟨x,t,rfl⟩;let e:xP (.int x) (.int 1000)=-(.int (x/1000)):=Cm #[by decide,by decide];show#[_,W,En (ρ2:=ET (x/1000) k m (zf d) P) (aI (rv:=.fz (.int (x/1000))) (ag W) ay W W e) W #[_,_,W]]
   .rintro N ⟨x,t,rfl⟩;let(r,l,j):=a x;show gM (pv:=.fz (nd r)) (rv:=.fz (nd r)) (ρ1:=ET x k m t P) (aI (rv:=.fz (nd r)) (ag W) (ag W) W W l) W #[r,W,j]
  .let K:0<=c % 1000033/\c % 1000033<1000033:=#[aea _ (),acH _ ()]
   let I:(k:Int)*k<=1000000:=by
    let:k*k<=1000*1000:=Y5 o o;let e:(k:Int)*k=((k*k:Nat):Int):=by rw[Int.natCast_mul]
    ext
   let v:0<=(k:Int)*k:=Int.mul_nonneg () ();let H:nF (.int c) (.int 1000033)=-(.int (c % 1000033)):=sL ();let G:fS (.int 77) (nd k)=-(.int (77*k)):=kO #[by ext,by ext];let F:fS (nd k) (nd k)=-(.int (k*k)):=kO #[by ext,by ext];let u:fS (.int (c % 1000033+77*k+5)) (.int (k*k+40009))=-(.int ((c % 1000033+77*k+5)*(k*k+40009))):=kO #[by ext,by ext];generalize Q:(c % 1000033+77*(k:Int)+5)*(k*k+40009)=x at u;let E:nF (.int x) (.int 998857)=-(.int (x % 998857)):=sL ();let q:fS (.int (x % 998857)) (.int 30011)=-(.int (x % 998857*30011)):=Fv #[by ext,by ext];generalize x % 998857*30011=y at q;let p:nF (.int (y+k)) (.int 999983)=-(.int ((y+k) % 999983)):=sL ();generalize (y+(k:Int)) % 999983=z at p;let C:xP (.int z) (.int 3)=-(.int (z/3)):=Cm #[by ext,by ext];let(r,l,j):=a (z/3);show dU (ρ3:=ET c k m P (zf (.int x))) (by ext:0) W W ?_;show d8 (pv:=.fz (nd r)) (rv:=.fz (nd r)) (ρ1:=ET c k m P (zf (.int x))) (aI (rv:=.fz (nd r)) (by ext:0) (ag W) W W l) W #[r,W,j]
 let(L,h,r,rfl,w):=g;show#[r,h,w]
def Ph{z:Str}{cs:G Nat}(d:z.cps.toList=cs.map (97+·))(a:z.length<=1000000){r:Int}{c:Nat}(b:0<=r)(h:cs[r.toNat]?=S c):L3.gh (.str z) (.int r)=-(.str (iX c)):=by show(if z.length<=1000000 then(jS z.cps.toList r).map (λc=>RV.fz (.str #[#v[c]]))else P)=_;rw[ax a,d,sY (v:=97+c) b (by simp_all)];rfl
def Fb{z:Str}(cs:G Nat)(d:z.cps.toList=cs.map (97+·))(b:z.length<=1000000)(e:∀c∈cs,c<26){r:Int}(f:0<=r)(g:r<cs.length):∃c,c<26/\L3.gh (.str z) (.int r)=-(.str (iX c)):=by
 let a:r.toNat<cs.length:=by ext
 show#[cs[r.toNat],e _ (ZL a),Ph d b f (UE a)]
def vI{n i k:Nat}(h:(UM n)[i]?=S k):k=i/\i<n:=by let(b,a):=Ux.mp h;rw[acz]at a;rw[Vh]at b;show#[a.symm,b]
def Hz{n a:Int}{e:G (G Mn)}{b:G Mn}(h:VL n a e)(g:(b.length:Int)=n)(f:∀m∈b,VM e.length a m):VL n a (e++[b]):=by
 intro i l j;rcases L10.aX j with o|⟨rfl,rfl⟩
 .show h i l o
 .show#[g,f]
def sA(c:Int)(k:Nat)(e:k<=1000):∃l,l<26/\cA [.int c,nd k]=.ok (.fz (.str (iX l))):=by let(r,er,g):=fX c k 3 e ();let a:aN [.int c,nd k,.int 3]=.ok (.fz (nd r)):=er;let(l,b,f):=Fb (z:= "abz") [0,1,25] (by left) (by left) () (show(0:Int)<=(r:Int) by ext) (show(r:Int)<3 by ext);show#[l,b,gR (ρ:=[zf (.int c),zf (nd k)]) W (d8 (pv:=.fz (.str (iX l))) (rv:=.fz (.str (iX l))) (ρ1:=[zf (.int c),zf (nd k)]) (aI (rv:=.fz (.str (iX l))) ay (bZ (rv:=.fz (nd r)) (ds:=[.int c,nd k,.int 3]) (ai (ag W) (ai (ag W) (ai ay az))) W W a) W W f) W W)]
def On{a:Nat}(b:1<=a):∃M:Nat,vk [.int 1,.int ((a:Int) - 1)]=-(nd M)/\1<=M/\(1<a->M=a - 1):=by
 by_cases h:1<a
 .show#[a - 1,?_,by ext,λ_=>W];show S (RV.fz (.int (if(1:Int)<(a:Int) - 1 then(a:Int) - 1 else 1)))=S (RV.fz (.int ((a - 1:Nat):Int)));congr 3;split<;>ext
 .obtain rfl:a=1:=by ext
  show#[1,W,by ext,λh=>by ext]
abbrev E5(c:Int)(L e:Nat)(a b:z PV):aL:=[zf (.int c),zf (nd L),zf (nd e),a,b]
def HG(c:Int)(L a:Nat)(n:1<=a)(I:a<=1000):∃m:Mn,VM L a m/\de [.int c,nd L,nd a]=.ok (.fz (mD m)):=by
 let(i,e0,y):=fX c 11 12 () ();let(f,e1,v):=fX c 12 4 () ();let(M,G,M1,M2):=On n;let(lv,e2,A):=fX c 13 M () ();let(l,C,e4):=sA c 14 ();let(j,B,e5):=sA c 15 ();let e0:aN [.int c,.int 11,.int 12]=.ok (.fz (nd i)):=e0;let e1:aN [.int c,.int 12,.int 4]=.ok (.fz (nd f)):=e1;let e2:aN [.int c,.int 13,nd M]=.ok (.fz (nd lv)):=e2;let e4:cA [.int c,.int 14]=.ok (.fz (.str (iX l))):=e4;let e5:cA [.int c,.int 15]=.ok (.fz (.str (iX j))):=e5;let o:∃J,fK 5 cI [.int c,nd L,nd a]=.ok J/\∃m:Mn,VM L a m/\J=.fz (mD m):=by
  show pK (T:=λJ=>∃m:Mn,VM L a m/\J=.fz (mD m)) (ρ:=E5 c L a P P) W ?_;ext cI;show dU (ρ3:=E5 c L a (zf (nd i)) P) (bZ (rv:=.fz (nd i)) (ds:=[.int c,.int 11,.int 12]) (ai (ag W) (ai ay (ai ay az))) W W e0) W W ?_;show Eg (Go.imp (N:=λr=>∃w:Int,(a=1->w=1\/w=8)/\r=E5 c L a (zf (.int w)) P) (Db (b:=decide ((a:Int)=1)) (ρ1:=E5 c L a (zf (nd i)) P) (b8 (aI (rv:=.fz (.bool (decide ((a:Int)=1)))) (ag W) ay W W (iu _ _)) W) (λq=>?_) (λq=>?_)) (λr #[w,p,e]=>?_) (λ_ h=>h) (λ_ h=>h))
  .obtain⟨x,u,F⟩:∃x:Int,(x=1\/x=8)/\aZ (.list [.int 1,.int 1,.int 1,.int 8]) (nd f)=-(.int x):=by
    let:f=0\/f=1\/f=2\/f=3:=by ext
    rcases this with rfl|rfl|rfl|rfl
    .show#[1,.inl W,zl W]
    .show#[1,.inl W,zl W]
    .show#[1,.inl W,zl W]
    .show#[8,.inr W,zl W]
   show En (pv:=.fz (.int x)) (ρ2:=E5 c L a (zf (.int x)) P) (aI (rv:=.fz (.int x)) (by ext:0) (bZ (rv:=.fz (nd f)) (ds:=[.int c,.int 12,.int 4]) (ai (ag W) (ai ay (ai ay az))) W W e1) W W F) W #[x,λ_=>u,W]
  .let q:=of_decide_eq_false q;show sR #[i,λz=>by ext,W]
  subst e;show dU (ρ3:=E5 c L a (zf (.int w)) (zf (.int (1+(lv:Int))))) (aI (rv:=.fz (.int (1+(lv:Int)))) ay (bZ (rv:=.fz (nd lv)) (ds:=[.int c,.int 13,nd M]) (ai (ag W) (ai ay (ai (dX (rv:=.fz (nd M)) (ds:=[.int 1,.int ((a:Int) - 1)]) (ai ay (ai (aI (rv:=.fz (.int ((a:Int) - 1))) (ag W) ay W W (mH _ _)) az)) W G) az))) W W e2) W W (fM _ _)) W W ?_;let g:1<a->(1:Int)<=1+(lv:Int)/\1+(lv:Int)<a:=λz=>by let:=M2 z;ext
  show lh (b:=decide (w=4)||decide (w=5)) (ρ1:=E5 c L a (zf (.int w)) (zf (.int (1+(lv:Int))))) (by ext:0) (λq=>?_) (λ_=>fu ?_)
  .show gM (pv:=.fz (mD (.Xa (1+(lv:Int))))) (rv:=.fz (mD (.Xa (1+(lv:Int))))) (ρ1:=E5 c L a (zf (.int w)) (zf (.int (1+(lv:Int))))) (show _=Res.ok (PV.fz (.tuple [.str "layer",.int (1+(lv:Int))]),_) by ext:0) W #[_,?_,W];rw[VT,decide_eq_true_eq,decide_eq_true_eq]at q;show g (Zt n λz=>by let:=p z.symm;ext)
  show lh (b:=decide (w=6)||decide (w=7)) (ρ1:=E5 c L a (zf (.int w)) (zf (.int (1+(lv:Int))))) (by ext:0) (λq=>?_) (λ_=>fu ?_)
  .show gM (pv:=.fz (mD (.ZC l (1+(lv:Int))))) (rv:=.fz (mD (.ZC l (1+(lv:Int))))) (ρ1:=E5 c L a (zf (.int w)) (zf (.int (1+(lv:Int))))) (show _=Res.ok (PV.fz (.tuple [.str "tap",.str (iX l),.int (1+(lv:Int))]),_) by ext:0) W #[_,?_,W];rw[VT,decide_eq_true_eq,decide_eq_true_eq]at q;show#[C,g (Zt n λz=>by let:=p z.symm;ext)]
  show lh (b:=decide (w=8)) (ρ1:=E5 c L a (zf (.int w)) (zf (.int (1+(lv:Int))))) (by ext:0) (λq=>?_) (λ_=>fu ?_)
  .show gM (pv:=.fz (mD .none)) (rv:=.fz (mD .none)) (ρ1:=E5 c L a (zf (.int w)) (zf (.int (1+(lv:Int))))) (show _=Res.ok (PV.fz (.tuple [.str "none"]),_) by ext:0) W #[.none,trivial,W]
  show lh (b:=decide (w=9)) (ρ1:=E5 c L a (zf (.int w)) (zf (.int (1+(lv:Int))))) (by ext:0) (λq=>?_) (λ_=>fu ?_)
  .show gM (pv:=.fz (mD (.once (1+(lv:Int))))) (rv:=.fz (mD (.once (1+(lv:Int))))) (ρ1:=E5 c L a (zf (.int w)) (zf (.int (1+(lv:Int))))) (show _=Res.ok (PV.fz (.tuple [.str "once",.int (1+(lv:Int))]),_) by ext:0) W #[_,?_,W];rw[decide_eq_true_eq]at q;show g (Zt n λz=>by let:=p z.symm;ext)
  let E:K4 (nd L) (.int 0)=-(.bool (decide ((0:Int)<L))):=W;show lh (b:=(decide (9<w)&&decide ((0:Int)<L))) (ρ1:=E5 c L a (zf (.int w)) (zf (.int (1+(lv:Int))))) (by ext:0) (λq=>?_) (λ_=>fu ?_)
  .rw[Ur]at q;let H:=a7 q.2;show gM (pv:=.fz (mD .below)) (rv:=.fz (mD .below)) (ρ1:=E5 c L a (zf (.int w)) (zf (.int (1+(lv:Int))))) (show _=Res.ok (PV.fz (.tuple [.str "below"]),_) by ext:0) W #[.below,by show(L:Int)≠0;ext,W]
  show d8 (pv:=.fz (mD (.Vq j))) (rv:=.fz (mD (.Vq j))) (ρ1:=E5 c L a (zf (.int w)) (zf (.int (1+(lv:Int))))) (show _=Res.ok (PV.fz (.tuple [.str "letter",.str (iX j)]),_) by ext:0) W #[.Vq j,B,W]
 let(J,h,m,t,rfl):=o;show#[m,t,h]
structure CsV(l0:G Mn)(cs:G (G Nat×Nat)):Prop where
 vc:∀c∈cs,VC l0 c
 un:cs.Pairwise λa c=>a.1≠c.1
theorem CsV.nil(l0:G Mn):CsV l0 []:=#[λc a=>(by ext a),YH]
def CsV.add(h:CsV l0 cs)(j:2<=s.length)(f:s.Pairwise (·<·))(i:∀k∈s,B8 l0 k=R)(g:l<26)(e:s∉cs.map (·.1)):CsV l0 (cs++[(s,l)]):=by
 show#[λc b=>(VD.mp b).elim (h.vc c) λz=>?_,List.pairwise_append.mpr #[h.un,List.pairwise_singleton _ _,λa m c b=>?_]]
 .rw[Ve.mp z];show#[j,f,i,g]
 .rw[Ve.mp b];show λz=>e (Vt.mpr #[a,m,z])
def Pa(a:k<l0.length):∃d,aZ (i4 l0) (nd k)=-(d)/\∃w,aZ d (.int 0)=-(.str w)/\cX (.str w) (.str "letter")=-(.bool (B8 l0 k)):=by
 let e5:B8 l0 k=l0[k].isL:=by ext B8;rw[UE a];rfl
 rw[e5];show#[mD l0[k],Ob (by rw[UG,UE a];rfl),_,rO _,jR _]
def Qx(i:Int)(k:Nat):Ci (.int i) (nd k)=-(.int (i/2^k)):=by show(if SY i (k:Int)=R then S (RV.fz (.int (i/2^((k:Nat):Int).toNat)))else P)=_;rw[ax (by ext SY;show a5 ()),VR]
def OI(x:Int)(k:Nat):Bool:=decide (Vx.bitAnd (x/2^k) 1=1)
def nc(n m:Nat):G Nat:=(UM n).filter (OI m)
def Jf:∀n,n<4->∀a,a<2^n->∀b,b<2^n->nc n a=nc n b->a=b:=by left
theorem i6(p:α->Bool):∀l:G α,ng (l.map λc=>Uv.bool (p c))=S (l.map p)
 |[]=>rfl
 |c::r=>by show(ng (r.map λc=>Uv.bool (p c))).map (p c::·)=_;rw[i6 p r];rfl
def lK(p:α->Bool)(l:G α):nG [.list (l.map λc=>Uv.bool (p c))]=-(.bool (l.all p)):=by show(ng _).map (λbs=>RV.fz (.bool (bs.all id)))=_;rw[i6];simp_all
abbrev E7(c:Int)(n:Nat)(l0:G Mn)(cs:G (G Nat×Nat))(a b d:z PV):aL:=[zf (.int c),zf (nd n),zf (i4 l0),zo (cs.map Wk),a,b,d]
def A1(c:Int)(n:Nat)(D:n<4)(l0:b3 Mn)(V:l0.length=n):∃cs,CsV l0 cs/\cs.length<=4/\eS [.int c,nd n,i4 l0]=.ok (.fz (.tuple (cs.map Wk))):=by
 let p8:2^n<=8:=Vb (Nat.pow_le_pow_right () (show n<=3 by ext)) ();let rgm:iE [nd (2^n)]=cL (bq (UM (2^n))):=iw ();let Z:iE [nd n]=cL (bq (UM n)):=iw ();let U:=IH n ();let E:∃rv,fK 7 cY [.int c,nd n,i4 l0]=.ok rv/\∃cs,CsV l0 cs/\cs.length<=4/\rv=.fz (.tuple (cs.map Wk)):=by
  show pK W ?_;ext cY;show dU (ρ3:=E7 c n l0 [] Uo Uo Uo) (by ext:0) W W ?_;show tH (λi ρ=>∃(cs:b3 (b3 Nat×Nat)) (A p o:b4 PV),CsV l0 cs/\cs.length<=4/\(∀s∈cs.map (·.1),∃m,m<i/\m<2^n/\s=nc n m)/\ρ=E7 c n l0 cs A p o) (by ext:0) #[[],Uo,Uo,Uo,CsV.nil _,Vm _,(λs F=>by ext F),W] ?_ ?_
  .rintro i d ρ hi ⟨cs,A,p,o,g,y,v,rfl⟩
   let(k,hk,rfl):=oi hi;let(rfl,e):=vI hk;show#[E7 c n l0 cs (zf (nd k)) p o,W,?_];let f:i9 (cW (gN 0) (aF (aG cX (aG wN (aG Ci (ad 1) (ad 0)) (~~~1)) (~~~1))) (ad 0) (bq (UM n)) [Uo,-(nd k)] [])=.ok ((nc n k).map nd):=uA nd nd (OI k) (UM n) (by rw[Vh];ext) W (λj r=>by let Y:=Qx (k:Int) j;let X:wN (.int ((k:Int)/2^j)) (.int 1)=-(.int (Vx.bitAnd ((k:Int)/2^j) 1)):=W;show b8 (aI (aI (aI (ag W) (ag W) W W Y) ay W W X) ay W W (iu _ _)) W) λj _ _=>ag W;let sp:(nc n k).Pairwise (·<·):=af2 _ abl;let O:∀j∈nc n k,j<n:=λj r=>WE.mp (Ws.mp r).1;let T:(nc n k).length<=n:=by let:=YS (OI k) (UM n);rw[Vh]at this;show this
   let N:nc n k∉cs.map (·.1):=λz=>by let(m,m1,C,B):=v _ z;let:=Jf n D k e m C B;ext
   let b:∀s∈cs.map (·.1),∃m,m<k+1/\m<2^n/\s=nc n m:=λs F=>by let(m,m1,C,B):=v s F;show#[m,by ext,C,B]
   let P:∃m,m<k+1/\m<2^n/\nc n k=nc n m:=#[k,by ext,e,W];generalize nc n k=s at f sp O T N P;show dU (dX (ai (dM (by ext:0) W f) az) W W) W W ?_;let G:c9 [.tuple (bq s)]=-(nd s.length):=(jt _).trans (by rw[fh]);let L:i9 (cW (gN 0) cN (aG cX (aG aZ (aG aZ (ad 1) (ad 0)) (~~~0)) (pC (.str "letter"))) (bq s) [Uo,-(i4 l0)] [])=.ok (s.map λj=>.bool (B8 l0 j)):=iH nd (λj=>.bool (B8 l0 j)) s () W (λj r=>by let(d,e1,w,e2,e3):=Pa (l0:=l0) (k:=j) (by let:=O j r;ext);show aI (aI (aI (ag W) (ag W) W W e1) ay W W e2) ay W W e3);show dU (tE (b8 (aI (dX (ai (ag W) az) W G) ay W W (Am _ _)) W) λ_=>dX (ai (dM (by ext:0) W L) az) W (lK _ _)) W W ?_;let(t,K,ht):=fX c (20+k) 3 () ();let K:=K;let(u,J,hu):=fX c (40+k) 4 () ();let J:=J;let(l,M,el):=Fb (z:= "abcz") [0,1,2,25] (by left) (by left) () (show(0:Int)<=(u:Int) by ext) (show(u:Int)<4 by ext);let H:c9 [.list (cs.map Wk)]=-(nd cs.length):=(eB _).trans (by rw[Us]);generalize hg:(decide ((1:Int)<(s.length:Int))&&s.all (B8 l0))=gd;show Db
    (uS (b8 (ag W) W) λ_=>uS (b8 (aI (dX (ai (iM W) az) W H) ay W W (kq _ _)) W) λ_=>b8 (aI (bZ (ai (ag W) (ai (aI ay (ag W) W W (fM _ _)) (ai ay az))) W W K) ay W W (iu _ _)) W) (λq=>?_) λ_=>sR #[cs,_,_,_,g,y,b,W]
   rw[Ur,Ur]at q;let(I,Q,_):=q;let Q:=a7 Q;rw[<-hg,Ur,VP]at I;let g3:=a7 I.1;show oh (uT W (eD (ai (ag W) (ai (aI ay (bZ (ai (ag W) (ai (aI ay (ag W) W W (fM _ _)) (ai ay az))) W W J) W W el) az)) W (Uy W)) W W (by rw[Us];ext) (by show _=[zf (.int c),zf (nd n),zf (i4 l0),zo ((cs++[(s,l)]).map Wk),_,_,_];rw[UP];rfl)) #[cs++[(s,l)],_,_,_,g.add () sp I.2 M N,by rw[Uz];show cs.length+1<=4;ext,λx a=>by
    rw[UP,VD]at a;rcases a with a|a
    .show b x a
    .rw[Ve.mp a];show P,W]
  .rintro ρ ⟨cs,A,p,o,g,y,v,rfl⟩;show d8 (dX (ai (iM W) az) W W) W #[cs,g,y,W]
 let(rv,h,cs,S,R,rfl):=E;show#[cs,S,R,h]
def Rj(h:1<=n)(g:n<=5)(j:rs.length<=3)(b:rs[0]?=S l0)(i:VL n rs.length rs)(a:CsV l0 cs)(l:cs.length<=4)(f:1<=w)(e:w<=4):VB #[n,rs,cs,w]:=by
 cases rs with
 |nil=>ext b
 |cons x r=>cases UI b;show#[h,g,by simp_all,j,i,l,a.vc,a.un,f,e]
abbrev E9(f:G Int)(a n:Nat)(c:Int)(g:Nat)(h d e b:z PV):aL:=[zf (.list (f.map .int)),zf (nd a),zf (nd n),zf (.int c),zf (nd g),h,d,e,b]
def TH{n:Nat}(a:n=1\/n=2\/n=3):∃w:Nat,0<w/\w<=4/\aZ (.list [.int 4,.int 4,.int 2]) (.int ((n:Int) - 1))=-(nd w):=by
 rcases a with rfl|rfl|rfl
 .show#[4,by decide,by decide,IL () W]
 .show#[4,by decide,by decide,IL () W]
 .show#[2,by decide,by decide,IL () W]
def Uf{r:Nat}(a:r<5):∃w:Nat,1<=w/\w<=3/\aZ (.list [.int 1,.int 2,.int 2,.int 2,.int 3]) (nd r)=-(nd w):=by
 let:r=0\/r=1\/r=2\/r=3\/r=4:=by ext
 rcases this with rfl|rfl|rfl|rfl|rfl
 .show#[1,by decide,by decide,zl W]
 .show#[2,by decide,by decide,zl W]
 .show#[2,by decide,by decide,zl W]
 .show#[2,by decide,by decide,zl W]
 .show#[3,by decide,by decide,zl W]
def J8(a:G Int):∃n:Nat,(n=1\/n=2\/n=3)/\gC [.list (a.map .int)]=.ok (.fz (nd n)):=by
 let(c,b):=nZ a 0;let b:bK [.list (a.map .int),.int 0]=.ok (.fz (.int c)):=b;let(r,er,f):=fX c 1 4 () ();let er:aN [.int c,.int 1,.int 4]=.ok (.fz (nd r)):=er;obtain⟨n,g,e⟩:∃n:Nat,(n=1\/n=2\/n=3)/\aZ (.list [.int 1,.int 2,.int 2,.int 3]) (nd r)=-(nd n):=by
  let:r=0\/r=1\/r=2\/r=3:=by ext
  rcases this with rfl|rfl|rfl|rfl
  .show#[1,by decide,zl W]
  .show#[2,by decide,zl W]
  .show#[2,by decide,zl W]
  .show#[3,by decide,zl W]
 show#[n,g,gR (ρ:=[zf (.list (a.map .int))]) W (d8 (pv:=.fz (nd n)) (rv:=.fz (nd n)) (ρ1:=[zf (.list (a.map .int))]) (aI (rv:=.fz (nd n)) (by ext:0) (bZ (rv:=.fz (nd r)) (ds:=[.int c,.int 1,.int 4]) (ai (bZ (rv:=.fz (.int c)) (ds:=[.list (a.map .int),.int 0]) (ai (ag W) (ai ay az)) W W b) (ai ay (ai ay az))) W W er) W W e) W W)]
def N9(g:b3 Int)(a n:Nat)(s:n=1\/n=2\/n=3):∃b:Bd,VB b/\b.n=n/\iz [.list (g.map .int),nd a,nd n]=.ok (.fz (bD b)):=by
 let(p,e0):=nZ g a;let(R,e5,h5):=fX p 5 5 () ();let e5:aN [.int p,.int 5,.int 5]=.ok (.fz (nd R)):=e5;let(l,l1,l3,el):=Uf h5;let(w,U,w4,ew):=TH s;let(C,e6,h6):=fX p 6 w () U;let e6:aN [.int p,.int 6,nd w]=.ok (.fz (nd C)):=e6;let(J,A):=nZ g (a+10);let A:bK [.list (g.map .int),.int ((a:Int)+10)]=.ok (.fz (.int J)):=A;let n1:(1:Int)<=(n:Int):=by rcases s with rfl|rfl|rfl<;>decide
 let n3:(n:Int)<=3:=by rcases s with rfl|rfl|rfl<;>decide
 let Y:iE [nd n]=cL (bq (UM n)):=iw ();let Z:iE [nd l]=cL (bq (UM l)):=iw ();let N:∃rv,fK 9 eP [.list (g.map .int),nd a,nd n]=.ok rv/\∃b:Bd,(VB b/\b.n=n)/\rv=.fz (bD b):=by
  show pK (T:=λrv=>∃b:Bd,(VB b/\b.n=n)/\rv=.fz (bD b)) (ρ:=[zf (.list (g.map .int)),zf (nd a),zf (nd n),Uo,Uo,Uo,Uo,Uo,Uo]) W ?_;ext eP;show dU (ρ3:=[zf (.list (g.map .int)),zf (nd a),zf (nd n),zf (.int p),Uo,Uo,Uo,Uo,Uo]) (by ext:0) W W ?_;show dU (ρ3:=E9 g a n p l Uo Uo Uo Uo) (aI (rv:=.fz (nd l)) (by ext:0) (bZ (rv:=.fz (nd R)) (ds:=[.int p,.int 5,.int 5]) (ai (ag W) (ai ay (ai ay az))) W W e5) W W el) W W ?_;show dU (ρ3:=E9 g a n p l (zo []) Uo Uo Uo) (by ext:0) W W ?_;show tH (λi ρ=>∃(e:b3 (b3 Mn)) (F E:b4 PV),e.length=i/\VL n l e/\ρ=E9 g a n p l (zo (e.map i4)) F E Uo) (ds:=bq (UM l)) (ρ1:=E9 g a n p l (zo []) Uo Uo Uo) (by ext:0) #[[],Uo,Uo,W,(λj r h=>by ext h),W] ?_ ?_
  .rintro i d ρ hi ⟨e,F,E,G,I,rfl⟩
   let(L,hL,rfl):=oi hi;let(rfl,hin):=vI hL;show#[E9 g a n p l (zo (e.map i4)) (zf (nd L)) E Uo,W,?_];let mu:fS (nd n) (nd L)=-(.int ((n:Int)*L)):=kO #[by ext,by ext];let(xs,c1,c2,c3):=vX (gt:=gN 0) (ft:=cN) (fe:=cZ bK 2 {ad 1,aG cV (aG cV (aG cV (ad 2) (~~~1)) (aG fS (ad 3) (ad 4))) (ad 0)}) (ds:=bq (UM n)) (ρ:=[Uo,zf (.list (g.map .int)),zf (nd a),zf (nd n),zf (nd L)]) (λρ=>∃o,ρ=[o,zf (.list (g.map .int)),zf (nd a),zf (nd n),zf (nd L)]) (λ_ x=>∃y:Int,x=.int y/\True) #[Uo,W] (by rw[fh,Vh];ext) (by rintro j d z ρ ⟨o,rfl⟩;let(k,hk,rfl):=oi z;let(c,H):=nZ g (a+1+n*L+k);let H:bK [.list (g.map .int),.int ((a:Int)+1+(n:Int)*L+k)]=.ok (.fz (.int c)):=H;show#[.int c,_,Hh (ρ1:=[zf (nd k),zf (.list (g.map .int)),zf (nd a),zf (nd n),zf (nd L)]) W W (bZ (rv:=.fz (.int c)) (ds:=[.list (g.map .int),.int ((a:Int)+1+(n:Int)*L+k)]) (ai (ag W) (ai (aI (rv:=.fz (.int ((a:Int)+1+(n:Int)*L+k))) (aI (rv:=.fz (.int ((a:Int)+1+(n:Int)*L))) (aI (rv:=.fz (.int ((a:Int)+1))) (ag W) ay W W (fM _ _)) (aI (rv:=.fz (.int ((n:Int)*L))) (ag W) (ag W) W W mu) W W (fM _ _)) (ag W) W W (fM _ _)) az)) W W H) W W,#[_,W],c,W,trivial]);let(cs,rfl,_):=tK (f:=Uv.int) (Q:=λ_ (_:Int)=>True) xs 0 c3;rw[fh,Vh,Us]at c2;show dU (pv:=.ow (cs.map .int)) (ρ3:=E9 g a n p l (zo (e.map i4)) (zf (nd L)) (zo (cs.map .int)) Uo) (dM (cs:=[.list (g.map .int),nd a,nd n,nd L]) (ds:=bq (UM n)) (by ext:0) W c1) W W ?_;let(S,c4,c5,c6):=vX (gt:=gN 0) (ft:=cN) (fe:=cZ de 3 {ad 0,ad 1,ad 2}) (ds:=cs.map .int) (ρ:=[Uo,zf (nd L),zf (nd l)]) (λρ=>∃o,ρ=[o,zf (nd L),zf (nd l)]) (λ_ x=>∃y:Mn,x=mD y/\VM L l y) #[Uo,W] (by rw[Us];ext) (by
    rintro j d z ρ ⟨o,rfl⟩;obtain⟨c,rfl⟩:∃c:Int,d=.int c:=by
     rw[UG]at z;cases q:cs[j]? with
     |none=>rw[q]at z;ext z
     |some x=>rw[q]at z;show#[x,(UI z).symm]
    let(m,K,em):=HG c L l l1 ();show#[mD m,_,Hh (ρ1:=[zf (.int c),zf (nd L),zf (nd l)]) W W (bZ (rv:=.fz (mD m)) (ds:=[.int c,nd L,nd l]) (ai (ag W) (ai (ag W) (ai (ag W) az))) W W em) W W,#[_,W],m,W,K])
   let(u,rfl,q6):=tK (f:=mD) (Q:=λ_ y=>VM L l y) S 0 c6;rw[Us,Us]at c5;let M:gp [.list (u.map mD)]=-(i4 u):=W;let O:(e.map i4).length<1000000:=by rw[Us];ext
   show oh (pv:=.fz .none) (ρ1:=E9 g a n p l (zo (e.map i4++[i4 u])) (zf (nd L)) (zf (.list (cs.map .int))) Uo) (uT (pa:=.fz (i4 u)) (d:=i4 u) W (dX (rv:=.fz (i4 u)) (ds:=[.list (u.map mD)]) (ai (dM (cs:=[nd L,nd l]) (ds:=cs.map .int) (jG (iM W) W W) W c4) az) W M) W W O W) #[e++[u],_,_,by rw[Uz,G];rfl,Hz I () (λm hm=>?_),by rw[UP];rfl];let(t,ht):=XF.mp hm;rw[G];show q6 t m ht
  .rintro ρ ⟨e,F,E,G,I,rfl⟩;rw[fh,Vh]at G;obtain⟨v,P⟩:∃v,e[0]?=cL v:=#[_,UE (show 0<e.length by ext)];let hl0:=(I 0 v P).1;let(cs,K,X,H):=A1 J n () v ();let i0:aZ (.list (e.map i4)) (.int 0)=-(i4 v):=IL () (by show(e.map i4)[0]?=_;rw[UG,P];rfl);show dU (ρ3:=E9 g a n p l (zo (e.map i4)) F E (zf (.tuple (cs.map Wk)))) (bZ (rv:=.fz (.tuple (cs.map Wk))) (ds:=[.int J,nd n,i4 v]) (ai (bZ (rv:=.fz (.int J)) (ds:=[.list (g.map .int),.int ((a:Int)+10)]) (ai (ag W) (ai (aI (rv:=.fz (.int ((a:Int)+10))) (ag W) ay W W (fM _ _)) az)) W W A) (ai (ag W) (ai (aI (rv:=.fz (i4 v)) (dx:=.list (e.map i4)) (iM W) ay W W i0) az))) W W H) W W ?_;let M:gp [.list (e.map i4)]=-(.tuple (e.map i4)):=W;show d8 (pv:=.fz (bD #[n,e,cs,1+(C:Int)])) (rv:=.fz (bD #[n,e,cs,1+(C:Int)])) (ρ1:=E9 g a n p l (zo (e.map i4)) F E (zf (.tuple (cs.map Wk)))) (eD (ds:=[nd n,.tuple (e.map i4),.tuple (cs.map Wk),.int (1+(C:Int))]) (ai (ag W) (ai (dX (rv:=.fz (.tuple (e.map i4))) (ds:=[.list (e.map i4)]) (ai (iM W) az) W M) (ai (ag W) (ai (aI (rv:=.fz (.int (1+(C:Int)))) ay (bZ (rv:=.fz (nd C)) (ds:=[.int p,.int 6,nd w]) (ai (ag W) (ai ay (ai (aI (rv:=.fz (nd w)) (dx:=.list [.int 4,.int 4,.int 2]) (by ext:0) (aI (rv:=.fz (.int ((n:Int) - 1))) (ag W) ay W W (mH _ _)) W W ew) az))) W W e6) W W (fM _ _)) az)))) W (Uy W)) W #[_,#[Rj n1 (Int.le_trans n3 ()) () P (by rw[G];show I) K X () (),W],W]
 let(rv,h,b,(B,hb),rfl):=N;show#[b,B,hb,h]
section
variable{ρ N:aP}{Q T Z Y:aJ}{x y z:SV}{i:Nat}{d:D}{X:b3 (D×D)}
def Eu(h:Q[i]?=S (.dd X)):qX Q (.rf i)=S (i,X):=by ext qX;dsimp only;rw[h]
def Au(a:o ρ Q=.ok x T)(hd:fd ρ T=.ok (.rf i) Z)(e:iU x=S k)(b:Z[i]?=S (.dd X)):pR neg o fd ρ Q=.ok (.fz (.bool ((fO X k).isSome !=neg))) Z:=by ext pR;rw[a,eH,hd,eH,e];show((RS.Vu Z (qX Z (.rf i))).bind _)=_;rw[Eu b];rfl
def Cf(hd:fd ρ Q=.ok (.rf i) T)(a:o ρ T=.ok x Z)(f:iU x=S k)(e:Z[i]?=S (.dd X))(b:fO X k=S d):l8 fd o ρ Q=.ok (.fz d) Z:=by ext l8;rw[hd,eH,a,eH,f];show((RS.Vu Z (qX Z (.rf i))).bind _)=_;rw[Eu e];show((RS.Vu Z (fO X k)).bind _)=_;rw[b];rfl
def vn(a:fv ρ Q=.ok (.fz d) T)(hd:fd ρ T=.ok (.rf i) Z)(e:fk ρ Z=.ok x Y)(g:iU x=S k)(f:Y[i]?=S (.dd X))(b:X.length<1000000):mx fd fk fv ρ Q=.ok (.nx ρ) (Y.set i (.dd (ic X k d))):=by ext mx;rw[a,eH,hd,eH,e,eH,g];show((RS.Vu Y (qX Y (.rf i))).bind _)=_;rw[Eu f];show(if X.length<1000000 then _ else _)=_;rw[ax b]
def uP(c:o ρ Q=.ok xs T)(b:xs.length=n)(a:F xs T=.ok x Z):pX F n o ρ Q=.ok x Z:=by ext pX;rw[c,eH,ax b,a,lm]
end
def i8{l r:aJ}:(l++r)[l.length+t]?=r[t]? :=by rw[U8 (),YA]
def qW{l r:aJ}:(l++r).set (l.length+t) c=l++r.set t c:=by rw[List.set_append_right _ _ (),YA]
structure Pl where
 p:D
 b:D
 e:D
def kL(q:Pl):D:=.tuple [q.p,q.b,q.e]
def eN:G Pl->D->z Nat
 |[],_=>P
 |q::r,p=>if Uv.eqv q.p p=R then S 0 else(eN r p).map (·+1)
def ie:Nat->G Pl->G (D×D)
 |_,[]=>[]
 |k,q::r=>(q.p,nd k)::ie (k+1) r
theorem lw:∀(k:Nat) (fs:G Pl) (p:D),fO (ie k fs) p=(eN fs p).map λi=>nd (k+i)
 |_,[],_=>rfl
 |k,q::r,p=>by
  let a:=lw (k+1) r p;unfold fO at a⊢;unfold ie eN;rw[Vg];cases Uv.eqv q.p p with
  |true=>rfl
  |false=>dsimp only;rw[a,a4 UH,Option.map_map];congr 1;funext i;show nd (k+1+i)=nd (k+(i+1));rw[XT,ZG 1 i]
theorem wz:∀(k:Nat) (fs:G Pl) (q:Pl),ie k (fs++[q])=ie k fs++[(q.p,nd (k+fs.length))]
 |k,[],q=>rfl
 |k,a::r,q=>by show(a.p,nd k)::ie (k+1) (r++[q])=(a.p,nd k)::(ie (k+1) r++[(q.p,nd (k+(r.length+1)))]);rw[wz (k+1) r q,XT,ZG 1 r.length]
theorem zW:∀(k:Nat) (fs:G Pl),(ie k fs).length=fs.length
 |_,[]=>rfl
 |k,q::r=>en (·+1) (zW (k+1) r)
def IT(h:eN fs p=P):ic (ie 0 fs) p (nd fs.length)=ie 0 (fs++[#[p,b,e]]):=by
 let g:=lw 0 fs p;rw[h]at g;unfold fO at g;let f:((ie 0 fs).find? λa=>Uv.eqv a.1 p)=P:=by
  cases q:(ie 0 fs).find? λa=>Uv.eqv a.1 p with
  |none=>rfl
  |some x=>rw[q]at g;ext g
 ext ic;rw[f,wz,Wx];rfl
def ww(h:eN fs q.p=P)(f:Uv.eqv q.p q.p=R):eN (fs++[q]) q.p=S fs.length:=by
 induction fs with
 |nil=>show(if Uv.eqv q.p q.p=R then S 0 else _)=_;rw[ax f];rfl
 |cons a r b=>
  unfold eN at h;show(if Uv.eqv a.p q.p=R then S 0 else(eN (r++[q]) q.p).map (·+1))=_;by_cases e:Uv.eqv a.p q.p=R
  .rw[ax e]at h;ext h
  .rw[a4 e]at h⊢;rw[b (by cases k:eN r q.p with|none=>rfl|some _=>rw[k]at h;ext h)];rfl
def Az(h:LD.keyD p=R):Uv.eqv p p=R:=by
 show Yr p (LD.kd_lay p ?_);cases p with
 |tuple xs=>unfold LD.keyD at h;rw[Ur]at h;ext LD.kd;show h.1
 |_=>simp[LD.keyD]at h
def pF(m:Int)(j k:Nat):G (Str×SV):=[("most",.fz (.int m)),("found",.rf j),("numbers",.rf k)]
structure PSt(i j k:Nat)(m:Int)(fs:G Pl)(ω:aJ):Prop where
 o:ω[i]?=S (.obj "Places" (pF m j k))
 f:ω[j]?=S (.lst ((fs.map kL).map .fz))
 n:ω[k]?=S (.dd (ie 0 fs))
 jk:j≠k
 ij:i≠j
 ik:i≠k
 lt:fs.length<100000
def rq(j k:Nat)(fs:G Pl)(a:aJ):aJ:=(a.set k (.dd (ie 0 fs))).set j (.lst ((fs.map kL).map .fz))
section
variable{i j k:Nat}{m:Int}{fs:b3 Pl}{Y:aJ}{p b e:D}
def PSt.ent(h:PSt i j k m fs Y)(l:fs.length+1<100000):PSt i j k m (fs++[q]) (rq j k (fs++[q]) Y):=by
 let g:=(Ux.mp h.f).1;let a:=(Ux.mp h.n).1;show#[?_,?_,?_,h.jk,h.ij,h.ik,by rw[Uz];show l]
 .ext rq;rw[Vf (eg h.ij),Vf (eg h.ik)];show h.o
 .ext rq;rw[VO (by rw[Vy];show g)]
 .ext rq;rw[Vf h.jk,VO a]
def Ej:(pF m j k).lookup ("most":Str)=-(.int m):=by rfl
def rE:(pF m j k).lookup ("found":Str)=S (.rf j):=by rfl
def vx:(pF m j k).lookup ("numbers":Str)=S (.rf k):=by rfl
def rU:(pF m j k).lookup ("enter":Str)=P:=by rfl
theorem oM(a:LD.keyD p=R):iU (.fz p)=S p:=ax a
def rZ(h:PSt i j k m fs Y)(hm:L9.Rk (.int m)=R)(M:m<=1000)(E:LD.keyD p=R):bA [.rf i,.fz p,.fz b,.fz e] Y=(match eN fs p with
  |some t=>.ok (.fz (nd t)) Y
  |none=>if m<=(fs.length:Int)then .er #["TooMany",[("most",.int m)]] Y else .ok (.fz (nd fs.length)) (rq j k (fs++[#[p,b,e]]) Y)):=by
 let w:=oM E;let A:∀{a:aJ},a[i]?=S (.obj "Places" (pF m j k))->aV "Places" "numbers" (am 0) [S (.rf i),-(p),-(b),-(e)] a=.ok (.rf k) a:=λz=>iA (aO W) z vx;let F:∀{a:aJ},a[i]?=S (.obj "Places" (pF m j k))->aV "Places" "found" (am 0) [S (.rf i),-(p),-(b),-(e)] a=.ok (.rf j) a:=λz=>iA (aO W) z rE;let B:∀{a:aJ},a[i]?=S (.obj "Places" (pF m j k))->aV "Places" "most" (am 0) [S (.rf i),-(p),-(b),-(e)] a=.ok (.fz (.int m)) a:=λz=>iA (aO W) z Ej;let u:∀{a:aJ},ae (ad 1) [S (.rf i),-(p),-(b),-(e)] a=.ok (.fz p) a:=af (ag W);let g:=Au (neg:=R) u (A h.o) w h.n;rw[lw]at g;let get:∀{l:b3 Pl} {a:aJ} {t:Nat},a[i]?=S (.obj "Places" (pF m j k))->a[k]?=S (.dd (ie 0 l))->eN l p=S t->fy (l8 (aV "Places" "numbers" (am 0)) (ae (ad 1))) [S (.rf i),-(p),-(b),-(e)] a=.ok (.rt (.fz (nd t))) a:=λK J I=>by show gr (Cf (A K) u w J ?_);rw[lw,I];show S (nd (0+_))=_;rw[Wx]
 let v:=rT (aj (F h.o) aD) (by ext aA;rw[cz h.f];rfl) ((eB _).trans (by rw[Us]));cases q:eN fs p with
 |some t=>rw[q]at g;show ir W ?_;show cb (fE (aH g) eT) (get h.o h.n q)
 |none=>
  rw[q]at g;dsimp only;by_cases r:m<=(fs.length:Int)
  .rw[ax r]
   let y:=aH (bT v (B h.o) (bN ((u6 _ _).trans (by rw[a5 r]))));show cB 4 bL _ _=_;ext cB;show((bL [S (.rf i),-(p),-(b),-(e)] Y).bind _)=_;let e1:bL [S (.rf i),-(p),-(b),-(e)] Y=.er #["TooMany",[("most",.int m)]] Y:=by ext bL;ext aB;rw[dC (aH g) W,dC y W,Bv (B h.o) hm];rfl
   rw[e1];rfl
  .rw[a4 r]
   let y:=aH (bT v (B h.o) (bN ((u6 _ _).trans (by rw[a6 r]))));let C:=vn v (A h.o) u w h.n (by rw[zW];let:=h.lt;ext);rw[IT q]at C;let L:(Y.set k (.dd (ie 0 (fs++[#[p,b,e]]))))[i]?=S (.obj "Places" (pF m j k)):=(Vf (eg h.ik)).trans h.o;let G:(Y.set k (.dd (ie 0 (fs++[#[p,b,e]]))))[j]?=S (.lst ((fs.map kL).map .fz)):=(Vf (eg h.jk)).trans h.f;let H:=oU (fe:=ae (bG {ad 1,ad 2,ad 3})) (x:=.fz (kL #[p,b,e])) (F L) G (af (eD (ai (ag W) (ai (ag W) (ai (ag W) az))) W (Uy W))) G (by rw[Us,Us];let:=h.lt;ext);let es:(Y.set k (.dd (ie 0 (fs++[#[p,b,e]])))).set j (.lst ((fs.map kL).map SV.fz++[.fz (kL #[p,b,e])]))=rq j k (fs++[#[p,b,e]]) Y:=by ext rq;rw[UP,UP];rfl
   rw[es]at H;let P:=h.ent (q:=#[p,b,e]) ();show ir W ?_;show cb (dC (aH g) (cb (fE y eT) (cb C (eV H)))) (get P.o P.n (ww q (Az E)))
end
def j7(a:aJ)(m:Int)(fs:G Pl)(J:aJ):aJ:=a++(Cell.obj "Places" (pF m (a.length+1) (a.length+2)):: .lst ((fs.map kL).map .fz):: .dd (ie 0 fs)::J)
theorem xn(h:fs.length<100000):PSt o.length (o.length+1) (o.length+2) m fs (j7 o m fs J):=
 #[by let:=i8 (l:=o) (r:=Cell.obj "Places" (pF m (o.length+1) (o.length+2)):: .lst ((fs.map kL).map .fz):: .dd (ie 0 fs)::J) (t:=0);show this,i8,i8,by ext,by ext,by ext,h]
def Ax:rq (o.length+1) (o.length+2) C (j7 o m fs J)=j7 o m C J:=by unfold rq j7;rw[qW,qW];rfl
def TM(m:Int):Xc:=#["TooMany",[("most",.int m)]]
def wW(a:0<=m)(h:m<=1000):L9.Rk (.int m)=R:=by show a5 (Zp (Nat.log2_le_self m.natAbs) ?_);ext
def Dw(l:LD.keyD p=R)(j:0<=m)(f:m<=1000):cx [.rf o.length,.fz p,.fz (.int m)] (o++[.obj "Places" []])=if m<=0 then .er (TM m) (j7 o m [] [])else .ok (.fz .none) (j7 o m [#[p,.none,.none]] []):=by
 let i:d4 "Places" "most" (am 0) (ae (ad 2)) [S (.rf o.length),-(p),-(.int m)] (o++[.obj "Places" []])=.ok (.nx [S (.rf o.length),-(p),-(.int m)]) (o++[.obj "Places" [("most",.fz (.int m))]]):=
  (lL (af (ag W)) (aO W) aU ()).trans (by rw[hV];rfl)
 let h:d4 "Places" "found" (am 0) (ae (cC aq)) [S (.rf o.length),-(p),-(.int m)] (o++[.obj "Places" [("most",.fz (.int m))]])=.ok (.nx [S (.rf o.length),-(p),-(.int m)]) (o++[.obj "Places" [("most",.fz (.int m)),("found",.rf (o.length+1))],.lst []]):=by show(lL (df (by ext:0)) (aO W) (by rw[U3];show i8 (t:=0)) (Uy W)).trans ?_;rw[U3,show o.length=o.length+0 from rfl,qW,Uz];rfl
 let g:d4 "Places" "numbers" (am 0) uE [S (.rf o.length),-(p),-(.int m)] (o++[.obj "Places" [("most",.fz (.int m)),("found",.rf (o.length+1))],.lst []])=.ok (.nx [S (.rf o.length),-(p),-(.int m)]) (j7 o m [] []):=by show(lL W (aO W) (by rw[U3];show i8 (t:=0)) (Uy W)).trans ?_;rw[U3,show o.length=o.length+0 from rfl,qW,Uz];rfl
 let P:PSt o.length (o.length+1) (o.length+2) m [] (j7 o m [] []):=xn ();let n:=rZ (b:=.none) (e:=.none) P (wW j f) f l;let a:=Ar (F:=bA) (fo:=am 0) (fa:=ah (ae (ad 1)) (ah (ae (pC .none)) (ah (ae (pC .none)) aC))) (ρ:=[S (.rf o.length),-(p),-(.int m)]) (aO W) P.o rU (aj (af (ag W)) (aj (af ay) (aj (af ay) aD))) W;rw[n]at a;let a:iT "Places" "enter" bA 4 (am 0) (ah (ae (ad 1)) (ah (ae (pC .none)) (ah (ae (pC .none)) aC))) [S (.rf o.length),-(p),-(.int m)] (j7 o m [] [])=if m<=0 then .er (TM m) (j7 o m [] [])else .ok (.fz (nd 0)) (rq (o.length+1) (o.length+2) [#[p,.none,.none]] (j7 o m [] [])):=a
 rw[Ax]at a;show cB 3 bz _ _=_;ext cB;show((bz [S (.rf o.length),-(p),-(.int m)] (o++[.obj "Places" []])).bind _)=_;ext bz;rw[cb i W,cb h W,cb g W];ext bc;rw[a];split<;>rfl
theorem t7:∀{l:G α},(∀a∈l,LD.kd (f a)=R)->LD.kds (l.map f)=R
 |[],_=>by rw[W6,LD.kds]
 |a::r,h=>by rw[UK,LD.kds,h a UX,t7 λx b=>h x (UN _ b)];rfl
theorem Js:∀b:G Nat,LD.kds (bq b)=R:=λb=>t7 λa _=>by show LD.kd (.int a)=R;rw[LD.kd]
def Mg(h:LB m):LD.kd (mD m)=R:=by
 cases m with
 |Vq c=>show LD.kd (.tuple [.str "letter",.str (iX c)])=R;simp only[LD.kd,LD.kds];rw[pO h,show Uv.strOk "letter"=R by left];rfl
 |Xa n=>show LD.kd (.tuple [.str "layer",.int n])=R;simp only[LD.kd,LD.kds];rw[show Uv.strOk "layer"=R by left];rfl
 |ZC c n=>show LD.kd (.tuple [.str "tap",.str (iX c),.int n])=R;simp only[LD.kd,LD.kds];rw[pO h,show Uv.strOk "tap"=R by left];rfl
 |once n=>show LD.kd (.tuple [.str "once",.int n])=R;simp only[LD.kd,LD.kds];rw[show Uv.strOk "once"=R by left];rfl
 |none=>show LD.kd (.tuple [.str "none"])=R;simp only[LD.kd,LD.kds];rw[show Uv.strOk "none"=R by left];rfl
 |below=>show LD.kd (.tuple [.str "below"])=R;simp only[LD.kd,LD.kds];rw[show Uv.strOk "below"=R by left];rfl
def Mc(h:SW b s):LD.kd (bU s)=R/\Uv.depth (bU s)<=4:=by
 let j:LD.kds ((gj s.ac).map pD)=R:=t7 λq l=>by show LD.kd (.tuple [nd q.1,mD q.2])=R;simp only[LD.kd,LD.kds];rw[Mg (h.sa.ac _ _ (jI.mp l).2).2.lb];rfl
 let o:∀m:Mn,Uv.depth (mD m)<=1:=λm=>by ext m<;>show Uy W
 let p:Uv.depthAll ((gj s.ac).map pD)<=2:=nW λq _=>by show max 0 (max (Uv.depth (mD q.2)) 0)+1<=2;let:=o q.2;ext
 let f:LD.kd (iQ s.wt)=R/\Uv.depth (iQ s.wt)<=2:=by
  cases q:s.wt with
  |none=>show#[by show LD.kd .none=R;rw[LD.kd],Vm _]
  |some x=>
   let(a,g,w):=x;let v:=(h.wt a g w q).1;constructor
   .show LD.kd (.tuple [.tuple (bq a),.int g,rp w])=R
    simp only[LD.kd,LD.kds];rw[Js];cases w with
    |none=>show(R&&(R&&(LD.kd (.tuple [.str "chord"])&&R)))=R;simp only[LD.kd,LD.kds];rw[show Uv.strOk "chord"=R by left];rfl
    |some i=>let(c,n):=i;let lb:LB (.ZC c n):=(v.tp c n W).1;show(R&&(R&&(LD.kd (mD (.ZC c n))&&R)))=R;rw[Mg lb];rfl
   .show max (Uv.depthAll (bq a)+1) (max 0 (max (Uv.depth (rp w)) 0))+1<=2
    rw[oj];cases w with
    |none=>show Uy W
    |some i=>show Uy W
 let e:LD.kd (qY s.oc)=R/\Uv.depth (qY s.oc)=0:=by cases s.oc<;>show#[by show LD.kd _=R;ext qY;simp only[LD.kd],W]
 constructor
 .show LD.kd (.tuple [.tuple ((gj s.ac).map pD),iQ s.wt,qY s.oc])=R;simp only[LD.kd,LD.kds];rw[j,f.1,e.1];rfl
 .show max (Uv.depthAll ((gj s.ac).map pD)+1) (max (Uv.depth (iQ s.wt)) (max (Uv.depth (qY s.oc)) 0))+1<=4;rw[e.2];let:=f.2;ext
def oA(h:SW b s):LD.keyD (bU s)=R:=by let(a,e):=Mc h;unfold bU at a e⊢;rw[LD.kd]at a;rw[LD.keyD];rw[a,a5 (show _<=8 by ext)];rfl
def im(n:Nat):G Yy:=(UM n).map .down++(UM n).map .up++[.turn]
def yI{b:Bd}{n:Nat}(c:b.n=n):∀e∈im n,EV b e:=by
 intro e a;rcases VD.mp a with a|a
 .rcases VD.mp a with a|a
  .let(k,f,rfl):=Vt.mp a;let:=WE.mp f;show(k:Int)<b.n;ext
  .let(k,f,rfl):=Vt.mp a;let:=WE.mp f;show(k:Int)<b.n;ext
 .rw[Ve.mp a];trivial
theorem MF(h:xs.length+ys.length<=1000000):cV (.list xs) (.list ys)=S (.ow (xs++ys)):=ax h
theorem Qw(b:Bd):aZ (bD b) (.int 0)=-(.int b.n):=g7
def Cq{b:Bd}{n:Nat}(c:b.n=n)(l:n<=5):cO [bD b]=.ok (.ow ((im n).map b9)):=by
 let i:iE [.int b.n]=S (bq (UM n)):=by rw[c];show iw ()
 let j:=Qw b;let a:(UM n).length<=1000:=by rw[Vh];ext
 let f:i9 (cW (gN 0) cN (bG {pC (.str "down"),ad 0}) (bq (UM n)) [P] [])=.ok ((UM n).map λk=>b9 (.down k)):=iH nd (λk=>b9 (.down k)) (UM n) a W λk _=>eD (ai ay (ai (ag W) az)) W (Uy W);let e:i9 (cW (gN 0) cN (bG {pC (.str "up"),ad 0}) (bq (UM n)) [P] [])=.ok ((UM n).map λk=>b9 (.up k)):=iH nd (λk=>b9 (.up k)) (UM n) a W λk _=>eD (ai ay (ai (ag W) az)) W (Uy W);let h:cV (.list ((UM n).map λk=>b9 (.down k))) (.list ((UM n).map λk=>b9 (.up k)))=S (.ow (((UM n).map λk=>b9 (.down k))++(UM n).map λk=>b9 (.up k))):=MF (by rw[Us,Us];ext);let g:cV (.list (((UM n).map λk=>b9 (.down k))++(UM n).map λk=>b9 (.up k))) (.list [b9 .turn])=S (.ow ((im n).map b9)):=(MF (by rw[Uz,Us,Us];show _+1<=_;ext)).trans (by ext im;rw[UP,UP,Vo,Vo];rfl);show gR W ?_;ext fF;show dU (dM (by ext:0) W f) W W ?_;show dU (dM (by ext:0) W e) W W ?_;show d8 (aI (aI (iM W) (iM W) W W h) (lW (ai (eD (ai ay (ai ay az)) W (Uy W)) az) W (Uy W)) W W g) W W
def wk(w:Str)(k:Nat):D:=.tuple [.str w,nd k]
def zE{b:Bd}{n:Nat}(c:b.n=n)(v:n<=5):bJ [bD b]=.ok (.ow ((im n).map b9)):=by
 let z:iE [.int b.n]=S (bq (UM n)):=by rw[c];show iw ()
 let A:=Qw b;let y:cV (.list ((UM n).map (wk "down")++(UM n).map (wk "up"))) (.list [b9 .turn])=S (.ow ((im n).map b9)):=(MF (by rw[Uz,Us,Us,Vh];show _+1<=_;ext)).trans (by ext im;rw[UP,UP,Vo,Vo];rfl);show gR W ?_;show dU (by ext:0) W W ?_;show tH (λi C=>∃f a:b4 PV,C=[zf (bD b),zo (((["down","up"]:G Str).take i).flatMap λw=>(UM n).map (wk w)),f,a]) (jG (by ext:0) W W) #[P,P,W] ?_ ?_
 .rintro i d C I ⟨f,a,rfl⟩
  obtain⟨w,h,u⟩:∃w,(["down","up"]:G Str)[i]?=S w/\d=.str w:=by
   let:i=0\/i=1:=by let:=(Ux.mp I).1;simp at this;ext
   rcases this with rfl|rfl
   .show#["down",W,(UI I).symm]
   .show#["up",W,(UI I).symm]
  subst u;let nx:((["down","up"]:G Str).take (i+1)).flatMap (λw=>(UM n).map (wk w))=((["down","up"]:G Str).take i).flatMap (λw=>(UM n).map (wk w))++(UM n).map (wk w):=by rw[W2,h,List.flatMap_append];simp
  let B:i<2:=(Ux.mp h).1;let pl:((["down","up"]:G Str).take i).flatMap (λw=>(UM n).map (wk w))=[]\/((["down","up"]:G Str).take i).flatMap (λw=>(UM n).map (wk w))=(UM n).map (wk "down"):=by
   let:i=0\/i=1:=by ext
   rcases this with rfl|rfl
   .show .inl W
   .show .inr (by simp)
  rw[nx];generalize ((["down","up"]:G Str).take i).flatMap (λw=>(UM n).map (wk w))=pre at pl;let o:pre.length<=5:=by
   rcases pl with rfl|rfl
   .show Vm _
   .rw[Us,Vh];show v
  show#[[zf (bD b),zo pre,zf (.str w),a],W,?_];show DA (λj C=>∃a:b4 PV,C=[zf (bD b),zo (pre++(UM j).map (wk w)),zf (.str w),a]) (by ext:0) #[a,by rw[List.range_zero,W6,U9]] ?_ ?_
  .rintro j d C t ⟨a,rfl⟩
   let(k,q,rfl):=oi t;obtain⟨g,r⟩:k=j/\j<n:=by let(m,l):=Ux.mp q;rw[acz]at l;rw[Vh]at m;show#[l.symm,m]
   subst g;show#[[zf (bD b),zo (pre++(UM k).map (wk w)),zf (.str w),zf (nd k)],W,?_];let p:(pre++(UM k).map (wk w)).length<1000000:=by rw[Uz,Us,Vh];ext
   show oh (uT W (eD (ai (ag W) (ai (ag W) az)) W (Uy W)) W W p (by rw[Z8,UP,<-U3];rfl)) #[_,W]
  .rintro C ⟨a,rfl⟩;rw[fh,Vh];show#[_,_,W]
 .rintro C ⟨f,a,rfl⟩
  let e:((["down","up"]:G Str).take 2).flatMap (λw=>(UM n).map (wk w))=(UM n).map (wk "down")++(UM n).map (wk "up"):=by simp
  show Go (di _ [zf (bD b),zo (((["down","up"]:G Str).take 2).flatMap λw=>(UM n).map (wk w)),f,a]) _ _ _;rw[e];show d8 (aI (iM W) (lW (ai (eD (ai ay (ai ay az)) W (Uy W)) az) W (Uy W)) W W y) W W
section
variable{Q:aP}{Y L:aJ}{i:Nat}{N:cM}{T:SV->aJ->Prop}{X:Xc->Prop}
def vi(h:Y[i]?=S (.lst xs)):d5 Y (.rf i)=S (i,xs):=by ext d5;dsimp only;rw[h]
def Hg(b:o Q Y=.ok (.rf i) Y)(j:Y[i]?=S (.lst xs))(e:Out (N Q Y) (λx c=>∃ys,c[i]?=S (.lst ys)/\ys.length<1000000/\T (.fz .none) (c.set i (.lst (ys++[x])))) X):Out (jf o N Q Y) T X:=by
 show .eq (show jf o N Q Y=(N Q Y).bind λx c=>(RS.Vu c (d5 c (.rf i))).bind λp a=>if p.2.length<1000000 then .ok (.fz .none) (a.set p.1 (.lst (p.2++[x])))else .bad from ?_) (Out.bind (e.imp λx c k=>?_))
 .ext jf;rw[b,eH,vi j];rfl
 .let(ys,h,g,f):=k;show .eq (r':=RS.ok (SV.fz .none) (c.set i (.lst (ys++[x])))) ?_ #[f];rw[vi h];show(if ys.length<1000000 then _ else _)=_;rw[ax g]
def Hc(a:Out (N Q Y) (λx c=>∃ds,sh c x=S (.list ds)/\T (.fz (.tuple ds)) c) X):Out (pL gp (ah N aC) Q Y) T X:=by
 show .eq (show pL gp (ah N aC) Q Y=(N Q Y).bind λx c=>C4 gp [x] c from ?_) (Out.bind (a.imp λx c k=>?_))
 .unfold pL ah;cases N Q Y<;>rfl
 .let(ds,e,b):=k;show .eq (r':=RS.ok (SV.fz (.tuple ds)) c) ?_ #[b];unfold C4 aA aA;rw[e];rfl
end
structure Rm where
 s:W4
 b:D
 e:D
def dz(r:Rm):Pl:=#[bU r.s,r.b,r.e]
def gW(fs:G Rm)(s:W4)(b e:D):G Rm:=if(eN (fs.map dz) (bU s)).isSome=R then fs else fs++[#[s,b,e]]
def gB(fs:G Rm)(s:W4):Nat:=(eN (fs.map dz) (bU s)).getD fs.length
def dB(b:Bd)(s:W4)(r:Nat)(fs:G Rm)(es:G Yy):G Rm:=es.foldl (λfs e=>gW fs (aw b s e).1 (nd r) (b9 e)) fs
def u7{es:G Yy}(h:es[i]?=S e):dB b s r fs (es.take (i+1))=gW (dB b s r fs (es.take i)) (aw b s e).1 (nd r) (b9 e):=by ext dB;rw[W2,h,acI];rfl
def HF(fs:G Rm)(s:W4)(b e:D):fs<+:gW fs s b e:=by
 ext gW;split
 .show Yw _
 .show List.prefix_append _ _
theorem nO:∀(es:G Yy) (fs:G Rm),fs<+:dB b s r fs es
 |[],fs=>Yw _
 |e::es,fs=>(HF fs _ _ _).trans (nO es _)
def FD(es:G Yy)(fs:G Rm)(i:Nat):dB b s r fs (es.take i)<+:dB b s r fs es:=by
 let e:dB b s r fs es=dB b s r (dB b s r fs (es.take i)) (es.drop i):=by ext dB;rw[<-acI,List.take_append_drop]
 rw[e];show nO _ _
theorem yX:∀{fs gs:G Pl},eN fs p=S t->eN (fs++gs) p=S t
 |[],_,h=>by ext h
 |a::r,gs,h=>by
  unfold eN at h;show(if Uv.eqv a.p p=R then S 0 else(eN (r++gs) p).map (·+1))=_;split
  .rename_i e;rw[ax e]at h;show h
  .rename_i e
   rw[a4 e]at h;cases q:eN r p with
   |none=>rw[q]at h;ext h
   |some j=>rw[q]at h;rw[yX q];show h
def HN(h:fs<+:gs)(a:eN (fs.map dz) (bU s)=S t):gB gs s=t:=by let(l,rfl):=h;ext gB;rw[UP,yX a];rfl
theorem Ni(h:SW b s):Uv.eqv (bU s) (bU s)=R:=Az (oA h)
def G9(h:SW b s)(x y:D):eN ((gW fs s x y).map dz) (bU s)=S (gB fs s):=by
 unfold gW gB;cases q:eN (fs.map dz) (bU s)with
 |some t=>show eN (fs.map dz) (bU s)=_;rw[q];rfl
 |none=>show eN ((fs++[(#[s,x,y]:Rm)]).map dz) (bU s)=S fs.length;rw[UP];let:=ww (q:=#[bU s,x,y]) q (Ni h);rw[Us]at this;show this
def Nb(h:SW b s)(e:∀r∈fs,SW b r.s):∀r∈gW fs s x y,SW b r.s:=by
 ext gW;split
 .show e
 .intro r a
  rcases VD.mp a with a|a
  .show e r a
  .rw[Ve.mp a];show h
theorem xm(a:VB b)(f:SW b s):∀(es:G Yy) (fs:G Rm),(∀e∈es,EV b e)->(∀r∈fs,SW b r.s)->∀q∈dB b s r fs es,SW b q.s
 |[],fs,_,hf=>hf
 |e::es,fs,he,hf=>xm a f es _ (λx g=>he x (UN _ g)) (Nb (sU a f (he e UX)) hf)
def bV(b:Bd)(es:G Yy):Nat->G Rm
 |0=>[#[xx,.none,.none]]
 |i+1=>match(bV b es i)[i]? with
  |some r=>dB b r.s i (bV b es i) es
  |none=>bV b es i
def pz(h:(bV b es i)[i]?=S r):bV b es (i+1)=dB b r.s i (bV b es i) es:=by show(match(bV b es i)[i]? with|some r=>dB b r.s i (bV b es i) es|none=>bV b es i)=_;rw[h]
def ur(h:(bV b es i).length<=i):bV b es (i+1)=bV b es i:=by show(match(bV b es i)[i]? with|some r=>dB b r.s i (bV b es i) es|none=>bV b es i)=_;rw[List.getElem?_eq_none h]
def uY(b:Bd)(es:G Yy)(i:Nat):bV b es i<+:bV b es (i+1):=by
 by_cases h:i<(bV b es i).length
 .rw[pz (UE h)];show nO _ _
 .rw[ur ()];show Yw _
def AH(b:Bd)(es:G Yy)(i k:Nat):bV b es i<+:bV b es (i+k):=by
 induction k with
 |zero=>show Yw _
 |succ k a=>show a.trans (uY b es (i+k))
def Kk(h:(bV b es N).length<=N)(k:Nat):bV b es (N+k)=bV b es N:=by
 induction k with
 |zero=>rfl
 |succ k a=>rw[<-XT,ur (by rw[a];ext),a]
def tW(h:(bV b es N).length<=N)(i:Nat):(bV b es i).length<=(bV b es N).length:=by
 by_cases hi:i<=N
 .let(k,rfl):=aeE hi;show(AH b es i k).length_le
 .let(k,rfl):=aeE (show N<=i by ext);rw[Kk h];show UC _
def zD(h:(bV b es N).length=N)(c:(bV b es f).length=f):N=f:=by let e:=tW (X6 h) f;let a:=tW (X6 c) N;ext
theorem lP(a:VB b)(f:∀e∈es,EV b e):∀i,∀r∈bV b es i,SW b r.s
 |0=>λr g=>by rw[Ve.mp g];show t8 b
 |i+1=>by
  by_cases h:i<(bV b es i).length
  .rw[pz (UE h)];show xm a (lP a f i _ (ZL h)) es _ f (lP a f i)
  .rw[ur ()];show lP a f i
def Jh(b:Bd)(es:G Yy)(i:Nat):1<=(bV b es i).length:=by let:=(AH b es 0 i).length_le;rw[Wx]at this;show this
theorem EW(h:i<(bV b es i).length):i+1<=(bV b es (i+1)).length:=Vb h (uY b es i).length_le
def gA(b:Bd)(s:W4)(e:Yy):D:=.tuple [.list ((aw b s e).2.map qU),bU (aw b s e).1]
def ip(b:Bd)(s:W4)(e:Yy):Cell:=.lst (((aw b s e).2.map qU).map .fz)
def zg(b:Bd)(s:W4):Nat->G Yy->G SV
 |_,[]=>[]
 |n,e::r=>.tp [.rf n,.fz (bU (aw b s e).1)]::zg b s (n+1) r
theorem wR(b:Bd)(s:W4):∀(es:G Yy) (n:Nat) (e:Yy),zg b s n (es++[e])=zg b s n es++[.tp [.rf (n+es.length),.fz (bU (aw b s e).1)]]
 |[],n,e=>rfl
 |a::r,n,e=>by show _::zg b s (n+1) (r++[e])=_::(zg b s (n+1) r++_);rw[wR b s r (n+1) e,XT,ZG 1 r.length];rfl
theorem Ap(b:Bd)(s:W4):∀(es:G Yy) (n:Nat),(zg b s n es).length=es.length
 |[],_=>rfl
 |_::r,n=>en (·+1) (Ap b s r (n+1))
theorem z8(b:Bd)(s:W4):∀(es:G Yy) (k j:aJ),lz (frz 3) (k++(es.map (ip b s)++j)) (zg b s k.length es)=S (es.map (gA b s),k++(UA es.length .dead++j))
 |[],k,j=>rfl
 |e::r,k,j=>by
  let g:(k++(ip b s e::(r.map (ip b s)++j)))[k.length]?=S (ip b s e):=i8 (t:=0);let i:frz 2 (k++(ip b s e::(r.map (ip b s)++j))) (.rf k.length)=S (.list ((aw b s e).2.map qU),k++(.dead::(r.map (ip b s)++j))):=by ext frz;rw[g];ext ip;dsimp only;rw[tT];dsimp only;let:=qW (l:=k) (r:=ip b s e::(r.map (ip b s)++j)) (t:=0) (c:=.dead);show en (λz=>S (Uv.list ((aw b s e).2.map qU),z)) this
  let h:frz 3 (k++(ip b s e::(r.map (ip b s)++j))) (.tp [.rf k.length,.fz (bU (aw b s e).1)])=S (gA b s e,k++(.dead::(r.map (ip b s)++j))):=by
   let f:lz (frz 2) (k++(ip b s e::(r.map (ip b s)++j))) [.rf k.length,.fz (bU (aw b s e).1)]=S ([.list ((aw b s e).2.map qU),bU (aw b s e).1],k++(.dead::(r.map (ip b s)++j))):=by ext lz;rw[i];rfl
   ext frz;rw[show([AV.rf k.length,AV.fz (bU (aw b s e).1)].map AV.sv)=[.rf k.length,.fz (bU (aw b s e).1)]from rfl,f];rfl
  let a:=z8 b s r (k++[.dead]) j;rw[Uz,U3,U3]at a;show(match frz 3 (k++(ip b s e::(r.map (ip b s)++j))) (.tp [.rf k.length,.fz (bU (aw b s e).1)])with
   |some (d,n)=>(match lz (frz 3) n (zg b s (k.length+1) r)with
    |some (ds,m)=>S (d::ds,m)
    |none=>P)
   |none=>P)=_
  rw[h];dsimp only;rw[show k++(Cell.dead::(r.map (ip b s)++j))=k++([Cell.dead]++(r.map (ip b s)++j))from rfl,show k.length+1=k.length+[Cell.dead].length from rfl,a];rfl
def xF(m:VB b)(n:SW b s){es:G Yy}(r:∀e∈es,EV b e)(z:es.length<=1000)(w:ρ[0]?=S (-(bD b)))(v:ρ[2]?=S (-(.list (es.map b9))))(u:ρ[7]?=S (-(bU s))):
  ∃J,l7 (jj 1 [0,7] (gz (gq (ad 2))) (fw 0) hG (j9 STP.gO 3 (ah (ae (ad 1)) (ah (ae (ad 2)) (ah (ae (ad 0)) aC))))) ρ ω=.ok (.fz (.list (es.map (gA b s)))) (ω++J):=by
 let B:gz (gq (ad 2)) ρ ω=.ok (es.map b9) ω:=lB (jG (ag (by ext a8;rw[UG,v];rfl)) W W);let j:fP 1 [0,7] ρ=[P,-(bD b),-(bU s)]:=by ext fP;show P::[(ρ[0]?).join,(ρ[7]?).join]=_;rw[w,u];rfl
 let t:=mE (X:=λ_=>False) (gt:=fw 0) (ft:=hG) (fe:=j9 STP.gO 3 (ah (ae (ad 1)) (ah (ae (ad 2)) (ah (ae (ad 0)) aC)))) (λi a f h=>∃o,a=[o,-(bD b),-(bU s)]/\f=ω++(es.take i).map (ip b s)/\h=zg b s ω.length (es.take i)) (es.map b9) 0 (fP 1 [0,7] ρ) ω [] #[P,j,by rw[List.take_zero,W6,U9],W] (by
  rintro i d a f h g ⟨o,rfl,rfl,rfl⟩;rw[Wx];rw[UG]at g;cases q:es[i]? with
  |none=>rw[q]at g;ext g
  |some e=>
   rw[q]at g;cases UI g;let y:=(Ux.mp q).1;show#[by rw[Ap,V1];ext,[-(b9 e),-(bD b),-(bU s)],W,W,?_];let p:oG STP.gO 3 [.fz (bD b),.fz (bU s),.fz (b9 e)] (ω++(es.take i).map (ip b s))=.ok (.tp [.rf (ω++(es.take i).map (ip b s)).length,.fz (bU (aw b s e).1)]) ((ω++(es.take i).map (ip b s))++[ip b s e]):=Lf m n (r e (Vj q));show .eq (r':=RS.ok (SV.tp [.rf (ω++(es.take i).map (ip b s)).length,.fz (bU (aw b s e).1)]) ((ω++(es.take i).map (ip b s))++[ip b s e])) ?_ #[_,W,?_,?_]
   .ext j9;rw[aj (af (ag W)) (aj (af (ag W)) (aj (af (ag W)) aD)),eH,p];rfl
   .rw[W2,q,UP,U3];rfl
   .rw[W2,q];show zg b s ω.length (es.take i)++_=zg b s ω.length (es.take i++[e]);rw[wR,Uz,Us])
 let(xs,l,e1,a,o,_,rfl,rfl):=t.all;rw[Wx,Us,ZP]at e1;let cm:=uj B e1;let fz:frz 4 ((ω++es.map (ip b s))++[Cell.lst (zg b s ω.length es)]) (.rf (ω++es.map (ip b s)).length)=S (.list (es.map (gA b s)),(ω++(UA es.length Cell.dead++[Cell.lst (zg b s ω.length es)])).set (ω++es.map (ip b s)).length .dead):=by ext frz;rw[aU];dsimp only;rw[U3,z8 b s es ω [Cell.lst (zg b s ω.length es)]]
 rw[Uz,qW]at fz;show#[_,qO cm (by rw[Uz];show fz)]
theorem yY(f g:α->D):∀l:G α,jr (l.map f) (l.map g)=l.map λx=>.tuple [f x,g x]
 |[]=>rfl
 |x::r=>by show Uv.tuple [f x,g x]::jr (r.map f) (r.map g)=_;rw[yY f g r];rfl
def A0{b:Bd}(z:VB b){s:W4}(A:SW b s){es:b3 Yy}(C:∀e∈es,EV b e)(Y:es.length<=1000){ρ:aP}{ω J:aJ}{m:Int}{r:Nat}{fs:b3 Rm}(H:0<=m)(B:m<=1000)(S:(fs.length:Int)<=m)
  (Q:ρ[2]?=cL (-(.list (es.map b9)))) (O:ρ[3]?=cL (cL (.rf ω.length))) (N:ρ[6]?=cL (-(nd r))) (M:ρ[8]?=cL (-(.list (es.map (gA b s))))):
  Out (lZ 2 [3,6] (gz (ut {ad 2,ad 8})) (Nx 2 (mZ (fw 0) (mZ (fw 1) xS))) hG (iT "Places" "enter" bA 4 (am 2) (ah (ae (aG aZ (ad 1) (~~~1))) (ah (ae (ad 3)) (ah (ae (ad 0)) aC)))) ρ (j7 ω m (fs.map dz) J))
   (λx c=>x=.rf (j7 ω m ((dB b s r fs es).map dz) J).length/\c=j7 ω m ((dB b s r fs es).map dz) (J++[.lst ((es.map λe=>nd (gB (dB b s r fs es) (aw b s e).1)).map .fz)])/\((dB b s r fs es).length:Int)<=m)
   (λx=>x=TM m/\m<((dB b s r fs es).length:Int)):=by
 let hi:gz (ut {ad 2,ad 8}) ρ (j7 ω m (fs.map dz) J)=.ok (es.map λe=>.tuple [b9 e,gA b s e]) (j7 ω m (fs.map dz) J):=by
  let G:(a8 ρ)[2]?=cL (-(.list (es.map b9))):=by ext a8;rw[UG,Q];rfl
  let E:(a8 ρ)[8]?=cL (-(.list (es.map (gA b s)))):=by ext a8;rw[UG,M];rfl
  rw[<-yY];show lB (tQ (d:=.list (es.map b9)) (e:=.list (es.map (gA b s))) (ai (ag G) (ai (ag E) az)) W W W)
 let y:fP 2 [3,6] ρ=[Uo,Uo,cL (.rf ω.length),-(nd r)]:=by ext fP;show Uo::Uo::[(ρ[3]?).join,(ρ[6]?).join]=_;rw[O,N];rfl
 show yA hi (Out.imp (mE (λi f c l=>∃u p,f=[u,p,cL (.rf ω.length),-(nd r)]/\c=j7 ω m ((dB b s r fs (es.take i)).map dz) J/\l=((es.take i).map λe=>nd (gB (dB b s r fs es) (aw b s e).1)).map .fz/\((dB b s r fs (es.take i)).length:Int)<=m) (es.map λe=>.tuple [b9 e,gA b s e]) 0 (fP 2 [3,6] ρ) (j7 ω m (fs.map dz) J) [] #[Uo,Uo,y,W,W,S] ?_) ?_)
 .rintro i d f c l j ⟨u,p,rfl,rfl,rfl,hle⟩
  rw[Wx]at hle⊢;rw[UG]at j;cases q:es[i]? with
  |none=>rw[q]at j;ext j
  |some e=>
   rw[q]at j;cases UI j;let X:=(Ux.mp q).1;let w:=C e (Vj q);let g:=sU z A w;let rt:=u7 (b:=b) (s:=s) (r:=r) (fs:=fs) q;let h:=FD (b:=b) (s:=s) (r:=r) es fs (i+1);let R:=xm z A (r:=r) (es.take i) fs (λx L=>C x (List.mem_of_mem_take L));generalize hF:dB b s r fs (es.take i)=F at hle rt;show#[by rw[Us,Us,V1];ext,[-(b9 e),-(gA b s e),cL (.rf ω.length),-(nd r)],W,W,?_];let I:(F.map dz).length<100000:=by rw[Us];ext
   let P:PSt ω.length (ω.length+1) (ω.length+2) m (F.map dz) (j7 ω m (F.map dz) J):=xn I;let T:=rZ (b:=nd r) (e:=b9 e) P (wW H B) B (oA g);let K:aZ (gA b s e) (.int 1)=-(bU (aw b s e).1):=kG;let a:=Ar (n:=4) (m:= "enter") (F:=bA) (fo:=am 2) (fa:=ah (ae (aG aZ (ad 1) (~~~1))) (ah (ae (ad 3)) (ah (ae (ad 0)) aC))) (ρ:=[-(b9 e),-(gA b s e),cL (.rf ω.length),-(nd r)]) (xs:=[.fz (bU (aw b s e).1),.fz (nd r),.fz (b9 e)]) (aO W) P.o rU (aj (af (aI (rv:=.fz (bU (aw b s e).1)) (ag W) ay W W K)) (aj (af (ag W)) (aj (af (ag W)) aD))) W;rw[T]at a;let v:=HN h (s:=(aw b s e).1) (t:=gB F (aw b s e).1) (by rw[rt];show G9 g _ _);let U:((es.take (i+1)).map λe=>nd (gB (dB b s r fs es) (aw b s e).1)).map SV.fz=((es.take i).map λe=>nd (gB (dB b s r fs es) (aw b s e).1)).map .fz++[.fz (nd (gB F (aw b s e).1))]:=by rw[W2,q,UP,UP];show _++[SV.fz (nd (gB (dB b s r fs es) (aw b s e).1))]=_;rw[v]
   rw[U,rt];cases o:eN (F.map dz) (bU (aw b s e).1)with
   |some t=>
    rw[o]at a;let e1:gW F (aw b s e).1 (nd r) (b9 e)=F:=by ext gW;rw[o];rfl
    let e2:gB F (aw b s e).1=t:=by ext gB;rw[o];rfl
    rw[e1,e2];show .eq a #[_,_,W,W,W,hle]
   |none=>
    rw[o]at a;let e1:gW F (aw b s e).1 (nd r) (b9 e)=F++[#[(aw b s e).1,nd r,b9 e]]:=by ext gW;rw[o];rfl
    let e2:gB F (aw b s e).1=F.length:=by ext gB;rw[o];rfl
    dsimp only at a;rw[Us]at a;by_cases hm:m<=(F.length:Int)
    .rw[ax hm]at a;show .eq a #[W,?_];let:=h.length_le;rw[rt,e1,Uz]at this;let this:F.length+1<=_:=this;ext
    .rw[a4 hm,Ax]at a;rw[e1,e2];show .eq a #[_,_,W,by rw[UP];rfl,W,?_];rw[Uz];show((F.length+1:Nat):Int)<=m;ext
 .rintro xs c ⟨f,u,p,_,rfl,rfl,hle⟩;rw[Wx,Us,ZP] at*;show#[W,?_,hle];ext j7;rw[U3];rfl
def qz(h:Out r T X)(k:∀a c,T a c->T' a c)(b:∀x,X x->X' x):Out r T' X':=by
 show#[?_];let h:=h.out;cases r with
 |bad=>show h
 |er x o=>show b x h
 |ok a o=>show k a o h
def JS(b:Bd)(es:G Yy)(j:Nat):D:=match(bV b es j)[j]? with
 |some r=>.tuple (es.map λe=>nd (gB (bV b es (j+1)) (aw b r.s e).1))
 |none=>.none
def Dx(b:Bd)(es:G Yy)(j:Nat):D:=match(bV b es j)[j]? with
 |some r=>.tuple (es.map λe=>.tuple ((aw b r.s e).2.map qU))
 |none=>.none
def g8(b:Bd)(es:G Yy)(n:Nat):G D:=(UM n).map (JS b es)
def jq(b:Bd)(es:G Yy)(n:Nat):G D:=(UM n).map (Dx b es)
def ra(a:aJ)(m:Int)(b:Bd)(es:G Yy)(n:Nat)(J:aJ):aJ:=j7 a m ((bV b es n).map dz) (.lst ((g8 b es n).map .fz):: .lst ((jq b es n).map .fz)::J)
def nM:j7 o m fs (J++K)=j7 o m fs J++K:=by ext j7;rw[U3];rfl
def zO:(j7 o m fs J).length=o.length+3+J.length:=by ext j7;rw[Uz];show o.length+(J.length+1+1+1)=_;ext
theorem S4{n:Nat}{v:SV}(h:xs[n]?=S v):jS xs (n:Int)=S v:=sY () (by rw[VR];show h)
abbrev W9(b:Bd)(m:Int)(es:G Yy)(l:Nat)(c e a:z SV):aP:=[-(bD b),-(.int m),-(.list (es.map b9)),S (.rf l),S (.rf (l+3)),S (.rf (l+4)),c,e,a]
def yt(A:VB b){n:Nat}(k:b.n=n)(s:n<=5)(S:0<=m)(R:m<=1000)(a:aJ):Out (jg [.fz (bD b),.fz (.int m)] a) (λv c=>∃N J,(bV b (im n) N).length=N/\(N:Int)<=m/\v=.tp [.rf (a.length+2),.rf (a.length+4),.rf (a.length+5)]/\c=ra (a++[.dead]) m b (im n) N J) (λx=>x=TM m/\∃i,m<((bV b (im n) i).length:Int)):=by
 let p:(im n).length<=1000:=by ext im;rw[Uz,Uz,Us,Us,Vh];show n+n+1<=_;ext
 let l:=yI k;let ev:=Cq k s;generalize im n=es at p l ev;show uO W ?_;ext jo;let e1:l7 (ae (cZ cO 1 {ad 0})) [-(bD b),-(.int m),Uo,Uo,Uo,Uo,Uo,Uo,Uo] a=.ok (.fz (.list (es.map b9))) (a++[.dead]):=by show qO (df (bZ (ai (ag W) az) W W ev)) ?_;rw[nV aU,hV]
 show dP e1 W ?_;let U:(a++[Cell.dead]).length=a.length+1:=by rw[Uz];rfl
 let r2:a.length+2=(a++[Cell.dead]).length+1:=by ext
 let r4:a.length+4=(a++[Cell.dead]).length+3:=by ext
 let r5:a.length+5=(a++[Cell.dead]).length+4:=by ext
 rw[r2,r4,r5];generalize a++[Cell.dead]=base;let Q:=Nd (C:= "Places") (F:=cx) (fa:=ah (ae (pC (.tuple [(.tuple []),.none,.none]))) (ah (ae (ad 1)) aC)) (ρ:=[-(bD b),-(.int m),-(.list (es.map b9)),Uo,Uo,Uo,Uo,Uo,Uo]) (ω:=base) (aj (af (d:=bU xx) (show _=Res.ok (PV.fz (.tuple [.tuple [],.none,.none]),_)from ay)) (aj (af (ag W)) aD)) W;rw[Dw (oA (t8 b)) S R]at Q;show KW (.eq Q ?_);by_cases hm:m<=0
 .rw[ax hm];show#[W,0,by show m<1;ext]
 rw[a4 hm];show Out.eq W #[?_];show jT _ _ _ _;show dP (ρ1:=[-(bD b),-(.int m),-(.list (es.map b9)),cL (.rf base.length),cL (.rf (base.length+3)),Uo,Uo,Uo,Uo]) ((df (by ext:0)).trans (by rw[zO,<-nM];rfl)) W ?_;show dP (ρ1:=W9 b m es base.length Uo Uo Uo) ((df (by ext:0)).trans (by rw[zO,<-nM];rfl)) W ?_;show ju (v8 (λn o f=>∃J j h g,o=W9 b m es base.length j h g/\f=ra base m b es n J/\n<=(bV b es n).length/\((bV b es n).length:Int)<=m) 1000 () #[[],Uo,Uo,Uo,W,W,Vm _,by show(1:Int)<=m;ext] ?_);rintro n o f ⟨J,j,h,g,rfl,rfl,hle,hlm⟩;let K:=lP A l n;let lF:((bV b es n).map dz).length<100000:=by rw[Us];ext
 let P:PSt base.length (base.length+1) (base.length+2) m ((bV b es n).map dz) (ra base m b es n J):=xn lF;let g3:(ra base m b es n J)[base.length+3]?=cL (.lst ((g8 b es n).map .fz)):=i8;let O:(g8 b es n).length=n:=by ext g8;rw[Us,Vh]
 let dl:(jq b es n).length=n:=by ext jq;rw[Us,Vh]
 let w:∀{j h g:b4 SV},pL c9 (ah (am 4) aC) (W9 b m es base.length j h g) (ra base m b es n J)=.ok (.fz (nd n)) (ra base m b es n J):=rT (aj (aO W) aD) (by ext aA;rw[cz g3];rfl) ((eB _).trans (by rw[O]));let H:∀{j h g:b4 SV},aV "Places" "found" (am 3) (W9 b m es base.length j h g) (ra base m b es n J)=.ok (.rf (base.length+1)) (ra base m b es n J):=iA (aO W) P.o rE;let L:pL c9 (ah (aV "Places" "found" (am 3)) aC) (W9 b m es base.length j h g) (ra base m b es n J)=.ok (.fz (nd (bV b es n).length)) (ra base m b es n J):=rT (aj H aD) (by ext aA;rw[cz P.f];rfl) ((eB _).trans (by rw[Us,Us]));let z:=aH (bT w L (bN (kq (n:Int) ((bV b es n).length:Int))));by_cases Y:n<(bV b es n).length
 case neg=>
  rw[a6 ()]at z;show .inl #[_,z,?_];let nN:(bV b es n).length=n:=by ext
  show ug (Mf (aj H (aj (aO W) (aj (aO W) aD))) (Uy W) W W) #[n,J,nN,by ext,W,W]
 case pos=>
  rw[a5 ()]at z;show .inr #[by ext,_,z,?_];obtain⟨r,u⟩:∃r,(bV b es n)[n]?=cL r:=#[_,UE Y];let q:=K r (Vj u);show dP (x:=.fz (nd n)) (ρ1:=W9 b m es base.length (-(nd n)) h g) w W ?_;let st:gh (gh (aV "Places" "found" (am 3)) (ae (ad 6))) (ae (~~~0)) (W9 b m es base.length (-(nd n)) h g) (ra base m b es n J)=.ok (.fz (bU r.s)) (ra base m b es n J):=b7 (dx:=kL (dz r)) (yp H (af (d:=nd n) (ag W)) W P.f (S4 (by rw[UG,UG,UG,u];rfl))) (af ay) g7;show dP (x:=.fz (bU r.s)) (ρ1:=W9 b m es base.length (-(nd n)) (-(bU r.s)) g) st W ?_;let(M,ha):=xF A q l p (ρ:=W9 b m es base.length (-(nd n)) (-(bU r.s)) g) (ω:=ra base m b es n J) W W W;show dP (x:=.fz (.list (es.map (gA b r.s)))) (ρ1:=W9 b m es base.length (-(nd n)) (-(bU r.s)) (-(.list (es.map (gA b r.s))))) ha W ?_;let eJ:ra base m b es n J++M=ra base m b es n (J++M):=by ext ra;rw[<-nM];rfl
  rw[eJ];generalize J++M=J;let y:=A0 A q l p (ρ:=W9 b m es base.length (-(nd n)) (-(bU r.s)) (-(.list (es.map (gA b r.s))))) (ω:=base) (J:=.lst ((g8 b es n).map .fz):: .lst ((jq b es n).map .fz)::J) (m:=m) (r:=n) (fs:=bV b es n) S R hlm W W W W;rw[<-pz u]at y;let E:JS b es n=.tuple (es.map λe=>nd (gB (bV b es (n+1)) (aw b r.s e).1)):=by ext JS;rw[u]
  let G:Dx b es n=.tuple (es.map λe=>.tuple ((aw b r.s e).2.map qU)):=by ext Dx;rw[u]
  let B:g8 b es (n+1)=g8 b es n++[JS b es n]:=by ext g8;rw[Z8,UP];rfl
  let I:jq b es (n+1)=jq b es n++[Dx b es n]:=by ext jq;rw[Z8,UP];rfl
  let y:=qz y (T':=λx c=>∃ds,sh c x=cL (.list ds)/\(∃ys,c[base.length+3]?=cL (.lst ys)/\ys.length<1000000/\jT (bc (jf (am 5) (ae (fG gp {dc 1 [] (gq (ad 8)) (gN 0) cN (fG gp {aG aZ (ad 0) (~~~0)})}))) (W9 b m es base.length (-(nd n)) (-(bU r.s)) (-(.list (es.map (gA b r.s))))) (c.set (base.length+3) (.lst (ys++[.fz (.tuple ds)])))) (λo f=>∃J j h g,o=W9 b m es base.length j h g/\f=ra base m b es (n+1) J/\n+1<=(bV b es (n+1)).length/\((bV b es (n+1)).length:Int)<=m) (λv c=>∃N J,(bV b es N).length=N/\(N:Int)<=m/\v=.tp [.rf (base.length+1),.rf (base.length+3),.rf (base.length+4)]/\c=ra base m b es N J) (λx=>x=TM m/\∃i,m<((bV b es i).length:Int)))) (X':=λx=>x=TM m/\∃i,m<((bV b es i).length:Int)) ?_ (λx T=>#[T.1,n+1,T.2])
  .show Eb (Hg (i:=base.length+3) (aO W) (i8 (t:=3)) (Hc y))
  rintro x c ⟨rfl,rfl,hm'⟩;show#[es.map λe=>nd (gB (bV b es (n+1)) (aw b r.s e).1),?_,(g8 b es n).map .fz,i8 (t:=3),by rw[Us,O];ext,?_]
  .show cz ?_;rw[nM];show aU
  .let Z:(j7 base m ((bV b es (n+1)).map dz) ((.lst ((g8 b es n).map .fz):: .lst ((jq b es n).map .fz)::J)++[.lst ((es.map λe=>nd (gB (bV b es (n+1)) (aw b r.s e).1)).map .fz)])).set (base.length+3) (.lst ((g8 b es n).map SV.fz++[.fz (.tuple (es.map λe=>nd (gB (bV b es (n+1)) (aw b r.s e).1)))]))=j7 base m ((bV b es (n+1)).map dz) (.lst ((g8 b es (n+1)).map .fz):: .lst ((jq b es n).map .fz)::(J++[.lst ((es.map λe=>nd (gB (bV b es (n+1)) (aw b r.s e).1)).map .fz)])):=by
    ext j7;rw[qW,B,E,UP];rfl
   rw[Z];generalize J++[Cell.lst ((es.map λe=>nd (gB (bV b es (n+1)) (aw b r.s e).1)).map .fz)]=J;let cm:i9 (cW (gN 0) cN (fG gp {aG aZ (ad 0) (~~~0)}) (es.map (gA b r.s)) [Uo] [])=.ok (es.map λe=>.tuple ((aw b r.s e).2.map qU)):=iH (cp:=[]) (gA b r.s) (λe=>.tuple ((aw b r.s e).2.map qU)) es p W λe _=>by let i0:aZ (gA b r.s e) (.int 0)=-(.list ((aw b r.s e).2.map qU)):=g7;show dX (rv:=.fz (.tuple ((aw b r.s e).2.map qU))) (ds:=[.list ((aw b r.s e).2.map qU)]) (ai (aI (rv:=.fz (.list ((aw b r.s e).2.map qU))) (ag W) ay W W i0) az) W W
   let X:(j7 base m ((bV b es (n+1)).map dz) (.lst ((g8 b es (n+1)).map .fz):: .lst ((jq b es n).map .fz)::J))[base.length+4]?=cL (.lst ((jq b es n).map .fz)):=i8 (t:=4);let ap:=oU (ρ:=W9 b m es base.length (-(nd n)) (-(bU r.s)) (-(.list (es.map (gA b r.s))))) (fo:=am 5) (fe:=ae (fG gp {dc 1 [] (gq (ad 8)) (gN 0) cN (fG gp {aG aZ (ad 0) (~~~0)})})) (x:=.fz (Dx b es n)) (aO W) X (by rw[G];show af (dX (rv:=.fz (.tuple (es.map λe=>.tuple ((aw b r.s e).2.map qU)))) (ds:=[.list (es.map λe=>.tuple ((aw b r.s e).2.map qU))]) (ai (dM (cs:=[]) (ds:=es.map (gA b r.s)) (jG (d:=.list (es.map (gA b r.s))) (ag W) W W) W cm) az) W W)) X (by rw[Us,dl];ext);show Ox (eV ap) #[J,_,_,_,W,?_,EW Y,hm'];unfold ra j7;rw[qW,I,UP];rfl
def sr(e:VB b){n:Nat}(d:b.n=n)(j:n<=5)(g:0<=m)(f:m<=1000)(a:aJ):Out (cS [.fz (bD b),.fz (.int m)] a) (λv c=>∃N i K,(bV b (im n) N).length=N/\(N:Int)<=m/\v=.rf (a.length+i)/\c=a++K/\K[i]?=S (.lst ((((bV b (im n) N).map dz).map kL).map .fz))) (λx=>x=TM m/\∃i,m<((bV b (im n) i).length:Int)):=by show uO W ?_;ext kX;show Jb ?_;let p:=Ce (F:=jg) (es:=[]) (fa:=ah (ae (ad 0)) (ah (ae (ad 1)) aC)) (ρ:=[-(bD b),-(.int m)]) (ω:=a) (aj (af (ag W)) (aj (af (ag W)) aD)) W;show Out.bind (.eq p ((yt e d j g f a).imp λv c h=>?_));let(N,J,o,l,rfl,rfl):=h;show .eq (r':=RS.ok (SV.rf (a.length+2)) (ra (a++[.dead]) m b (im n) N J)) ?_ #[N,2,_,o,l,W,(by unfold ra j7;rw[U3]),W];rw[af ay,eH];rfl
section
variable{X:aP}{T Y Z:aJ}{x y:SV}
def Dy(b:o X T=.ok xs Y)(a:oG F n xs Y=.ok x Z):j9 F n o X T=.ok x Z:=by ext j9;rw[b,eH,a];rfl
def Jm(d:o X T=.ok (.tp l) Y)(e:fb X Y=.ok y Z)(c:AU y=S i)(b:jS l i=S a):L10.gh o fb X T=.ok a.sv Z:=by ext L10.gh;rw[d,eH,e,eH];ext GY;rw[c];show RS.Vu Z ((jS l i).map AV.sv)=_;rw[b];rfl
end
def B9(fs:G Pl):G (D×D):=fs.map λq=>(q.p,.bool R)
theorem xZ:∀(fs:G Pl) (p:D),(fO (B9 fs) p).isSome=(eN fs p).isSome
 |[],_=>rfl
 |q::r,p=>by
  let a:=xZ r p;unfold fO at a⊢;unfold B9 eN;rw[UK,Vg];cases Uv.eqv q.p p with
  |true=>rfl
  |false=>dsimp only;rw[a4 UH,V6,V6];rw[V6]at a;show a
def Oa(h:eN fs p=P):ic (B9 fs) p (.bool R)=B9 (fs++[#[p,b,e]]):=by let g:=xZ fs p;rw[h]at g;unfold fO at g;rw[V6]at g;ext ic;rw[g,a4 ()];ext B9;rw[UP];rfl
def qV(a:aJ)(fs:G Pl)(J:aJ):aJ:=a++(Cell.lst ((fs.map kL).map .fz):: .dd (B9 fs)::J)
def J7:qV o fs (J++K)=qV o fs J++K:=by ext qV;rw[U3];rfl
theorem AG:∀(es:G Yy) (fs:G Rm),(dB b s r fs es).length<=fs.length+es.length
 |[],fs=>UC _
 |e::es,fs=>by
  let a:=AG (b:=b) (s:=s) (r:=r) es (gW fs (aw b s e).1 (nd r) (b9 e));let f:(gW fs (aw b s e).1 (nd r) (b9 e)).length<=fs.length+1:=by
   ext gW;split
   .omega
   .rw[Uz];show UC _
  rw[UJ];show Vb a ()
abbrev W7(b:Bd)(l n:Nat)(c a:z SV):aP:=[-(bD b),-(.int 90),S (.rf l),S (.rf (l+1)),-(nd n),c,a]
def ye(B:VB b){n:Nat}(D:b.n=n)(Z:n<=5)(g:aJ):Out (fV [.fz (bD b),.fz (.int 90)] g) (λv k=>(v=.fz .none/\∃i,90<(bV b (im n) i).length)\/∃N J,(bV b (im n) N).length=N/\N<=90/\v=.rf g.length/\k=qV g ((bV b (im n) N).map dz) J) (λ_=>False):=by
 let I:(im n).length<=1000:=by ext im;rw[Uz,Uz,Us,Us,Vh];show n+n+1<=_;ext
 let h:=yI D;let ev:=zE D Z;generalize im n=es at I h ev;show uO W ?_;ext d7;show dP (df (show _=Res.ok (PV.ow [.tuple [.tuple [.tuple [],.none,.none],.none,.none]],_) by ext:0)) W ?_;let U:gh (gh (am 2) (ae (~~~0))) (ae (~~~0)) [-(bD b),-(.int 90),cL (.rf g.length),Uo,Uo,Uo,Uo] (g++[.lst [.fz (kL #[bU xx,.none,.none])]])=.ok (.fz (bU xx)) (g++[.lst [.fz (kL #[bU xx,.none,.none])]]):=b7 (yp (aO W) (af ay) W aU (S4 W)) (af ay) g7;let kd:A9 (gh (gh (am 2) (ae (~~~0))) (ae (~~~0))) (ae (pC (.bool Uq))) [-(bD b),-(.int 90),cL (.rf g.length),Uo,Uo,Uo,Uo] (g++[.lst [.fz (kL #[bU xx,.none,.none])]])=.ok (.rf (g.length+1)) (qV g ((bV b es 0).map dz) []):=by ext A9;rw[U,lm,eH,af ay,lm,eH,oM (oA (t8 b)),Uz];show RS.ok _ ((g++[_])++[_])=_;rw[U3];rfl
 show dP kd W ?_;show dP (af ay) W ?_;show ju (v8 (λn ρ ω=>∃J o5 o6,ρ=W7 b g.length n o5 o6/\ω=qV g ((bV b es n).map dz) J/\n<=(bV b es n).length/\(bV b es n).length<=90) 91 () #[[],Uo,Uo,W,W,Vm _,by show 1<=90;decide] ?_);rintro n ρ ω ⟨J,o5,o6,rfl,rfl,hle,hlm⟩;let K:=lP B h n;let w:∀{F:b3 Rm} {n:Nat} {o5 o6:b4 SV} {J:aJ},pL c9 (ah (am 2) aC) (W7 b g.length n o5 o6) (qV g (F.map dz) J)=.ok (.fz (nd F.length)) (qV g (F.map dz) J):=λ{F n o5 o6 J}=>rT (aj (aO W) aD) (by ext aA;rw[cz (i8 (t:=0))];rfl) ((eB _).trans (by rw[Us,Us]));let A:=aH (bT (af (f:=ad 4) (ag W)) (w (o5:=o5) (o6:=o6) (J:=J)) (bN (kq (n:Int) ((bV b es n).length:Int))));by_cases M:n<(bV b es n).length
 case neg=>
  rw[a6 ()]at A;show .inl #[_,A,ug (aO W) (.inr #[n,J,by ext,by ext,W,W])]
 case pos=>
  rw[a5 ()]at A;show .inr #[by ext,_,A,?_];obtain⟨r,H⟩:∃r,(bV b es n)[n]?=cL r:=#[_,UE M];let j:=K r (Vj H);let L:∀{ω:aJ},gz (gq (cZ bJ 1 {ad 0})) (W7 b g.length n o5 o6) ω=.ok (es.map b9) ω:=lB (jG (bZ (ai (ag W) az) W W ev) W W);show ju (MB (λi ρ ω=>∃J o5 o6,ρ=W7 b g.length n o5 o6/\ω=qV g ((dB b r.s n (bV b es n) (es.take i)).map dz) J) L #[J,o5,o6,W,W] ?_ ?_)
  .rintro i d ρ ω o ⟨J,o5,o6,rfl,rfl⟩
   rw[UG]at o;cases q:es[i]? with
   |none=>rw[q]at o;ext o
   |some e=>
    rw[q]at o;cases UI o;let m:=h e (Vj q);let C:=sU B j m;let rt:=u7 (b:=b) (s:=r.s) (r:=n) (fs:=bV b es n) q;let P:=AG (b:=b) (s:=r.s) (r:=n) (es.take i) (bV b es n);let il:=(Ux.mp q).1;rw[V1]at P;let u:(dB b r.s n (bV b es n) (es.take i))[n]?=cL r:=by let(l,X):=nO (es.take i) (bV b es n);rw[<-X,U0 M];show H
    rw[rt];generalize dB b r.s n (bV b es n) (es.take i)=F at P u;show#[W7 b g.length n (-(b9 e)) o6,_,W,?_];let g0:∀{J:aJ},(qV g (F.map dz) J)[g.length]?=cL (.lst (((F.map dz).map kL).map .fz)):=λ{J}=>i8 (t:=0);let S:∀{J:aJ},(qV g (F.map dz) J)[g.length+1]?=cL (.dd (B9 (F.map dz))):=λ{J}=>i8 (t:=1);let E:gh (gh (am 2) (ae (ad 4))) (ae (~~~0)) (W7 b g.length n (-(b9 e)) o6) (qV g (F.map dz) J)=.ok (.fz (bU r.s)) (qV g (F.map dz) J):=b7 (dx:=kL (dz r)) (yp (aO W) (af (d:=nd n) (ag W)) W g0 (S4 (by rw[UG,UG,UG,u];rfl))) (af ay) g7;let T:=Lf B j m (ω:=qV g (F.map dz) J);let be:l7 (gh (j9 STP.gO 3 (ah (ae (ad 0)) (ah (gh (gh (am 2) (ae (ad 4))) (ae (~~~0))) (ah (ae (ad 5)) aC)))) (ae (~~~1))) (W7 b g.length n (-(b9 e)) o6) (qV g (F.map dz) J)=.ok (.fz (bU (aw b r.s e).1)) (qV g (F.map dz) (J++[ip b r.s e])):=by show qO (x:=.fz (bU (aw b r.s e).1)) (ω1:=qV g (F.map dz) (J++[ip b r.s e])) ?_ W;rw[J7];show Jm (i:=1) (a:=.fz (bU (aw b r.s e).1)) (Dy (xs:=[.fz (bD b),.fz (bU r.s),.fz (b9 e)]) (aj (af (ag W)) (aj E (aj (af (ag W)) aD))) T) (af (d:=.int 1) ay) W W
    show dP (ρ1:=W7 b g.length n (-(b9 e)) (-(bU (aw b r.s e).1))) be W ?_;let Q:=oM (oA C);let O:∀{ω:aJ},ae (ad 6) (W7 b g.length n (-(b9 e)) (-(bU (aw b r.s e).1))) ω=.ok (.fz (bU (aw b r.s e).1)) ω:=af (ag W);let R:=Au (neg:=Uq) (fd:=am 3) O (aO W) Q (S (J:=J++[ip b r.s e]));rw[xZ]at R;let y:=aH R;cases q2:eN (F.map dz) (bU (aw b r.s e).1)with
    |some t=>
     rw[q2]at y;let e1:gW F (aw b r.s e).1 (nd n) (b9 e)=F:=by ext gW;rw[q2];rfl
     rw[e1];show .eq (fE y eT) #[_,_,_,W,W]
    |none=>
     rw[q2]at y;let e1:gW F (aw b r.s e).1 (nd n) (b9 e)=F++[#[(aw b r.s e).1,nd n,b9 e]]:=by ext gW;rw[q2];rfl
     rw[e1];let G:=vn (fv:=ae (pC (.bool Uq))) (fk:=ae (ad 6)) (fd:=am 3) (ρ:=W7 b g.length n (-(b9 e)) (-(bU (aw b r.s e).1))) (d:=.bool Uq) (af ay) (aO W) O Q (S (J:=J++[ip b r.s e])) (by ext B9;rw[Us,Us];ext);rw[Oa (b:=nd n) (e:=b9 e) q2]at G;let e2:(qV g (F.map dz) (J++[ip b r.s e])).set (g.length+1) (.dd (B9 (F.map dz++[#[bU (aw b r.s e).1,nd n,b9 e]])))=g++(Cell.lst (((F.map dz).map kL).map .fz):: .dd (B9 (F.map dz++[#[bU (aw b r.s e).1,nd n,b9 e]]))::(J++[ip b r.s e])):=by ext qV;rw[qW];rfl
     rw[e2]at G;let p:(g++(Cell.lst (((F.map dz).map kL).map .fz):: .dd (B9 (F.map dz++[#[bU (aw b r.s e).1,nd n,b9 e]]))::(J++[ip b r.s e])))[g.length]?=cL (.lst (((F.map dz).map kL).map .fz)):=i8 (t:=0);let ap:=oU (fo:=am 2) (fe:=ae (bG {ad 6,ad 4,ad 5})) (ρ:=W7 b g.length n (-(b9 e)) (-(bU (aw b r.s e).1))) (x:=.fz (kL #[bU (aw b r.s e).1,nd n,b9 e])) (aO W) p (af (eD (ds:=[bU (aw b r.s e).1,nd n,b9 e]) (ai (ag W) (ai (ag W) (ai (ag W) az))) W (Uy W))) p (by rw[Us,Us,Us];ext);show .eq (dC y (cb G (eV ap))) #[J++[ip b r.s e],_,_,W,?_];let:=qW (l:=g) (r:=Cell.lst (((F.map dz).map kL).map .fz):: .dd (B9 (F.map dz++[#[bU (aw b r.s e).1,nd n,b9 e]]))::(J++[ip b r.s e])) (t:=0) (c:=.lst (((F.map dz).map kL).map .fz++[.fz (kL #[bU (aw b r.s e).1,nd n,b9 e])]));show Eq.trans this ?_;ext qV;rw[UP,UP,UP];rfl
  .rintro ρ ω ⟨J,o5,o6,rfl,rfl⟩
   rw[Us,ZP,<-pz H];show dP (x:=.fz (nd (n+1))) (ρ1:=W7 b g.length (n+1) o5 o6) (af (d:=nd (n+1)) (aI (rv:=.fz (nd (n+1))) (ag W) ay W W (fM (n:Int) 1))) W ?_;let z:=aH (bT (w (F:=bV b es (n+1)) (n:=n+1) (o5:=o5) (o6:=o6) (J:=J)) (af (f:=ad 1) (d:=.int 90) (ag W)) (bN (Am ((bV b es (n+1)).length:Int) 90)));by_cases Y:90<(bV b es (n+1)).length
   .rw[a5 ()]at z;show .eq (dC z (gr (af (d:=.none) ay))) #[.inl #[W,n+1,Y]]
   .rw[a6 ()]at z;show .eq (fE z eT) #[#[J,_,_,W,W,EW M,by ext]]
def qA(h:cS [.fz (bD b),.fz (.int m)] C=.er (TM m) o):bv [.fz (bD b),.fz (.int m)] C=.ok (.fz (.bool R)) o:=by
 show(match cS [.fz (bD b),.fz (.int m)] C with
  |.er x o=>if x.cls=("TooMany":Str)then(match x.fs with
   |[(f,.int k)]=>if f=("most":Str)/\k=m then RS.ok (SV.fz (.bool R)) o else .bad
   |_=>.bad)else .bad
  |_=>.bad)=_
 rw[h];show(if("TooMany":Str)= "TooMany" then(if("most":Str)= "most"/\m=m then RS.ok (SV.fz (.bool R)) o else .bad)else .bad)=_;rw[ax W,ax #[W,W]]
def yi:Uv.canLay0 (b9 e)=R/\Uv.depth (b9 e)<=1:=by
 cases e with
 |down k=>show#[by show(Uv.strOk "down"&&(R&&R))=R;left,Uy W]
 |up k=>show#[by show(Uv.strOk "up"&&(R&&R))=R;left,Uy W]
 |turn=>show#[by show(Uv.strOk "turn"&&(R&&R))=R;left,Uy W]
def JA(es:G Yy):kg (.list (es.map b9))=R:=by show L7 (uf λq a=>yi.1) ?_;show Uv.depthAll (es.map b9)+1<=64;let:=nW (f:=b9) (l:=es) λq _=>yi.2;ext
def BE(x:D):Prop:=Uv.canLay0 x=R/\Uv.depth x<=1
theorem Ew:∀(es:G Yy) (fs:G Rm),(∀q∈fs,BE q.b/\BE q.e)->∀q∈dB b s r fs es,BE q.b/\BE q.e
 |[],fs,hf=>hf
 |e::es,fs,hf=>Ew es (gW fs (aw b s e).1 (nd r) (b9 e)) (by
  ext gW;split
  .show hf
  .intro q a
   rcases VD.mp a with a|a
   .show hf q a
   .rw[Ve.mp a];show#[#[W,Vm _],yi])
theorem xu(b:Bd)(es:G Yy):∀i,∀q∈bV b es i,BE q.b/\BE q.e
 |0=>λr a=>by rw[Ve.mp a];show#[#[W,Vm _],W,Vm _]
 |i+1=>by
  by_cases h:i<(bV b es i).length
  .rw[pz (UE h)];show Ew es _ (xu b es i)
  .rw[ur ()];show xu b es i
def Pg(h:VB b)(j:∀e∈es,EV b e)(i:Nat):kg (.list (((bV b es i).map dz).map kL))=R:=by
 let a:∀q∈(bV b es i).map dz,Uv.canLay0 (kL q)=R/\Uv.depth (kL q)<=5:=by
  intro q f;let(r,g,rfl):=Vt.mp f;let(k1,k2):=Mc (lP h j i r g);let((l,m),e1,e2):=xu b es i r g;constructor
  .show(Uv.canLay0 (bU r.s)&&(Uv.canLay0 r.b&&(Uv.canLay0 r.e&&R)))=R;rw[LD.kd_lay _ k1,l,e1];rfl
  .show max (Uv.depth (bU r.s)) (max (Uv.depth r.b) (max (Uv.depth r.e) 0))+1<=5;ext
 show L7 (uf λq f=>(a q f).1) ?_;show Uv.depthAll (((bV b es i).map dz).map kL)+1<=64;let:=nW λq f=>(a q f).2;ext
theorem Dp:∀{l:G α} {i:Nat} {x:α},l[i]?=S x->l.set i x=l
 |[],_,_,h=>by simp at h
 |a::r,0,x,h=>by simp at h;rw[h];rfl
 |a::r,i+1,x,h=>by show a::r.set i x=_;rw[Dp (by simpa using h)]
def xA(h:o[i]?=S (.lst (ds.map .fz))):tR 6 o (.rf i)=S (.list ds):=by
 ext tR;rw[h];dsimp only;let:∀l:G D,aA (tR 5 o) (l.map .fz)=S l:=λl=>by
  induction l with
  |nil=>rfl
  |cons a r b=>rw[UK];ext aA;rw[show tR 5 o (.fz a)=S a from rfl];dsimp only;rw[b]
 rw[this];rfl
def GM(f:VB b){n:Nat}(k:b.n=n)(l:n<=5)(j:0<=m)(g:m<=1000)(h:∀N,(bV b (im n) N).length=N->m<(N:Int))(d:aJ):∃c,cS [.fz (bD b),.fz (.int m)] d=.er (TM m) c:=by let(x,o,e,a):=(qz (sr f k l j g d) (λv c #[N,i,K,p,q,_]=>by let:=h N p;ext) λx a=>a.1).er;subst a;show#[o,e]
def Ef(j:VB b){n N:Nat}(d:b.n=n)(a:n<=5)(p:0<=m)(l:m<=1000)(f:(bV b (im n) N).length=N)(h:(N:Int)<=m)(c:aJ):∃i K,cS [.fz (bD b),.fz (.int m)] c=.ok (.rf (c.length+i)) (c++K)/\K[i]?=S (.lst ((((bV b (im n) N).map dz).map kL).map .fz)):=by let(v,o,e,u,i,K,r,t,rfl,rfl,a):=(qz (sr j d a p l c) (λv g q=>q) λx #[_,i,y]=>by let:=tW (X6 f) i;ext).all;rw[zD r f]at a;show#[i,K,e,a]
abbrev G5(g:G Int)(b:Bd)(f e a:z SV):aP:=[-(.list (g.map .int)),-(bD b),f,e,a]
theorem Sy:∀l:G D,nG [.list (l.map λ_=>Uv.bool R)]=-(.bool R):=λl=>(lK (λ_=>R) l).trans (by rw[VP.mpr (λ_ _=>W)])
def main(e:b3 Int)(c:e.length<=63):L10.QJ F_law [.list (e.map .int)]=.ok (.fz (.bool Uq)):=by
 let(n,hn,ek):=J8 e;let(b,o,g,G):=N9 e 1 n hn;let G:=G;let l:n<=5:=by ext
 let e1:=Cq g l;let e2:=zE g l;let E:=yI g;let u:=zj (JA (im n));let A:Out (F_law [.fz (.list (e.map .int))] []) (λx _=>x=.fz (.bool Uq)) (λ_=>False):=by
  show uO W ?_;ext u9;show dP (af (bZ (ai (ag W) (ai ay (ai (bZ (ai (ag W) az) W W ek) az))) W W G)) W ?_;show dP (df (bZ (ai (ag W) az) W W e1)) W ?_;let X:uV (kJ (aQ (wV "list" (am 2)))) (aQ (iS qh (am 2) (ae (cZ bJ 1 {ad 1})))) (G5 e b (cL (.rf 0)) Uo Uo) [.lst (((im n).map b9).map .fz)]=.ok Ut [.lst (((im n).map b9).map .fz),.lst (((im n).map b9).map .fz)]:=by show gv (jN (aH (EL (aO W) (xA W) W))) ?_;show aH (bT (aO W) (df (bZ (ai (ag W) az) W W e2)) (ko (cz W) (cz W) u))
  show sM X (og ?_);let lx:((((im n).map b9).map SV.fz)).getLast? =-(b9 .turn):=by ext im;rw[UP,UP];show List.getLast?_concat
  show FW (eV (HB (aO W) W lx)) ?_;let U:∀{ω:aJ},bM (aF (aG qh (cZ cO 1 {ad 1}) (cZ bJ 1 {ad 1}))) (G5 e b (cL (.rf 0)) Uo Uo) ω=.ok Ut ω:=bS (b8 (aI (bZ (ai (ag W) az) W W e1) (bZ (ai (ag W) az) W W e2) W W u) W);show sM U (og ?_);generalize List.set [Cell.lst (((im n).map b9).map SV.fz),Cell.lst (((im n).map b9).map SV.fz)] 0 (Cell.lst (((im n).map b9).map SV.fz).dropLast)=ω0;let(v,a,er,hv):=(ye o g l ω0).all;show dP (uP (aj (af (ag W)) (aj (af ay) aD)) W er) W ?_;rcases hv with⟨rfl,i,hi⟩|⟨N,J,p,h90,rfl,rfl⟩
  .let(q,F):=GM o g l (m:=90) () () (λN p=>by let:=tW (X6 p) i;ext) a;show Oy (aH (bT (aO W) (af ay) (bN W))) (Ha (uP (aj (af (ag W)) (aj (af ay) aD)) W (qA F)) W)
  .let j:=Pg o E N
   let O:=zj j;let L:=STP.Jl j;let isL:=Jh b (im n) N;generalize hR:((bV b (im n) N).map dz).map kL=R at j O L;let lR:R.length=N:=by rw[<-hR,Us,Us,p]
   let g0:(qV ω0 ((bV b (im n) N).map dz) J)[ω0.length]?=cL (.lst (R.map .fz)):=by rw[<-hR];show i8 (t:=0)
   generalize qV ω0 ((bV b (im n) N).map dz) J=a at g0;let Q:=(Ux.mp g0).1;generalize ω0.length=d0 at g0 Q;show sM (aH (bT (aO W) (af ay) (ko (cz g0) W W))) (og ?_);let y:∀{o4:b4 SV} {ω:aJ},ω[d0]?=cL (.lst (R.map .fz))->pL c9 (ah (am 3) aC) (G5 e b (cL (.rf 0)) (cL (.rf d0)) o4) ω=.ok (.fz (.int (N:Int))) ω:=λh=>rT (aj (aO W) aD) (by ext aA;rw[cz h];rfl) ((eB _).trans (by rw[lR]));let(B,K,Z,k1):=Ef o g l () () p (Yo _) a;rw[hR]at k1;show dP (rS (aj (af (ag W)) (aj (y g0) aD)) W Z) W ?_;let z:(a++K)[d0]?=cL (.lst (R.map .fz)):=(U0 Q).trans g0;let f:(a++K)[a.length+B]?=cL (.lst (R.map .fz)):=i8.trans k1;let w:d0≠a.length+B:=by ext
   let P:=(Ux.mp f).1;let l1:=(Ux.mp z).1;generalize a.length+B=d1 at f w P;generalize a++K=ω2 at z f l1 P;let H:i9 (cW (gN 0) cN (rj "tuple" (ad 0)) R [Uo] [])=.ok (R.map λ_=>.bool Uq):=by rw[<-hR,Vo];let:=iH (cp:=[]) (fe:=rj "tuple" (ad 0)) (λr=>kL (dz r)) (λ_=>Uv.bool Uq) (bV b (im n) N) () W λr _=>Cn (dx:=kL (dz r)) (ag W) W W;rw[Vo];show this
   let lf:mK 4 (fG nG {dc 1 [] (pU 4) (gN 0) cN (rj "tuple" (ad 0))}) (G5 e b (cL (.rf 0)) (cL (.rf d0)) (cL (.rf d1))) ω2=.ok (.fz (.bool Uq)) ω2:=by show(E8 W f (dX (ai (dM (by ext pU;rfl) W H) az) W (Sy R)) W).trans ?_;rw[Dp f]
   let T:uV (kJ (aQ (wV "list" (am 4)))) (uV (aQ (iS qh (am 4) (am 3))) (kJ (aQ (mK 4 (fG nG {dc 1 [] (pU 4) (gN 0) cN (rj "tuple" (ad 0))}))))) (G5 e b (cL (.rf 0)) (cL (.rf d0)) (cL (.rf d1))) ω2=.ok Ut ω2:=
    gv (jN (aH (EL (aO W) (xA f) W))) (gv (aH (bT (aO W) (aO W) (ko (cz f) (cz z) O))) (jN (aH lf)))
   show sM T (og ?_);show FW (eV (oU (aO W) f (af ay) f (by rw[Us];ext))) ?_;let C:(ω2.set d1 (.lst (R.map SV.fz++[.fz .none])))[d0]?=cL (.lst (R.map .fz)):=(Vf (eg w)).trans z;generalize ω2.set d1 (.lst (R.map SV.fz++[.fz .none]))=ω3 at C;let l3:=(Ux.mp C).1;let(i2,I,Y,k2):=Ef o g l (m:=400) () () p () ω3;rw[hR]at k2;let S:(ω3++I)[d0]?=cL (.lst (R.map .fz)):=(U0 l3).trans C;let g5:(ω3++I)[ω3.length+i2]?=cL (.lst (R.map .fz)):=i8.trans k2;let(q,F):=GM o g l (m:=(N:Int) - 1) () () (λM hM=>by rw[zD hM p];ext) (ω3++I);show ug (se (aH (bT (rS (aj (af (ag W)) aD) W Y) (aO W) (ko (cz g5) (cz S) L))) (uP (aj (af (ag W)) (aj (bT (y S) (af ay) (bN (mH _ _))) aD)) W (qA F))) W
 let(x,q,h1,rfl):=A.all;ext L10.QJ;rw[show[Uv.list (e.map .int)].map SV.fz=[.fz (.list (e.map .int))]from rfl,h1]
end K41
namespace K41
open PySem L2 L3 L10 STP CC
set_option synthInstance.maxHeartbeats 400000
set_option synthInstance.maxSize 4000
def top(i:Nat):Wm:=PySem.Challenge.pw_chordbed_k41_rooms_as_they_come.main.body.getD i (.Pass ⟨0,0,0,0⟩)
def bO:G CC.Fd:=[CC.fdX 1 "TooMany" "most",
 CC.Zc 1 "layer_of" ["standing"] 1 db,
 CC.Zc 1 "looked_up" ["bed","layer","key"] 3 gI,
 CC.Zc 1 "chords_over" ["bed","keys"] 2 br,
 CC.Zc 1 "chord_acts" ["bed","keys"] 2 d6,
 CC.Zc 1 "_law_cell" ["_law_script","_law_k"] 2 bK,
 CC.Zc 1 "_law_take" ["_law_cell_here","_law_salt","_law_many"] 3 aN,
 CC.Zc 2 "_law_letter" ["_law_cell_here","_law_salt"] 2 cA,
 CC.Zc 3 "_law_meaning" ["_law_cell_here","_law_layer","_law_many"] 3 de,
 CC.Zc 2 "_law_chords" ["_law_cell_here","_law_keys_here","_law_first"] 3 eS,
 CC.Zc 4 "_law_bed" ["_law_script","_law_at","_law_keys_here"] 3 iz,
 CC.Zc 2 "_law_keys" ["_law_script"] 1 gC,
 CC.Zc 1 "_law_events" ["_law_bed_here"] 1 bJ,
 CC.Zc 1 "events_of" ["bed"] 1 cO,
 CC.fdK 3 "Hand" ["self","bed","standing"] 3 cT,
 CC.fdM A 3 "Hand" "stands" ["self"] 1 bt,
 CC.fdM A 3 "Hand" "is_waiting" ["self","key"] 2 bP,
 CC.fdM A 3 "Hand" "has_act" ["self","act"] 2 bw,
 CC.fdM A 4 "Hand" "come" ["self","key","act"] 3 a9,
 CC.fdM A 4 "Hand" "go" ["self","key"] 2 hJ,
 CC.fdM A 5 "Hand" "decide" ["self"] 1 cy,
 CC.fdM A 4 "Hand" "makes_chord" ["self","key"] 2 cP,
 CC.fdM A 6 "Hand" "put_to_chord" ["self","key"] 2 cG,
 CC.fdM A 5 "Hand" "begin" ["self","key"] 2 d9,
 CC.fdM A 7 "Hand" "press" ["self","key"] 2 gc,
 CC.fdM A 6 "Hand" "settle" ["self","key"] 2 eR,
 CC.fdM A 7 "Hand" "lift" ["self","key"] 2 gH,
 CC.fdM A 6 "Hand" "wait_on" ["self"] 1 eA,
 CC.fdS 8 "step" ["bed","standing","event"] 3 STP.gO,
 CC.fdM R 3 "Places" "enter" ["self","place","back","event"] 4 bA,
 CC.age 4 "Places" ["self","first","most"] 3 cx,
 CC.fdD [] 9 "walked" ["bed","most"] 2 jg,
 CC.fdD [(.int 400)] 10 "rooms" ["bed","most"] 2 cS,
 CC.fdD [] 10 "rooms" ["bed","most"] 2 cS,
 CC.fdS 9 "_law_rooms" ["_law_bed_here","_law_cap"] 2 fV,
 CC.fdS 12 "_law_refused" ["_law_bed_here","_law_most"] 2 bv]
def iZ:CC.Md:=⟨["max","all","list","sorted","len","range","tuple","dict","zip","isinstance","ValueError","int","bool"],[],[("NONE",(.tuple [(.str "none")])),("CHORD",(.tuple [(.str "chord")])),("AT_REST",(.tuple [(.tuple []),.none,.none]))],[("Hand",["bed","acts","waiting","once","sent"]),("Places",["most","found","numbers"])]⟩
noncomputable instance:CC.FX bO "TooMany" "most":=⟨0,1,W⟩
noncomputable instance:CC.Fn bO CC.Zc db 1:=⟨1,1,"layer_of",["standing"],W⟩
noncomputable instance:CC.Fn bO CC.Zc gI 3:=⟨2,1,"looked_up",["bed","layer","key"],W⟩
noncomputable instance:CC.Fn bO CC.Zc br 2:=⟨3,1,"chords_over",["bed","keys"],W⟩
noncomputable instance:CC.Fn bO CC.Zc d6 2:=⟨4,1,"chord_acts",["bed","keys"],W⟩
noncomputable instance:CC.Fn bO CC.Zc bK 2:=⟨5,1,"_law_cell",["_law_script","_law_k"],W⟩
noncomputable instance:CC.Fn bO CC.Zc aN 3:=⟨6,1,"_law_take",["_law_cell_here","_law_salt","_law_many"],W⟩
noncomputable instance:CC.Fn bO CC.Zc cA 2:=⟨7,2,"_law_letter",["_law_cell_here","_law_salt"],W⟩
noncomputable instance:CC.Fn bO CC.Zc de 3:=⟨8,3,"_law_meaning",["_law_cell_here","_law_layer","_law_many"],W⟩
noncomputable instance:CC.Fn bO CC.Zc eS 3:=⟨9,2,"_law_chords",["_law_cell_here","_law_keys_here","_law_first"],W⟩
noncomputable instance:CC.Fn bO CC.Zc iz 3:=⟨10,4,"_law_bed",["_law_script","_law_at","_law_keys_here"],W⟩
noncomputable instance:CC.Fn bO CC.Zc gC 1:=⟨11,2,"_law_keys",["_law_script"],W⟩
noncomputable instance:CC.Fn bO CC.Zc bJ 1:=⟨12,1,"_law_events",["_law_bed_here"],W⟩
noncomputable instance:CC.Fn bO CC.Zc cO 1:=⟨13,1,"events_of",["bed"],W⟩
noncomputable instance:CC.FK bO "Hand" cT 3:=⟨14,3,["self","bed","standing"],W⟩
noncomputable instance:CC.FM bO A "Hand" "stands" bt 1:=⟨15,3,["self"],W⟩
noncomputable instance:CC.FM bO A "Hand" "is_waiting" bP 2:=⟨16,3,["self","key"],W⟩
noncomputable instance:CC.FM bO A "Hand" "has_act" bw 2:=⟨17,3,["self","act"],W⟩
noncomputable instance:CC.FM bO A "Hand" "come" a9 3:=⟨18,4,["self","key","act"],W⟩
noncomputable instance:CC.FM bO A "Hand" "go" hJ 2:=⟨19,4,["self","key"],W⟩
noncomputable instance:CC.FM bO A "Hand" "decide" cy 1:=⟨20,5,["self"],W⟩
noncomputable instance:CC.FM bO A "Hand" "makes_chord" cP 2:=⟨21,4,["self","key"],W⟩
noncomputable instance:CC.FM bO A "Hand" "put_to_chord" cG 2:=⟨22,6,["self","key"],W⟩
noncomputable instance:CC.FM bO A "Hand" "begin" d9 2:=⟨23,5,["self","key"],W⟩
noncomputable instance:CC.FM bO A "Hand" "press" gc 2:=⟨24,7,["self","key"],W⟩
noncomputable instance:CC.FM bO A "Hand" "settle" eR 2:=⟨25,6,["self","key"],W⟩
noncomputable instance:CC.FM bO A "Hand" "lift" gH 2:=⟨26,7,["self","key"],W⟩
noncomputable instance:CC.FM bO A "Hand" "wait_on" eA 1:=⟨27,6,["self"],W⟩
noncomputable instance:CC.Fn bO CC.fdS STP.gO 3:=⟨28,8,"step",["bed","standing","event"],W⟩
noncomputable instance:CC.FM bO R "Places" "enter" bA 4:=⟨29,3,["self","place","back","event"],W⟩
noncomputable instance:CC.FKE bO "Places" cx 3:=⟨30,4,["self","first","most"],W⟩
noncomputable instance:CC.Fn bO (CC.fdD []) jg 2:=⟨31,9,"walked",["bed","most"],W⟩
noncomputable instance:CC.Fn bO (CC.fdD [(.int 400)]) cS 2:=⟨32,10,"rooms",["bed","most"],W⟩
noncomputable instance:CC.Fn bO (CC.fdD []) cS 2:=⟨33,10,"rooms",["bed","most"],W⟩
noncomputable instance:CC.Fn bO CC.fdS fV 2:=⟨34,9,"_law_rooms",["_law_bed_here","_law_cap"],W⟩
noncomputable instance:CC.Fn bO CC.fdS bv 2:=⟨35,12,"_law_refused",["_law_bed_here","_law_most"],W⟩
noncomputable instance k1:CC.CS bO (CC.so gy):=by delta gy;infer_instance
def e1:CC.Wk bO (CC.so gy) iZ ["standing"] ["standing"] (top 12) 0 1 A=R:=by left
noncomputable instance k2:CC.CS bO (CC.so fA):=by delta fA;infer_instance
def e2:CC.Wk bO (CC.so fA) iZ ["bed","layer","key","meaning"] ["bed","layer","key"] (top 15) 0 2 A=R:=by left
noncomputable instance k3:CC.CS bO (CC.so dD):=by delta dD;infer_instance
def e3:CC.Wk bO (CC.so dD) iZ ["bed","keys"] ["bed","keys"] (top 16) 0 3 A=R:=by left
noncomputable instance k4:CC.CS bO (CC.so eK):=by delta eK;infer_instance
def e4:CC.Wk bO (CC.so eK) iZ ["bed","keys","chord"] ["bed","keys"] (top 17) 0 4 A=R:=by left
noncomputable instance k5:CC.CS bO (CC.so gG):=by delta gG;infer_instance
def e5:CC.Wk bO (CC.so gG) iZ ["_law_script","_law_k"] ["_law_script","_law_k"] (top 24) 0 5 A=R:=by left
noncomputable instance k6:CC.CS bO (CC.so dW):=by delta dW;infer_instance
def e6:CC.Wk bO (CC.so dW) iZ ["_law_cell_here","_law_salt","_law_many","_law_turn","_law_number"] ["_law_cell_here","_law_salt","_law_many"] (top 25) 0 6 A=R:=by left
noncomputable instance k7:CC.CS bO (CC.so eX):=by delta eX;infer_instance
def e7:CC.Wk bO (CC.so eX) iZ ["_law_cell_here","_law_salt"] ["_law_cell_here","_law_salt"] (top 26) 1 7 A=R:=by left
noncomputable instance k8:CC.CS bO (CC.so cI):=by delta cI;infer_instance
def e8:CC.Wk bO (CC.so cI) iZ ["_law_cell_here","_law_layer","_law_many","_law_way","_law_level"] ["_law_cell_here","_law_layer","_law_many"] (top 27) 2 8 A=R:=by left
noncomputable instance k9:CC.CS bO (CC.so cY):=by delta cY;infer_instance
def e9:CC.Wk bO (CC.so cY) iZ ["_law_cell_here","_law_keys_here","_law_first","_law_found","_law_mask","_law_some","_law_good"] ["_law_cell_here","_law_keys_here","_law_first"] (top 28) 1 9 A=R:=by left
noncomputable instance k10:CC.CS bO (CC.so eP):=by delta eP;infer_instance
def TB:CC.Wk bO (CC.so eP) iZ ["_law_script","_law_at","_law_keys_here","_law_cell_here","_law_many","_law_layers","_law_layer","_law_cells","_law_chords_here"] ["_law_script","_law_at","_law_keys_here"] (top 29) 3 10 A=R:=by left
noncomputable instance k11:CC.CS bO (CC.so gL):=by delta gL;infer_instance
def T3:CC.Wk bO (CC.so gL) iZ ["_law_script"] ["_law_script"] (top 30) 1 11 A=R:=by left
noncomputable instance k12:CC.CS bO (CC.so eU):=by delta eU;infer_instance
def Uk:CC.Wk bO (CC.so eU) iZ ["_law_bed_here","_law_found","_law_word","_law_key"] ["_law_bed_here"] (top 31) 0 12 A=R:=by left
noncomputable instance k13:CC.CS bO (CC.so fF):=by delta fF;infer_instance
def T0:CC.Wk bO (CC.so fF) iZ ["bed","downs","ups"] ["bed"] (top 19) 0 13 A=R:=by left
noncomputable instance k14:CC.CS bO (CC.WN dL):=by delta dL;infer_instance
def TD:CC.Wk bO (CC.WN dL) iZ ["self","bed","standing"] ["self","bed","standing"] (aM (top 14) 0) 2 14 A=R:=by left
noncomputable instance k15:CC.CS bO (CC.WN eZ):=by delta eZ;infer_instance
def Tv:CC.Wk bO (CC.WN eZ) iZ ["self"] ["self"] (aM (top 14) 1) 2 15 A=R:=by left
noncomputable instance k16:CC.CS bO (CC.WN c7):=by delta c7;infer_instance
def Ul:CC.Wk bO (CC.WN c7) iZ ["self","key"] ["self","key"] (aM (top 14) 2) 2 16 A=R:=by left
noncomputable instance k17:CC.CS bO (CC.WN ez):=by delta ez;infer_instance
def Ty:CC.Wk bO (CC.WN ez) iZ ["self","act"] ["self","act"] (aM (top 14) 13) 2 17 A=R:=by left
noncomputable instance k18:CC.CS bO (CC.WN gF):=by delta gF;infer_instance
def TV:CC.Wk bO (CC.WN gF) iZ ["self","key","act"] ["self","key","act"] (aM (top 14) 11) 3 18 A=R:=by left
noncomputable instance k19:CC.CS bO (CC.WN jM):=by delta jM;infer_instance
def TR:CC.Wk bO (CC.WN jM) iZ ["self","key","act"] ["self","key"] (aM (top 14) 12) 3 19 A=R:=by left
noncomputable instance k20:CC.CS bO (CC.WN eW):=by delta eW;infer_instance
def T7:CC.Wk bO (CC.WN eW) iZ ["self","keys","what","acts","key","act"] ["self"] (aM (top 14) 10) 4 20 A=R:=by left
noncomputable instance k21:CC.CS bO (CC.WN cQ):=by delta cQ;infer_instance
def T9:CC.Wk bO (CC.WN cQ) iZ ["self","key"] ["self","key"] (aM (top 14) 4) 3 21 A=R:=by left
noncomputable instance k22:CC.CS bO (CC.WN cF):=by delta cF;infer_instance
def TJ:CC.Wk bO (CC.WN cF) iZ ["self","key","keys"] ["self","key"] (aM (top 14) 5) 5 22 A=R:=by left
noncomputable instance k23:CC.CS bO (CC.WN fU):=by delta fU;infer_instance
def T4:CC.Wk bO (CC.WN fU) iZ ["self","key","layer","meaning","word"] ["self","key"] (aM (top 14) 6) 4 23 A=R:=by left
noncomputable instance k24:CC.CS bO (CC.WN gf):=by delta gf;infer_instance
def Tz:CC.Wk bO (CC.WN gf) iZ ["self","key"] ["self","key"] (aM (top 14) 3) 6 24 A=R:=by left
noncomputable instance k25:CC.CS bO (CC.WN eY):=by delta eY;infer_instance
def Ud:CC.Wk bO (CC.WN eY) iZ ["self","key","what"] ["self","key"] (aM (top 14) 8) 5 25 A=R:=by left
noncomputable instance k26:CC.CS bO (CC.WN gD):=by delta gD;infer_instance
def T8:CC.Wk bO (CC.WN gD) iZ ["self","key"] ["self","key"] (aM (top 14) 7) 6 26 A=R:=by left
noncomputable instance k27:CC.CS bO (CC.WN ei):=by delta ei;infer_instance
def Tx:CC.Wk bO (CC.WN ei) iZ ["self","age"] ["self"] (aM (top 14) 9) 5 27 A=R:=by left
noncomputable instance k28:CC.CS bO (CC.WN STP.uq):=by delta STP.uq;infer_instance
def Ua:CC.Wk bO (CC.WN STP.uq) iZ ["bed","standing","event","hand"] ["bed","standing","event"] (top 13) 7 28 A=R:=by left
noncomputable instance k29:CC.CS bO (CC.WN bL):=by delta bL;infer_instance
def TF:CC.Wk bO (CC.WN bL) iZ ["self","place","back","event"] ["self","place","back","event"] (aM (top 22) 1) 2 29 R=R:=by left
noncomputable instance k30:CC.CS bO (CC.WN bz):=by delta bz;infer_instance
def TL:CC.Wk bO (CC.WN bz) iZ ["self","first","most"] ["self","first","most"] (aM (top 22) 0) 3 30 R=R:=by left
noncomputable instance k31:CC.CS bO (CC.WN jo):=by delta jo;infer_instance
def TQ:CC.Wk bO (CC.WN jo) iZ ["bed","most","events","places","steps","sends","room","standing","answers"] ["bed","most"] (top 21) 8 31 R=R:=by left
noncomputable instance k32:CC.CS bO (CC.WN kX):=by delta kX;infer_instance
def Tg:CC.Wk bO (CC.WN kX) iZ ["bed","most"] ["bed","most"] (top 20) 9 32 R=R:=by left
noncomputable instance k34:CC.CS bO (CC.WN d7):=by delta d7;infer_instance
def T6:CC.Wk bO (CC.WN d7) iZ ["_law_bed_here","_law_cap","_law_found","_law_known","_law_at","_law_event","_law_behind"] ["_law_bed_here","_law_cap"] (top 32) 8 34 A=R:=by left
noncomputable instance k36:CC.CS bO (CC.WN u9):=by delta u9;infer_instance
def Qj:CC.Wk bO (CC.WN u9) iZ ["_law_script","_law_bed_here","_law_events_here","_law_due","_law_found"] ["_law_script"] (top 35) 12 36 A=R:=by left
end K41
namespace L2
open PySem PySem.Spec PyProof.Rows
section
variable{Z:St}{H:Hp}{Q:VK}{D:Ends}
theorem JU{K:lD}{c b:TE}{f:Str}(h:b Z H λy H1=>c Z H1 λx e=>∃a C d fs,x=.ref a/\e a=S (.ins C d fs)/\Cls K C/\Yf K C f/\fs.length<1000/\D.nx Z (aW e a (.ins C d (gX f y fs)))):MR K c b f D Z H:=h
theorem PB{c:TT}{t u:TE}(h:c Z H λb H1=>if b=R then t Z H1 Q else u Z H1 Q):Sf c t u Z H Q:=h
theorem NC{K:lD}{b:TE}{f:Str}(h:b Z H λx H1=>∃a C c fs v,x=.ref a/\H1 a=S (.ins C c fs)/\Cls K C/\Yf K C f/\fs.lookup f=S v/\Q v H1):Oi K b f Z H Q:=h
theorem Ja{C:M}{m:Str}{sp:Sp}{E:XK}{b:TE}{t:TA}(h:b Z H λx H1=>∃a d fs,x=.ref a/\H1 a=S (.ins C d fs)/\fs.lookup m=P/\t Z H1 λc e=>sp (x::(c++[])) e Q E):rQ C m sp [] E b t Z H Q:=h
theorem Kf{C:M}{sp:Sp}{E:XK}{t:TA}(h:t Z H λb H1=>∀x a,H1 x=P->H1 a=P->a≠x->sp (.ref x::(b++[])) (aW (aW H1 a (.own x)) x (.ins C a [])) (λv c=>v=.Wu/\Q (.ref x) c) E):wG C sp [] E t Z H Q:=h
end
end L2
local macro_rules| `(tactic|ext:1)=> `(tactic|repeat (first
 |specialize L2.MN ?_
 |specialize L2.Oo ?_
 |specialize L2.JU ?_
 |specialize L2.PB ?_
 |specialize L2.NC ?_
 |specialize L2.Ja ?_
 |specialize L2.Kf ?_
 |specialize L2.IE ?_
 |((with_reducible show L2.oK _ _ _ _);refine⟨_,rfl,?_⟩)
 |specialize L2.ST ?_
 |specialize L2.RE ?_
 |specialize L2.akq ?_
 |specialize L2.ak1 ?_
 |specialize L2.amH ?_
 |((specialize L2.aoz ?_ ?_);first|exact⟨by decide,by decide⟩|exact⟨by decide,by decide,by decide⟩|exact(show(0:Int)<_ by decide)|exact⟨by decide,by left⟩)
 |((specialize L2.Qy ?_ ?_);exact rfl)
 |((specialize L2.akf ?_ ?_);exact rfl)
 |specialize L2.Pc ?_
 |specialize L2.KJ ?_
 |specialize L2.NG ?_
 |specialize L2.Iq ?_
 |specialize L2.agR ?_
 |specialize L2.ahZ ?_
 |specialize L2.ahX ?_
 |specialize L2.SR ?_
 |specialize L2.Rv ?_
 |specialize L2.aiA ?_
 |specialize L2.Qi ?_
 |specialize L2.Pr ?_
 |specialize L2.JR ?_
 |specialize L2.ajt ?_
 |specialize L2.HA ?_
 |specialize L2.No ?_
 |specialize L2.IM ?_
 |specialize L2.Qg ?_
 |specialize L2.Io ?_
 |specialize L2.Oj ?_
 |specialize L2.xA ?_
 |specialize L2.akh ?_
 |specialize L2.aks ?_
 |specialize L2.afJ ?_
 |specialize L2.ahI ?_
 |specialize L2.ajZ ?_
 |specialize L2.agl ?_
 |specialize L2.af7 ?_
 |specialize L2.ahj ?_
 |specialize L2.ahL ?_
 |specialize L2.aiN ?_
 |specialize L2.ahS ?_
 |specialize L2.ahs ?_
 |specialize L2.agh ?_
 |specialize L2.ah1 ?_
 |specialize L2.agQ ?_
 |specialize L2.ahB ?_
 |specialize L2.ahe ?_))
namespace K41
open PySem L2
theorem Qz{n:Nat}(h:n<=10000):n<UD:=Zp h (by left)
theorem Ny{n:Nat}(h:n<=10000):n<=UD:=X5 (Qz h)
section
variable{P:UR}{w:Va}{K:lD}{Y:Str->b4 CL}{base:Heap}{f:Uu}{X:Vv}
def Cgt(CR:M)(H:Hp)(e:M):Prop:=∃a,H e=S (.frz a (.own e))/\a.cls=.ref CR/\(∀p,a.dict=S p->∃fs,H p=S (.xd fs))/\YK a=R
def Cgt.same{CR:M}{H H':Hp}{e:M}(h:Cgt CR H e)(s:VZ H H'):Cgt CR H' e:=by let(a,l,j,i,g):=h;show⟨a,s _ _ l,j,λp b=>let⟨fs,z⟩:=i p b;⟨fs,s _ _ z⟩,g⟩
def BH{K:lD}{CR C:M}{m:G U}{H:Hp}{e:M}{b:Bool}{Q:VK}(h:Cgt CR H e)(L:L4.YL K CR m)(k:Vr K (.ref CR) (.ref C)=S b)(q:Q (.bl b) H):L4.DC K [.ref e,.ref C] H Q:=by let(a,l,j,i,g):=h;show⟨_,.inl ⟨C,W,e,a,CR,m,b,W,l,j,i,g,L,k,q⟩⟩
def MU{K:lD}{CR:M}{n:String}{m:G U}{H:Hp}{e:M}{b:Bool}{Q:VK}(h:Cgt CR H e)(L:L4.YL K CR m)(k:Vr K (.ref CR) (.type n)=S b)(q:Q (.bl b) H):L4.DC K [.ref e,.ty n] H Q:=by let(a,l,j,i,g):=h;show⟨_,.inr ⟨n,W,e,a,CR,m,b,W,l,j,i,g,L,k,q⟩⟩
def Co{K:lD}(C:M):Vr K (.ref C) (.ref C)=S R:=by ext Vr;rw[ax (beq_iff_eq.mpr W)]
def tV{K:lD}{CR C:M}(b:VY K (.ref CR) (.ref CR)=S R)(h:XO K C=R)(g:Wz K (.ref C)=S (.type "type"))(a:VY K (.ref CR) (.ref C)=S A):Vr K (.ref CR) (.ref C)=S A:=by
 let ne:(CL.ref CR==CL.ref C)=A:=by
  cases e:(CL.ref CR==CL.ref C)with
  |false=>rfl
  |true=>obtain rfl:=CL.ref.inj (beq_iff_eq.mp e);rw[b]at a;ext a
 ext Vr;rw[ne,a4 UH];show(if((Y2 K C).isSome&&Wz K (.ref C)==S (.type "type"))=R then VY K (.ref CR) (.ref C)else Uo)=_;rw[show(Y2 K C).isSome=R from h,g,ax (by rw[XJ];show beq_iff_eq.mpr W)];show a
def N6{K:lD}{CR:M}(h:VY K (.ref CR) (.type "ValueError")=S R):Vr K (.ref CR) (.type "ValueError")=S R:=by ext Vr;rw[a4 (by intro z;cases beq_iff_eq.mp z)];show(if PySem.W.kitMeta "ValueError"=R then VY K (.ref CR) (.type "ValueError")else Uo)=_;rw[ax (by left)];show h
end
section
open L3 L4
variable{P:UR}{w:Va}{K:lD}{mg:Str->b4 CL}{base:Heap}{f:Uu}{fd:Vv}
theorem jU:Wy ["self","most"] ["self","most"] (au (aM (top 5) 0)):=⟨W,W,W,by left,W,by left,by left⟩
def Bj{C B fI:M}(F:Zo K "__init__" "TooMany.__init__" (aM (top 5) 0) f fd)(o:L9.XC K C B fI)(l:mg "BedError"=S (.ref B))(g:ZI K B (.type "type")=R)(m:ZJ K (.ref B) (.type "type") "__init__"=S (.val (.builtin "ValueError.__init__")))
  (b:Xh K (.ref B) "__getattribute__"=S (S (.builtin "type.__getattribute__"))) (j:U7 K (.ref C) "most"=S Uo):FnOk P w K mg base jD 1 f fd ["self","most"] (L9.sP C "most"):=by
 show F.ok jU (λI H Q E h=>?_) (λu A a s H I Q E t h=>?_)
 .let(_,_,rfl,_):=h;rfl
 let(e,v,rfl,r,n,q):=h;show⟨_,(jh (Av (L9.EA W l g m b o (aY (pv 0) (aY (L9.JK (L9.NY () (L9.Po (pv 1) L9.Oq)) ()) dr)))) (jP (L9.Kt o j (pv 0) (pv 1) W))),?_⟩;ext:1;show⟨V.ref e,W,v,W,r,λy=>⟨e,y,W,n,?_⟩⟩;show⟨v,W,V.ref e,W,e,W,n,λp j i=>q p j i⟩
def OQ(C:M):Sp:=λb H Q _=>∃(e:M) (m:Int) (a:Obj) (p:M) (fs:G (Str×V)),b=[.ref e,.int m]/\H e=S (.frz a (.own e))/\a.cls=.ref C/\a.dict=S p/\YK a=R/\H p=S (.xd fs)/\fs.lookup ("most":Str)=S (.int m)/\∀H',VZ H H'->Q (.bl R) H'
theorem ma:Wy ["_law_e","_law_most"] ["_law_e","_law_most"] (au (top 33)):=⟨W,W,W,by left,W,by left,by left⟩
def xW{C i j b g:Uu}{mR:b3 CL}(F:Zo K "_law_too_many" "_law_too_many" (top 33) f fd)(L:L4.YL K C mR)(YW:mg "TooMany"=cL (.ref C))(S:mg "NoBed"=cL (.ref i))(D:mg "NoChord"=cL (.ref j))(Z0:mg "NoKeys"=cL (.ref b))(T:mg "NoRow"=cL (.ref g))(U:Vr K (.ref C) (.ref i)=cL Ut)(x:Vr K (.ref C) (.ref j)=cL Ut)(Z1:Vr K (.ref C) (.ref b)=cL Ut)(Y:Vr K (.ref C) (.ref g)=cL Ut)(kV:Vr K (.ref C) (.type "ValueError")=cL Uq)(k:WT K C=Uq)(c:U7 K (.ref C) "most"=cL Uo)(o:mg "isinstance"=Uo)(X:mg "ValueError"=Uo)(O:mg "int"=Uo)(R:mg "bool"=Uo):
  FnOk P w K mg base jD 1 f fd ["_law_e","_law_most"] (OQ C):=by
 show F.ok ma (λvs H Q E h=>?_) (λWj A y s H vs Q E hr h=>?_)
 .let(_,_,_,_,_,rfl,_):=h;rfl
 let(e,m,B,p,fs,rfl,J,N,M,hn,G,hl,q):=h;let cg:Cgt C H e:=⟨B,J,N,λp' a=>by rw[M]at a;ext a;show⟨fs,G⟩,hn⟩;show⟨_,(jh (Lb (PW.pt (zb (yl (uK (g9 L4.wq W o cR (aY (pv 0) (aY (jK (v:=.ref C) W YW W) dr))))) (zb (yl (uK (g9 L4.wq W o cR (aY (pv 0) (aY (lJ (v:=.ty "ValueError") W X (show Vl "ValueError"=cL (.type "ValueError")from rfl) W) dr))))) (yQ (uK (g9 L4.Be W o cR (aY (pv 0) (aY (Ds (aY (jK (v:=.ref i) W S W) (aY (jK (v:=.ref j) W D W) (aY (jK (v:=.ref b) W Z0 W) (aY (jK (v:=.ref g) W T W) dr))))) dr)))))))) (jP (tX LN)) uo)
  (jP (tX (pc (g9 v3 W o cR (aY (L9.tP (pv 0) W) (aY (lJ (v:=.ty "int") W O Qh W) dr))) (pc (Pe (g9 v3 W o cR (aY (L9.tP (pv 0) W) (aY (lJ (v:=.ty "bool") W R Nc W) dr)))) (yd (uU QB (L9.tP (pv 0) W) (pv 1) (Cg _)))))))),?_⟩
 ext:1;show BH cg L (Co C) ?_;ext:1;rw[a4 ()];ext:1;show MU cg L kV ?_;ext:1;rw[a4 ()];ext:1;show⟨Ny (Uy W),λtp I=>?_⟩;let l:VZ H (aW H tp (.tup [.ref i,.ref j,.ref b,.ref g])):=bj I _;let et:(aW H tp (.tup [.ref i,.ref j,.ref b,.ref g])) tp=cL (.tup ([i,j,b,g].map V.ref)):=av;generalize aW H tp (.tup [.ref i,.ref j,.ref b,.ref g])=H1 at l et;ext:1;let kA:ZW K (.ref C) ([i,j,b,g].map CL.ref)=cL Ut:=by show ZW K (.ref C) [.ref i,.ref j,.ref b,.ref g]=_;simp only[ZW];rw[U,x,Z1,Y]
 show⟨e,tp,[i,j,b,g],B,C,mR,Ut,W,et,l _ _ J,N,λp' a=>by rw[M]at a;ext a;show⟨fs,l _ _ G⟩,hn,L,kA,?_⟩;ext:1;rw[a4 ()];ext:1;let u:∀(t:L2.St) (r:Hp) (Z:VK),t[0]?=cL (cL (.ref e))->VZ H r->Z (.int m) r->L9.LQ K (oK 0) "most" t r Z:=λt r Z z s4 hq=>⟨V.ref e,z,e,B,C,mR,p,fs,.int m,W,s4 _ _ J,N,M,hn,L,k,c,s4 _ _ G,hl,hq⟩;show u _ _ _ W l ?_;ext:1;show⟨_,"int",_,Uq,W,.int m,nX (n:= "int") (d:=.int m) (by simp) W,Uq,W,?_⟩;rw[ax W];ext:1;show u _ _ _ W l ?_;ext:1;show⟨_,"bool",_,Ut,W,.int m,nX (n:= "bool") (d:=.int m) (by simp) W,?_⟩;ext:1;rw[ax ()];ext:1;show u _ _ _ W l ?_;ext:1;rw[a5 W];show q _ l
end
end K41
namespace K41
open PySem L2
section
variable{P:UR}{w:Va}{K:lD}{mg:Str->b4 CL}{base:Heap}{f:Uu}{fd:Vv}
theorem dI:Wy ["_law_bed_here","_law_most","_law_caught","_law_e"] ["_law_bed_here","_law_most"] (au (top 34)):=⟨W,W,W,by left,W,by left,by left⟩
def nw{C CB:Uu}{m d:b3 CL}(F:Zo K "_law_refused" "_law_refused" (top 34) f fd)(Y:oX P w K mg base 1 "_law_too_many" ["_law_e","_law_most"] (OQ C))
  (X:L3.wJ P w K mg base (L4.i7 P w) 10 "rooms" ["bed","most"] [] (L10.jW K 2 cS))
  (hB:mg "BedError"=cL (.ref CB)) (xB:L4.oV K CB d) (bB:d.contains (.type "BaseException")=Uq)
  (D:L4.oV K C m) (up:(CL.ref C::m).contains (.ref CB)=Uq) (nR:UU K UL "TooMany"=cL (cL (.ref C))):
  FnOk P w K mg base jD 12 f fd ["_law_bed_here","_law_most"] (L10.jW K 2 bv):=by
 show F.ok dI (λvs H Q E h=>h.1) (λWj A N s H vs Q E O h=>?_);let hu:=O.units;let(hl,B,α,ω,xs,so,hv,u):=h;obtain⟨b,g,n,rfl,G,S⟩:∃b g n,xs=[.fz b,.fz (.int g)]/\cS [.fz b,.fz (.int g)] ω=.er ⟨"TooMany",[("most",.int g)]⟩ n/\bv xs ω=.ok (.fz (.bool Uq)) n:=by
  let a:bv xs ω≠.bad:=λz=>by rw[z]at u;show u
  clear u;unfold bv at a⊢;split at a
  .rename_i b g
   show⟨b,g,?_⟩;cases G:cS [.fz b,.fz (.int g)] ω with
   |bad=>rw[G]at a;show bg W a
   |ok rv o=>rw[G]at a;show bg W a
   |er x o=>
    rw[G]at a;let(xc,xf):=x;dsimp only at a⊢;by_cases I:xc= "TooMany"
    .subst I
     rw[ax W]at a⊢;split at a
     .rename_i f k
      by_cases hf:f=("most":Str)/\k=g
      .let(rfl,rfl):=hf;show⟨o,W,W,ax ⟨W,W⟩⟩
      .rw[a4 hf]at a;show bg W a
     .show bg W a
    .rw[a4 I]at a;show bg W a
  .show bg W a
 rw[S]at u;obtain⟨L,J,rfl,U,T⟩:∃L J,vs=[L,J]/\L3.DV (L10.ow B α ω) K H L b/\L3.DV (L10.ow B α ω) K H J (.int g):=by
  cases hv with
  |cons U r0=>
   cases r0 with
   |cons T r1=>ext r1;show⟨_,_,W,U,T⟩
 ext T;show⟨_,(jh (ub (i:=2) dI.nd W (Or.inl W) xa)
  (jh (L4.Ko (i:=3) (E2:=λc dx q=>∃j,L10.Wc α ω H j n q/\L10.U6 B K q j n/\c=.ref C/\∃p fs,dx=cL p/\q p=cL (.xd fs)/\fs.lookup ("most":Str)=cL (.int g)) W dI.nd W W W hB xB bB W W
   (λl σ=>L4.w6 W X W W W W W O (aY (pv 0) (aY (pv 1) dr)))
   (λl e=>jP (ub (i:=2) dI.nd W (Or.inl W) (pv 3)))
   (λc dx q h=>let⟨_,_,_,h,_⟩:=h;⟨C,m,h,D,up⟩))
  (jP (tX (pc (uU zT (pv 2) xa (Cg _)) (yd (pd Y O (aY (pv 2) (aY (pv 1) dr))))))))),?_⟩
 ext:1;ext L4.Mb;show⟨?_,λc dx q S e y he I hd hn=>?_⟩
 .ext:1
  show⟨W,B,α,ω,[.fz b,.fz (.int g)],so,.cons U (.cons (.int g) .nil),?_⟩;rw[G];rintro c dx j H' t r ⟨⟨a',e1,e2⟩,fs,g2,g3⟩;let(nn,v,k1,k2):=g3 "most" (.int g) W;let e3:=nR.symm.trans e2;ext e3;ext k2;cases dx with
  |none=>show bg W nn
  |some p=>show⟨j,t,r,e1,p,fs,W,g2 p W,k1⟩
 .let(j,t,r,rfl,p,fs,rfl,hx,R):=S
  let M:VZ q (aW q e (.frz y (.own e))):=bj he _;let eE:(aW q e (.frz y (.own e))) e=cL (.frz y (.own e)):=av;generalize aW q e (.frz y (.own e))=H2 at M eE;ext:1;show⟨W,Uq,?_,?_⟩
  .show V.bl (!decide (V.ref e=V.Wu))=V.bl Uq;rw[a6 (λz=>nomatch z)];rfl
  rw[ax W];ext:1;show⟨e,g,y,p,fs,W,eE,I,hd,hn,M _ _ hx,R,λH3 s3=>?_⟩;let Z:=M.trans s3;show u j H3 (t.trans (L10.Wc.same Z)) (r.grow Z) (.bl Uq) (.bl Uq)
end
end K41
theorem SE{α:Type}:∀{l:G α},l.length=1->∃a,l=[a]
 |[a],_=>⟨a,W⟩
theorem So{α:Type}:∀{l:G α},l.length=2->∃a b,l=[a,b]
 |[a,b],_=>⟨a,b,W⟩
theorem Tt{α:Type}:∀{l:G α},l.length=3->∃a b c,l=[a,b,c]
 |[a,b,c],_=>⟨a,b,c,W⟩
theorem TC{α:Type}:∀{l:G α},l.length=4->∃a b c d,l=[a,b,c,d]
 |[a,b,c,d],_=>⟨a,b,c,d,W⟩
local macro_rules| `(tactic|ext:3)=> `(tactic|(intro _ _ _ _ _ _ us hl;first|(obtain⟨_,h⟩:=SE hl;subst h;kernel_rfl)|(obtain⟨_,_,h⟩:=So hl;subst h;kernel_rfl)|(obtain⟨_,_,_,h⟩:=Tt hl;subst h;kernel_rfl)|(obtain⟨_,_,_,_,h⟩:=TC hl;subst h;kernel_rfl)|(match us,hl with|[_,_,_,_,_],_=>rfl)|(match us,hl with|[_,_,_,_,_,_],_=>rfl)|(match us,hl with|[],_=>rfl)))| `(tactic|ext:8)=> `(tactic|(intro _ _ _ _ _ _ us hl;first|((have h1:us.length=1:=by simpa using hl);obtain⟨_,h⟩:=SE h1;subst h;exact⟨_,rfl,rfl⟩)|((have h1:us.length=2:=by simpa using hl);obtain⟨_,_,h⟩:=So h1;subst h;exact⟨_,rfl,rfl⟩)|((have h1:us.length=3:=by simpa using hl);obtain⟨_,_,_,h⟩:=Tt h1;subst h;exact⟨_,rfl,rfl⟩)|((have h1:us.length=4:=by simpa using hl);(match us,h1 with|[_,_,_,_],_=>exact⟨_,rfl,rfl⟩))))| `(tactic|ext:6)=> `(tactic|first|exact List.forall_mem_nil _|(refine List.forall_mem_cons.mpr ⟨?_,?_⟩;(·first|(show U7 _ _ _=_;k_is)|(show UU _ _ _=_;k_is));ext:6))| `(tactic|ext:9)=> `(tactic|first|(refine' L3.NI.mk ?a' ⟨_,L2.GG ?b' ?c' ?d'⟩;(case a'=>k_is);(case b'=>k_is);(case c'=>k_is);(case d'=>k_is))|(refine' L3.MI.mk ?a' ?e' ⟨_,L2.GG ?b' ?c' ?d'⟩;(case a'=>k_is);(case e'=>k_is);(case b'=>k_is);(case c'=>k_is);(case d'=>k_is))|(refine' L3.CI.mk ?a' ?b' ?c' ?d' ?e' ?f' ?g' ?i';(case a'=>k_is);(case b'=>k_is);(case c'=>k_is);(case d'=>k_is);(case e'=>k_is);(case f'=>k_is);(case g'=>k_is);(case i'=>ext:6))|(refine' L3.DI.mk ?a' ⟨_,L3.G7 ?b' ?c' ?d' ?e'⟩;(case a'=>k_is);(case b'=>k_is);(case c'=>k_is);(case d'=>k_is);(case e'=>k_is))|k_is|k_exc|rfl|ext:6|left|(rw[<-Array.all_toList];rfl))
namespace K41
open PySem L2 L3 CC
def F_lawH:FN:=L10.QJ F_law
def all_mk{l:acw}{w:Va}{K:lD}{h:Heap}{c:Str->b4 CL}{fa:Uu}
  {acP:Tok}
  {F:Uu} {adL:Nat} {ad7:Array (b4 CL)}
  {ack:Tok}
  {V:Uu} {ac7:Nat} {acT:Array (b4 CL)}
  {YM:Uu} {aaB:Nat} {aaA:Array (b4 CL)}
  {aaq:Uu} {abV:Nat} {abQ:Array (b4 CL)}
  {adZ:Uu} {Z3:Tok}
  {f0 f1 f2 f3 f4 f5 f6 f7 f8 f9 f10 f11 f12 f13 f14 f15 f16 f17 f18 f19 f f21 f22 f23 f24 f25 f26 f27 f28 f29 f30 f31 f32 f33 f34 q f36 f37 p:Uu}
  {WK VX Wi WL g j:Uu} {mB:b3 CL}
  {nmR qR:Str} {NR:Uu} {bsR:b3 CL} {snR:b3 Str} {ajL:b3 CL} {abR:Bool} {ajf:b4 Bool} {ddR:b4 Uu} {k0R k1R k2R k3R k5R:b4 CL}
  {nmB qB:Str} {NB:Uu} {bsB:b3 CL} {hdB:Bool} {snB:b3 Str} {r:b3 CL} {abB:Bool} {aiq:b4 Bool} {ddB:b4 Uu} {k0B k1B k2B k3B k5B:b4 CL} {idB:String}
  {ocN:CL} {odN:b4 Uu} {D:Array Xy} {nN:Nat} {slN:Array (b4 CL)} (X:K.In h) (G:h.Ns UL c) (hfa:c "law"=cL (.ref fa))
  (h0:NI K f0 "layer_of" (top 12))
  (h1:NI K f1 "looked_up" (top 15))
  (h2:NI K f2 "chords_over" (top 16))
  (h3:NI K f3 "chord_acts" (top 17))
  (h4:NI K f4 "_law_cell" (top 24))
  (h5:NI K f5 "_law_take" (top 25))
  (h6:NI K f6 "_law_letter" (top 26))
  (h7:NI K f7 "_law_meaning" (top 27))
  (h8:NI K f8 "_law_chords" (top 28))
  (h9:NI K f9 "_law_bed" (top 29))
  (h10:NI K f10 "_law_keys" (top 30))
  (h11:NI K f11 "_law_events" (top 31))
  (h12:NI K f12 "events_of" (top 19))
  (h13:NI K f13 "step" (top 13))
  (h14:NI K f14 "walked" (top 21))
  (k:DI K f15 adZ "rooms" (top 20) #v[.int 400 Z3])
  (h16:NI K f16 "_law_rooms" (top 32))
  (h17:NI K f17 "_law_refused" (top 34))
  (h18:NI K f18 "_law_too_many" (top 33))
  (h19:NI K f19 "law" (top 35))
  (b:CI K f "Hand" ["bed","acts","waiting","once","sent"])
  (h21:MI K f f21 "__init__" "Hand.__init__" (aM (top 14) 0))
  (h22:MI K f f22 "stands" "Hand.stands" (aM (top 14) 1))
  (h23:MI K f f23 "is_waiting" "Hand.is_waiting" (aM (top 14) 2))
  (h24:MI K f f24 "has_act" "Hand.has_act" (aM (top 14) 13))
  (h25:MI K f f25 "come" "Hand.come" (aM (top 14) 11))
  (h26:MI K f f26 "go" "Hand.go" (aM (top 14) 12))
  (h27:MI K f f27 "decide" "Hand.decide" (aM (top 14) 10))
  (h28:MI K f f28 "makes_chord" "Hand.makes_chord" (aM (top 14) 4))
  (h29:MI K f f29 "put_to_chord" "Hand.put_to_chord" (aM (top 14) 5))
  (h30:MI K f f30 "begin" "Hand.begin" (aM (top 14) 6))
  (h31:MI K f f31 "press" "Hand.press" (aM (top 14) 3))
  (h32:MI K f f32 "settle" "Hand.settle" (aM (top 14) 8))
  (h33:MI K f f33 "lift" "Hand.lift" (aM (top 14) 7))
  (h34:MI K f f34 "wait_on" "Hand.wait_on" (aM (top 14) 9))
  (o:CI K q "Places" ["most","found","numbers"])
  (h36:MI K q f36 "enter" "Places.enter" (aM (top 22) 1))
  (h37:MI K q f37 "__init__" "Places.__init__" (aM (top 22) 0))
  (acW:UU K UL "NoBed"=cL (cL (.ref WK)))
  (abA:UU K UL "NoChord"=cL (cL (.ref VX)))
  (ace:UU K UL "NoKeys"=cL (cL (.ref Wi)))
  (ac3:UU K UL "NoRow"=cL (cL (.ref WL)))
  (Y9:UU K UL "TooMany"=cL (cL (.ref g)))
  (abf:UU K UL "BedError"=cL (cL (.ref j)))
  (xR:K.lookup g=cL (excClassObj nmR qR g NR bsR (.ref j::[.type "ValueError",.type "Exception",.type "BaseException",.type "object"]) Uq snR ajL abR ajf ddR k0R k1R k2R k3R k5R "ValueError.__new__"))
  (xB:K.lookup j=cL (excClassObj nmB qB j NB bsB mB hdB snB r abB aiq ddB k0B k1B k2B k3B k5B idB))
  (eI:XD K j [.type "ValueError",.type "Exception",.type "BaseException",.type "object"] "ValueError.__new__"=Uq)
  (beB:mB.contains (.type "BaseException")=Uq)
  (gaR:U7 K (.ref g) "__getattribute__"=cL (cL (.builtin "BaseException.__getattribute__")))
  (gtR:U7 K (.ref g) "__getattr__"=cL Uo)
  (csR:U7 K (.ref g) "__class__"=cL (cL (.builtin "object.__class__")))
  (obR:adn K g (.type "object")=cL Uq)
  (m:VY K (.ref g) (.ref g)=cL Uq)
  (suV:VY K (.ref g) (.type "ValueError")=cL Uq)
  (acJ:XO K WK=Uq)
  (acV:Wz K (.ref WK)=cL (.type "type"))
  (acL:VY K (.ref g) (.ref WK)=cL Ut)
  (abL:XO K VX=Uq)
  (abv:Wz K (.ref VX)=cL (.type "type"))
  (aby:VY K (.ref g) (.ref VX)=cL Ut)
  (aci:XO K Wi=Uq)
  (acs:Wz K (.ref Wi)=cL (.type "type"))
  (acf:VY K (.ref g) (.ref Wi)=cL Ut)
  (ac8:XO K WL=Uq)
  (acX:Wz K (.ref WL)=cL (.type "type"))
  (acY:VY K (.ref g) (.ref WL)=cL Ut)
  (lN:K.lookup NR=cL ⟨ocN,odN,.dict D nN,slN⟩)
  (Lp:(D.all λe=>match e.key with|.str _ _=>Uq|_=>Ut)=Uq)
  (inN:UU K NR "__init__"=cL (cL (.ref p)))
  (saR:U7 K (.ref g) "__setattr__"=cL (cL (.builtin "object.__setattr__")))
  (hdR:WT K g=Uq)
  (dz:U7 K (.ref g) "most"=cL Uo)
  (rdB:ZI K j (.type "type")=Uq)
  (fcB:ZJ K (.ref j) (.type "type") "__init__"=cL (.val (.builtin "ValueError.__init__")))
  (FV:Xh K (.ref j) "__getattribute__"=cL (cL (.builtin "type.__getattribute__")))
  (d:MI K g p "__init__" "TooMany.__init__" (aM (top 5) 0))
  (ad3:UU K UL "NONE"=cL (cL (.ref F)))
  (acU:UU K UL "CHORD"=cL (cL (.ref V)))
  (abS:UU K UL "AT_REST"=cL (cL (.ref aaq)))
  (abF:K.lookup aaq=cL ⟨.type "tuple",Uo,.seq #v[.ref YM,.none,.none] abV,abQ⟩)
  (aaI:K.lookup YM=cL ⟨.type "tuple",Uo,.seq #v[] aaB,aaA⟩)
  (adh:K.lookup V=cL ⟨.type "tuple",Uo,.seq #v[.str "chord" ack] ac7,acT⟩)
  (ad0:K.lookup F=cL ⟨.type "tuple",Uo,.seq #v[.str "none" acP] adL,ad7⟩)
  (yb:∀x∈iZ.bl,UU K UL x=cL Uo):
  ∃fd:Vv,(∀(s:Uw) (v:CL),Y4 s fd ⟨[v],[]⟩ [("_law_script",v)])/\∀base:Heap,K.In base->base.Ns UL c->FnOk l.prog w K c base jD 13 fa fd ["_law_script"] (L3.Bh K 1 F_lawH):=by
 let afb:=Jz (xs:=[.str "none"]) (ds:=[(.str "none")]) ad0 (by show 1<=UD;decide) (.cons ⟨_,rfl⟩ .nil) λO H=>(.cons (.str _) .nil);let ad6:=Jz (xs:=[.str "chord"]) (ds:=[(.str "chord")]) adh (by show 1<=UD;decide) (.cons ⟨_,rfl⟩ .nil) λO H=>(.cons (.str _) .nil);let aa2:=Jz (xs:=[]) (ds:=[]) aaI (by show 0<=UD;decide) .nil λO H=>.nil;let acq:=Jz (xs:=[.ref YM,.Wu,.Wu]) (ds:=[(.tuple []),.none,.none]) abF (by show 3<=UD;decide) (.cons rfl (.cons rfl (.cons rfl .nil))) λO H=>(.cons (aa2 O H) (.cons .Wu (.cons .Wu .nil)));show h19.law X G hfa (by ext:3) λbase fd aeK=>?_;let W:Tp l.prog w K c base h:=⟨X,G⟩;let Lp:ZU K NR=Uq:=by ext ZU;rw[lN];show Lp
 let XR:L4.oV K g (.ref j::[.type "ValueError",.type "Exception",.type "BaseException",.type "object"]):=⟨_,_,_,_,_,_,_,_,_,_,_,_,_,_,_,_,xR⟩;let XB:L4.oV K j mB:=⟨_,_,_,_,_,_,_,_,_,_,_,_,_,_,_,_,xB⟩;let LR:L4.YL K g (.ref j::[.type "ValueError",.type "Exception",.type "BaseException",.type "object"]):=⟨XR,rfl,gaR,gtR,csR,obR⟩;let Z2:L9.XC K g j p:=⟨⟨_,_,_,_,_,_,_,_,_,_,_,_,_,_,xR,Lp,inN⟩,eI,saR⟩;let aaz:=VJ X G acW;let Zv:=VJ X G abA;let Z0:=VJ X G ace;let aay:=VJ X G ac3;let YW:=VJ X G Y9;let Z4:=VJ X G abf;let aaM:=tV m acJ acV acL;let Zy:=tV m abL abv aby;let Z1:=tV m aci acs acf;let aaG:=tV m ac8 acX acY;let(fdI,zI):=d.F;let(_,_,_,_,_,_,_,_,_,rfl,abH,_):=zI.ex;let abE:=d.i;let abx:=Bj (P:=l.prog) (w:=w) (mg:=c) (base:=base) zI Z2 Z4 rdB fcB FV dz;let abO:=zI.binds (ps:=["self","most"]) (by ext:3);let a:abg K c iZ:=⟨λx hx=>PySem.W.mg_none_of X G (yb x hx),CC.exN,(CC.csC (CC.csW (VJ X G ad3) afb) (CC.csC (CC.csW (VJ X G acU) ad6) (CC.csC (CC.csW (VJ X G abS) acq) CC.csN))),(CC.clC b.cf (CC.clC o.cf CC.clN))⟩;let s0:=CC.fs0 (T:=bO) (P:=l.prog) (w:=w) (K:=K) (mg:=c) (base:=base);let ac5:oX l.prog w K c base 1 "_law_too_many" ["_law_e","_law_most"] (OQ g):=h18.c W λ_ z=>xW z LR YW aaz Zv Z0 aay aaM Zy Z1 aaG (N6 suV) hdR dz (a.bl "isinstance" (by left)) (a.bl "ValueError" (by left)) (a.bl "int" (by left)) (a.bl "bool" (by left));let s1:=CC.YD s0 rfl (⟨_,_,_,_,_,_,Z2,abH,abE,abx,abO,Y9,YW⟩);let s2:=CC.YD s1 rfl (h0.c W λ_ z=>CC.Zw a s1 z e1);let s3:=CC.YD s2 rfl (h1.c W λ_ z=>CC.Zw a s2 z e2);let s4:=CC.YD s3 rfl (h2.c W λ_ z=>CC.Zw a s3 z e3);let s5:=CC.YD s4 rfl (h3.c W λ_ z=>CC.Zw a s4 z e4);let s6:=CC.YD s5 rfl (h4.c W λ_ z=>CC.Zw a s5 z e5);let s7:=CC.YD s6 rfl (h5.c W λ_ z=>CC.Zw a s6 z e6);let s8:=CC.YD s7 rfl (h6.c W λ_ z=>CC.Zw a s7 z e7);let s9:=CC.YD s8 rfl (h7.c W λ_ z=>CC.Zw a s8 z e8);let s10:=CC.YD s9 rfl (h8.c W λ_ z=>CC.Zw a s9 z e9);let s11:=CC.YD s10 rfl (h9.c W λ_ z=>CC.Zw a s10 z TB);let s12:=CC.YD s11 rfl (h10.c W λ_ z=>CC.Zw a s11 z T3);let s13:=CC.YD s12 rfl (h11.c W λ_ z=>CC.Zw a s12 z Uk);let s14:=CC.YD s13 rfl (h12.c W λ_ z=>CC.Zw a s13 z T0);let i:=CC.YD s14 rfl (h21.k b W λ_ z=>CC.YQ a s14 z TD);let Z:=CC.YD i rfl (h22.mt b W λ_ z=>CC.YQ a i z Tv);let Y:=CC.YD Z rfl (h23.mt b W λ_ z=>CC.YQ a Z z Ul);let U:=CC.YD Y rfl (h24.mt b W λ_ z=>CC.YQ a Y z Ty);let S:=CC.YD U rfl (h25.mt b W λ_ z=>CC.YQ a U z TV);let R:=CC.YD S rfl (h26.mt b W λ_ z=>CC.YQ a S z TR);let Q:=CC.YD R rfl (h27.mt b W λ_ z=>CC.YQ a R z T7);let N:=CC.YD Q rfl (h28.mt b W λ_ z=>CC.YQ a Q z T9);let M:=CC.YD N rfl (h29.mt b W λ_ z=>CC.YQ a N z TJ);let L:=CC.YD M rfl (h30.mt b W λ_ z=>CC.YQ a M z T4);let J:=CC.YD L rfl (h31.mt b W λ_ z=>CC.YQ a L z Tz);let I:=CC.YD J rfl (h32.mt b W λ_ z=>CC.YQ a J z Ud);let E:=CC.YD I rfl (h33.mt b W λ_ z=>CC.YQ a I z T8);let C:=CC.YD E rfl (h34.mt b W λ_ z=>CC.YQ a E z Tx);let B:=CC.YD C rfl (h13.c W λ_ z=>CC.YQ a C z Ua);let A:=CC.YD B rfl (h36.mt o W λ_ z=>CC.afg a B z TF);let y:=CC.YD A rfl (h37.k o W λ_ z=>CC.afg a A z TL);let n:=CC.YD y rfl (h14.d W λ_ z=>CC.afg a y z TQ);let s33:=CC.YD n rfl (k.c (ds:=[.int 400 Z3]) W (.cons ⟨_,rfl⟩ .nil) λ_ z=>CC.aed a n z Tg);let u:=CC.YD s33 rfl (k.c (ds:=[]) W .nil λ_ z=>CC.aed a n z Tg);let t:=CC.YD u rfl (h16.c W λ_ z=>CC.YQ a u z T6);let s36:=CC.YD t rfl (h17.c W λ_ z=>nw z ac5 (t 33 _ () rfl) Z4 XB beB XR (by rw[Xg,Xg,eu,Xq,X1]) Y9);show(CC.YQ a s36 aeK Qj).imp λ_ _ _ _ h=>L10.ON h
end K41
local macro_rules|`(universe $i*)=>do
 let t:=fun (c:Lean.Name)=>`(theorem $(Lean.mkIdent ((`PySem.W.Fast).str ("tw"++toString c.hash))):ident:True:=trivial)
 let b:=`PySem.Challenge.cw_chordbed_k41_rooms_as_they_come_holds
 let o←(List.range 531).mapM fun n=>t (b.str ("o_"++toString n))
 let l←i.mapM fun j=>t (b++j.getId)
 return Lean.mkNullNode (((o.toArray++l).push (←t `PySem.Challenge.pw_chordbed_k41_rooms_as_they_come)))
universe heap_531 heap_39 tree_530 tree_471 view_39 tree_413 tree_292 tree_373 sts_472 sts_183 tree_182 sts_377 tree_151 tree_136 sts_414 tree_114 sts_152 tree_92 sts_71 tree_70 sts_93 sts_115 sts_49 heap_46 sts_137 tree_47 env_41
open PySem PySem.W PyProof.Rows
set_option maxRecDepth 100000 in
set_option maxHeartbeats 0 in
theorem PySem.Challenge.cw_chordbed_k41_rooms_as_they_come_holds : PySem.Challenge.rw_chordbed_k41_rooms_as_they_come.Holds := by
 w_on;o_law;k_head;(case hw=>w_witness2)
 k_fill
 refine L3.QA (l:=PySem.Challenge.rw_chordbed_k41_rooms_as_they_come) (n:=63) (k:=13) (x:= "_law_script") (F:=K41.F_lawH) rfl (by decide) rfl ⟨rfl,by decide,by decide⟩ (λw h Y=>PySem.W.kIn_of Y) ?F K41.main
 case F=>
  intro w e f h b G a
  apply K41.all_mk b G a
  all_goals ext:9
