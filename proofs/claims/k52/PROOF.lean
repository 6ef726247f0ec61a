import PyProof.Rows.All
import Wide.All
import OpenK.AllK
import Wide.FinOn
import Lean
import PyProof.EqAt
import PyProof.EqKinds
import PyProof.TupleCall
import KE.KIntText
import KE.KRevSl
import PyProof.Rows.SeqMore
import PyProof.WalkInts
import PyProof.Rows.MinMaxN
import PyProof.ExcInit
import OpenK.KMake
import PyProof.InstStoreFacts
import PyProof.FString2
import PyProof.Rows.FStr
import PyProof.Rows.SetFrom
import PyProof.SeqRoads2
import PyProof.RangeFor
import PyProof.WalksMore
import PyProof.StrBlock2
import PyProof.Rows.SortShell
import PyProof.TupleOfSeq
import KE.KDictList
import KE.KDictOf
import PyProof.IsiH_tuple
import PyProof.Rows.RuleN_abs
import PyProof.Rows.Range3
import KE.KRevIter
import PyProof.StrLawsRepr
import PyProof.ReprStr
import PyProof.IsiH_list
import PyProof.Rows.TupDisplay
import PyProof.SetKind
import PyProof.SetScanFacts
import PyProof.CollectIter
import PyProof.Rows.SortStr
import PySem.Challenge.RW_chordbed_k52_whole_none_is_shorter
set_option compiler.extract_closed false
set_option genSizeOf false
set_option genInjectivity false
set_option Elab.async false
set_option linter.all false
set_option maxRecDepth 100000
abbrev ax:=@if_pos
abbrev aE:=@if_neg
abbrev a4:=@decide_eq_true
abbrev a5:=@decide_eq_false
abbrev a6:=@of_decide_eq_true
abbrev a7:=@absurd
abbrev bb:=@List
abbrev bg:=@Option
abbrev b3:=@PySem.Heap.get?_push_of_some
abbrev b4:=@PySem.Heap.lt_size
abbrev cc:=@PySem.Heap.get?_push_size
abbrev ck:=@PySem.Heap.get?_update_other
abbrev cn:=@PySem.Heap.get?_update_self
abbrev cv:=@PySem.Heap.size_push
abbrev cw:=@PySem.Heap.get?_none_of_le
abbrev da:=@PySem.Obj.data_mapFields
abbrev dt:=@PySem.Obj.isFreed_of_fields
abbrev dN:=@Ne.symm
abbrev ef:=@congrArg
abbrev eg:=@beq_self_eq_true
open Lean in
def cvP:Nat→TSyntax `term→MacroM (TSyntax `rcasesPat)
 |0,_=>Macro.throwUnsupported
 |n+1,t=>let f:=fun (a:Array Term)=>do
   let l←(←a.mapM (cvP n)).mapM fun p=>`(Lean.Parser.Tactic.rcasesPatLo|$p:rcasesPat)
   `(rcasesPat|⟨$l,*⟩)
  match t with
  |`(⟨$a,*⟩)=>f a
  |`(($a,$b,*))=>f (#[a]++b.getElems)
  |`($i:ident)=>`(rcasesPat|$i:ident)
  |`(_)=>`(rcasesPat|_)
  |_=>Macro.throwUnsupported
local macro_rules|`(tactic|let $d:letDecl)=>`(tactic|have $d:letDecl)
local macro_rules|`(tactic|let $p:term:=$e)=>if p.raw.isIdent then Lean.Macro.throwUnsupported else do let q←cvP 99 p;`(tactic|obtain $q:rcasesPat:=$e)
local macro_rules|`(tactic|left)=>`(tactic|decide+kernel)|`(tactic|change $e)=>`(tactic|with_reducible exact $e)|`(tactic|specialize $e)=>`(tactic|with_reducible refine $e)
local macro_rules|`(def $i:declId $s:optDeclSig $v:declVal)=>if v.raw[1].isOfKind ``Lean.Parser.Term.byTactic then `(theorem $i:declId $(⟨Lean.mkNode ``Lean.Parser.Command.declSig #[s.raw[0],s.raw[1][0]]⟩):declSig $v:declVal) else `(noncomputable def $i:declId $s:optDeclSig $v:declVal)|`(abbrev $i:declId $s:optDeclSig $v:declVal)=>`(noncomputable abbrev $i:declId $s:optDeclSig $v:declVal)
local macro_rules|`(tactic|ext)=>`(tactic|decide)
local macro_rules|`(tactic|ext)=>`(tactic|omega)
local macro_rules|`(tactic|ext)=>`(tactic|lia)
local macro_rules|`(tactic|show $e)=>`(tactic|refine $e)
local macro_rules|`(tactic|ext $i:ident)=>`(tactic|cases $i:ident)
local macro_rules|`(tactic|ext $i:ident)=>`(tactic|unfold $i:ident)
local macro_rules|`(#[$a,*])=>`(⟨$a,*⟩)|`(#v[$a,*])=>`(List.toArray [$a,*])
local macro_rules|`(())=>`(by ext)
open Option renaming some->cL,none->Ld,bind_eq_some_iff->Vu,isSome_iff_exists->V9,isNone_iff_eq_none->Wt,isSome_map->X7,map_eq_some_iff->Yq,getD_some->ZA,isSome_some->abG,toList_none->abJ,getD_none->acg
open PySem.W renaming Frag->lD,nsIn->U8,findIn->Vt,emptyDict->V2,fnOf->V3,keepIn->Wa,instObj->Ws,mg_of->Wx,isFn->WH,specialIn->Xf,cellsFrom_some->Xg,plainGet->Xr,excIn->Xu,codeIn->XO,hasDictIn->X2,methodCall_KW->Ys,lookIn->Yx,tailIn->YC,plainGet_of->YS,callWith_K->Y2,methodObj->Zd,plainOver->Ze,takerIn->ZE,makesIn->ZF,readsIn->ZH,findCls->ZI,nsOkIn->ZW,pyHash_slot->aa1,tail_of_in->abf,handedIn->abT,OpenLaw->ach,typeIn->acu,clsIn->ac1
open PySem renaming wpAny_bind->CL,Value->Ut,Addr->Uz,PyData->UB,Shared->UC,wpAny_pure->UD,sizeLine->UK,starEach->UW,mainGlobals->UY,Program->UZ,NameKind->U0,Expr->U4,Around->Vb,World->Vf,wpAny_field->Vo,wpAny_newObj_type->Vw,bootBuiltins->VF,FuncData->VG,wpAny_holding->VW,wpAny_seqItems->VX,wpAny_callSpecial?_slot->V4,binaryOp->V8,compareOp->We,wpAny_call_entry->Wf,mem_of_lookup->Wi,Stmt->Wk,wpAny_truthy_bool->Wl,cellsFrom->Wu,sysModules->Wv,wpAny_Call_Name_kw->Ww,Scope->WA,sizeLine_eq->WB,wpAny_loadPart_at->WE,wpAny_standAt->WI,wpAny_setField->WN,wpAny_setField_rec->WT,wpAny_passesOwn->WZ,swapsWith->W0,plainId_quiet->W2,wpAny_letGo->W9,wpAny_typeOf->Xb,wpAny_pyIter_list->Xj,codeAny_builtin->Xp,wpAny_ite_split->Xq,DictEntry->Xt,ExcBaseFacts->XF,builtinLookup_eq_fast->XN,Comprehension->XW,codeAny_call_builtin->XZ,wpAny_execs_nil->X5,wpAny_isSubtype_exc->Yb,Keyword->Yu,IsPart->Yy,GenState->YR,wpAny_isInstance->YT,ItemsOf->YU,BindsTo->YZ,wpAny_call->Y0,codeAny_mono->Y1,call_meets->Y3,wpAny_rule->Y4,wpAny_specialOf->Za,typeLookup_type->Zb,wpAny_updateSeq->Zc,wpAny_pyIter_tuple->Zg,Result->Zr,ReadsAll->Zs,wpAny_updateSeq_pair->Zt,wpAny_tryCatch->Zu,wpAny_onRaise->ZO,typeIs_int->ZU,tupleKind_room_in1->ZV,wpAny_sequenceKey->Z7,ZipApart->Z8,wpAny_Call_ofName->Z9,eqIsQuiet_byValue->aaa,plainObj_wpAny_Assign_Attribute->aah,PassesOwn->aao,noFill_tuple_add->aaq,wpAny_of_eq->aaD,Within->aaK,pushCells_keeps->aaL,OsState->aa0,Operator->aba,Code->abb,Reads->abd,IsZip->abe,wpAny_binaryOp_repeat_ref->abH,seq_tuple_add->abU,evalPart_none->abV,wpAny_comprehension_free->abW,Drawn->acd,CmpOp->ace,concat_meets->acv,wpAny_Assign_Subscript->acx,wpAny_isTrue_Compare1->acZ,Model->adh,wpAny_loadName_local->adi,wpAny_loadName_cell->adK,wpAny_raiseNew_none->adN,wpAny_Name->ad2,wpAny_Constant_int->ad3,wpAny_load->ad5,wpAny_getItem_heap->ad6,wpAny_setItem_heap->ad7,wpAny_assign_Name->aeJ,Walks->aeK,slot_list_getitem->aeL,OwnTail->aeM,wpAny_pyHash_int->afe,wpAny_pyHash_str->aff,wpAny_execs_cons->afg,wpAny_lookBehind->afi,pastItsLine_dict->afj,call->afn,wpAny_pyIter_zip->afo,beq_builtin_none->afq,wpAny_Compare1->ahu,wpAny_loadPart->ahv,refuseLoop_ref->ahC,isSubtype_type->ahD,callType_codes->ahE,intBits_le_64->aju,call_list_seq->ajv,wpAny_attempt->ajw,wpAny_in_heap->ajx,strLen_append->ajy,wpAny_newList->ajz
open Bool renaming and_eq_true->Uu,true->Uv,false->Ux,false_ne_true->UQ,or_eq_true->VV,and_self->Wn,false_eq_true->WM,true_or->Xn,not_eq_true'->Xo,false_and->X0,false_or->Yl,true_and->Ym,and_true->Zh,or_true->ZC,noConfusion->ZQ,eq_iff_iff->Z5,or_false->aaC,not_true->aaF,or_eq_false_iff->abK,eq_false_iff->acz,and_false->adL,bne_false->adO
open List renaming getElem?_eq_some_iff->Uw,length_map->Uy,length_append->UE,replicate->UH,getElem?_eq_getElem->UI,getElem?_map->UJ,getElem?_append_left->UL,mem_cons_of_mem->UM,size_toArray->UN,length_cons->UO,mem_cons_self->UP,range->UR,mem_singleton->US,map_cons->UU,mem_of_getElem?->UX,mem_cons->U5,mem_map->U6,map_append->U9,getElem?_append_right->Va,append_assoc->Ve,mem_append->Vg,append_nil->Vh,find?_cons->Vl,map_map->Vn,mem_append_right->Vp,lookup_cons->Vr,isEmpty_iff->Vs,getElem?_set_ne->Vx,length_range->Vy,length_set->Vz,replicate_succ->VJ,getElem?_set->VN,getElem?_set_self->VP,length_replicate->VR,mem_iff_getElem?->VS,nodup_cons->VU,length_take->VY,all_eq_true->VZ,not_mem_nil->V0,pairwise_singleton->V1,mem_range->V5,length_nil->V7,mem_append_left->Wc,reverse_cons->Wg,mem_filter->Wh,lookup->Wy,flatten_cons->Wz,length_reverse->WC,getElem?_replicate->WG,length_singleton->WO,nodup_append->WW,map_nil->W4,filter_cons->W5,drop_eq_getElem_cons->W6,filterMap_cons->W8,drop_eq_nil_of_le->Xm,length_filter_le->Xw,length_drop->Xy,any_eq_true->Xz,take_length->XA,any_cons->XD,all_cons->XG,of_mem_zip->XJ,forIn_cons->XM,map_congr_left->XQ,mem_filterMap->X1,pairwise_cons->X3,pairwise_iff_getElem->Yc,length->Yd,take_add_one->Yf,pairwise_map->Yg,foldl->Yv,foldl_cons->Yz,nil_append->YB,contains_iff_mem->YL,forIn_nil->YX,nodup_nil->YY,contains_cons->Zo,map_inj_right->Zq,getElem_mem->ZN,cons_ne_nil->ZP,mem_of_find?_eq_some->aar,filterMap_cons_none->aaG,filterMap_cons_some->aaH,getElem?_cons_succ->aaM,getElem?_cons_zero->aaN,pairwise_lt_range->aa3,getElem?_eq_none->abh,mem_iff_getElem->abI,pairwise_append->abL,filterMap_map->acf,set_cons_zero->aci,set_cons_succ->acj,find?_eq_none->ack,getElem_range->acm,any_eq_false->acs,zipIdx_cons->ac0,cons_append->ac2,map_reverse->ac3,zipIdx_nil->adk,drop_zero->adM,Nodup->agp
open Nat renaming le_of_ble_eq_true->UA,le_refl->UG,lt_of_lt_of_le->U1,ne_of_lt->U3,le_trans->Vk,zero_le->Vq,ne_of_gt->VI,lt_irrefl->VT,lt_trans->Xs,lt_succ_self->XB,zero_add->XY,le_of_succ_le->Yj,lt_succ_of_lt->Yk,add_sub_cancel_left->Yt,le_of_lt->Yw,min_eq_left->YK,mul_le_mul->Y5,add_assoc->Zp,lt_of_le_of_ne->Zv,min_le_right->ZT,le_succ->Z4,not_lt_zero->aae,add_comm->abc,lt_of_le_of_lt->acw,le_of_eq->afk,succ_mul->afm,sub_zero->afp,sub_self->afr,max_le->ahG
open Option.some renaming inj->UT
open PyProof.Rows renaming envOfC->Vi,slot_tuple_getitem->Vj,callWith_type1->Wd,callWith_builtin1->agm,kws_cons->agn,kws_nil->ago
open Array renaming length_toList->Vv,getElem?_eq_some_iff->VH,getElem?_toList->Xv,getElem?_setIfInBounds_self_of_lt->YJ,getElem?_setIfInBounds_ne->ZD,getElem?_eq_getElem->aaj,toArray_toList->abg,find?_toList->abS,forIn_toList->abX,toList->ad4
open Int renaming toNat_natCast->VO,le_refl->Y6,toNat_of_nonneg->Zf,ofNat->ZX,fdiv_eq_ediv_of_nonneg->aap,toNat->aa2,emod_lt_of_pos->acy,emod_nonneg->adP,ediv_one->afl
open PySem.F renaming excBase_ValueError->WU,args_tuple_add_2->X6,entry_tuple_add->Ye,slot_tuple_add->Yn,slot_dict_getitem->Z6,slot_dict_values->aab,slot_list_append->aac,type_list_append->aad,plainAttrs_dict->aai,slot_dict_pop->aaE
open PySem.SeqAt renaming eqv_refl->Xk,compareEq_reads->ahw,compareNe_reads->ahx,in_list_reads->ahy,in_tuple_reads->ahz,notIn_list_reads->ahA,notIn_tuple_reads->ahB
open List.Pairwise renaming nil->YA,filterMap->afs,filter->aft,map->afu
open List.Perm renaming refl->ZG,swap->alh
open Int.ofNat renaming inj->acn
open PySem.W.Looks renaming here->afh
open PySem.Within renaming cons->agl
open List.Nodup renaming sublist->ajA
open PySem.IsL renaming update->alg
open List.cons renaming injEq->alj
abbrev W:=@rfl
abbrev G:=@List
abbrev z:=@Option
open Option renaming some->M,none->P
open Bool renaming true->S,false->R
open PySem renaming Addr->I,Value->U
namespace L2
open PySem PySem.Spec PyProof.Rows
abbrev b5:=Sum Int Str
def sg:b5->U->Bool
 |.inl k,v=>Ut.isInt k v
 |.inr x,v=>Ut.isStrOf x v
def So(w:Vf):b5->Int
 |.inl k=>hashInt k
 |.inr x=>hashStr w x
theorem cx:∀{k:b5} {v:U},sg k v=S->(∃i t,k=Sum.inl i/\v=Ut.int i t)\/(∃x t,k=Sum.inr x/\v=Ut.str x t)
 |.inl i,v,h=>by let(t,e):=Ut.isInt_shape h;show .inl #[i,t,W,e]
 |.inr x,v,h=>by let(t,e):=Ut.isStrOf_shape h;show .inr #[x,t,W,e]
def AJ(i:Int)(t:Tok):sg (.inl i) (.int i t)=S:=by simp[sg,Ut.isInt]
def BG(x:Str)(t:Tok):sg (.inr x) (.str x t)=S:=by simp[sg,Ut.isStrOf]
def Oh(a b:Int):decide ((Sum.inl a:b5)=Sum.inl b)=(a==b):=by
 by_cases e:a=b
 .subst e;simp
 .let h:¬(Sum.inl a:b5)=Sum.inl b:=λq=>e (Sum.inl.inj q);rw[a5 h];show(beq_eq_false_iff_ne.mpr e).symm
def Mg(a b:Str):decide ((Sum.inr a:b5)=Sum.inr b)=decide (a=b):=by
 by_cases e:a=b
 .subst e;simp
 .let h:¬(Sum.inr a:b5)=Sum.inr b:=λq=>e (Sum.inr.inj q);rw[a5 h,a5 e]
theorem Os(a:Int)(b:Str):decide ((Sum.inl a:b5)=Sum.inr b)=R:=a5 (λq=>nomatch q)
theorem Nj(a:Str)(b:Int):decide ((Sum.inr a:b5)=Sum.inl b)=R:=a5 (λq=>nomatch q)
def cA(prog:UZ)(w:Vf):PySem.KeyKind prog w b5 where
 is:=sg
 hash:=So w
 inj:=λv a b l f=>by
  rcases cx l with⟨i,t,rfl,rfl⟩|⟨x,t,rfl,rfl⟩
  .rcases cx f with⟨j,u,rfl,e⟩|⟨y,u,rfl,e⟩
   .injection e with e1 _;rw[e1]
   .show nomatch e
  .rcases cx f with⟨j,u,rfl,e⟩|⟨y,u,rfl,e⟩
   .show nomatch e
   .injection e with e1 _;rw[e1]
 byValue:=λk v h=>by rcases cx h with⟨i,t,rfl,rfl⟩|⟨x,t,rfl,rfl⟩<;>rfl
 pyHash:=λd h=>by
  rcases cx d with⟨i,t,rfl,rfl⟩|⟨x,t,rfl,rfl⟩
  .show afe h
  .show aff h
 eqBool:=λg d h=>by
  rcases cx g with⟨i,t,rfl,rfl⟩|⟨x,t,rfl,rfl⟩
  .rcases cx d with⟨j,u,rfl,rfl⟩|⟨y,u,rfl,rfl⟩
   .rw[Oh]at h;show wpAny_eqBool_int h
   .rw[Os]at h;show SeqAt.EqAt.int_str i t y u _ _ _ _ h
  .rcases cx d with⟨j,u,rfl,rfl⟩|⟨y,u,rfl,rfl⟩
   .rw[Nj]at h;show SeqAt.EqAt.str_int x t j u _ _ _ _ h
   .rw[Mg]at h;show wpAny_eqBool_str h
 «strs»:=λk x t v h=>by
  rcases cx h with⟨i,u,rfl,e⟩|⟨y,u,rfl,e⟩
  .show nomatch e
  .injection e with e1 _
   subst e1;ext v<;>rfl
theorem vB(prog:UZ)(w:Vf)(i:Int)(t:Tok):(cA prog w).is (.inl i) (.int i t)=S:=AJ i t
theorem wH(prog:UZ)(w:Vf)(x:Str)(t:Tok):(cA prog w).is (.inr x) (.str x t)=S:=BG x t
inductive V where
 |WL|bl (b:Bool)|int (i:Int)|str (x:Str)|byt (b:Array UInt8)|flt (b:UInt64)|ref (a:I)|ty (n:String)
 deriving DecidableEq
def RelV:V->U->Prop
 |.WL,u=>u=Ut.none
 |.bl b,u=>u=Ut.bool b
 |.int i,u=>∃t,u=Ut.int i t
 |.str x,u=>∃t,u=Ut.str x t
 |.byt b,u=>∃t,u=Ut.bytes b t
 |.flt b,u=>∃t,u=Ut.float b t
 |.ref a,u=>u=Ut.ref a
 |.ty n,u=>u=Ut.type n
abbrev Vals:G V->G U->Prop:=Paired RelV
theorem Vals.length(r:Vals xs us):xs.length=us.length:=Paired.length r
theorem Vals.get:∀{xs:G V} {us:G U} {i:Nat} {x:V},Vals xs us->xs[i]?=M x->∃u,us[i]?=M u/\RelV x u
 |_,_,_,_,.nil,e=>by simp at e
 |_,_,0,_,.cons r _,e=>by simp at e;subst e;show#[_,W,r]
 |_,_,i+1,x,.cons _ t,e=>by let(u,b,a):=Vals.get t (by simpa using e);show#[u,by simpa using b,a]
theorem Vals.append:∀{xs a:G V} {us ws:G U},Vals xs us->Vals a ws->Vals (xs++a) (us++ws)
 |_,_,_,_,.nil,s=>s
 |_,_,_,_,.cons r t,s=>.cons r (Vals.append t s)
theorem Vals.take:∀{xs:G V} {us:G U} (n:Nat),Vals xs us->Vals (xs.take n) (us.take n)
 |_,_,0,_=>.nil
 |_,_,_+1,.nil=>.nil
 |_,_,n+1,.cons r t=>.cons r (Vals.take n t)
theorem Vals.drop:∀{xs:G V} {us:G U} (n:Nat),Vals xs us->Vals (xs.drop n) (us.drop n)
 |_,_,0,r=>r
 |_,_,_+1,.nil=>.nil
 |_,_,n+1,.cons _ t=>Vals.drop n t
def Yi:z V->z U->Prop
 |some v,M u=>RelV v u
 |none,P=>True
 |_,_=>False
def KV:G (o×V)->G (o×U)->Prop:=Paired λ(p:o×V) (q:o×U)=>p.1=q.1/\RelV p.2 q.2
def kV:b5->V
 |.inl i=>.int i
 |.inr x=>.str x
inductive HO where
 |lst (xs:G V)
 |tup (xs:G V)
 |dK (U7:G (b5×V))|dT (U7:G (G b5×V))
 |set (S:Int->Bool) (n:Nat)
 |ins (C dx:I) (fs:G (Str×V))
 |own (x:I)
 |xd (fs:G (Str×V))
 |met (f x:I)
 |rng (lo hi:Int)
 |frz (o:Obj) (u:HO)
 |tbl (ps:Array U)
 |ext (φ:Heap->Prop)
 |exw (φ:Vf->Heap->Prop)
abbrev Hp:=I->z HO
def aX(H:Hp)(a:I)(o:HO):Hp:=λb=>if b=a then M o else H b
def aC:aX H a o a=M o:=by ext aX;rw[ax W]
def ay(h:b≠a):aX H a o b=H b:=by ext aX;rw[aE h]
def Qt{H:Hp}{a b:I}{o u:HO}(h:H a=M o)(c:H b=M u)(d:o≠u):a≠b:=by intro e;subst e;rw[h]at c;show d (UT c)
def bB{H:Hp}(h:H a=M o)(c:H b=P):a≠b:=by intro e;subst e;rw[h]at c;ext c
def Zw(h:Heap)(a:I)(items:Array U):Prop:=∃o,h.get? a=M o/\(o.cls=.type "tuple"/\∃n,o.data=.seq items n)/\o.dict=P
theorem Zw.tup(x:Zw h a items):IsTup h a items:=let#[o,e,c,_]:=x;#[o,e,c]
theorem Zw.lt(x:Zw h a items):a<h.objs.size:=let#[_,e,_]:=x;b4 e
theorem Zw.new(h:Heap)(xs:Array U):Zw (h.push {cls:=.type "tuple",data:=.seq xs}) h.objs.size xs:=#[_,cc _ W,#[W,_,W],W]
section
variable(P:UZ)(w:Vf)
def ObjOk(H:Hp)(h:Heap)(a:I):HO->Prop
 |.lst xs=>xs.length<=UK/\∃(b:G U) (n:Nat),Vals xs b/\h.get? a=M {cls:=.type "list",data:=.seq b.toArray n}
 |.tup xs=>xs.length<=UK/\∃b:G U,Vals xs b/\Zw h a b.toArray
 |.dK j=>j.length<=UK/\(a==Wv)=R/\∃m,KV j m/\h.DictOf (cA P w) a m
 |.dT j=>j.length<=UK/\(a==Wv)=R/\∃xs:G (G b5×I×U),
   Paired (λ(p:G b5×V) (q:G b5×I×U)=>p.1=q.1/\H q.2.1=M (.tup (p.1.map kV))/\RelV p.2 q.2.2) j xs/\
   ∃o es A,h.get? a=M o/\o.ExactDict/\o.data=.dict es A/\es.toList=xs.map (entryOfKey (tupleKind (cA P w)))/\(xs.map (·.1)).Nodup
 |.set d n=>h.SetOf (intKind P w) a d n
 |.ins C l fs=>H l=M (.own a)/\fs.length<=1000/\l≠a/\h.get? a=M (Ws C l)/\
   ∃g,h.Ns1 l g/\(∀f,Yi (fs.lookup f) (g f))/\aaK g (fs.map (·.1))
 |.own _=>∃o,h.get? a=M o
 |.xd fs=>∃g,h.Ns1 a g/\∀f,Yi (fs.lookup f) (g f)
 |.rng lo y=>∃t u v,h.get? a=M {cls:=.type "range",data:=.fields #v[.int lo t,.int y u,.int 1 v]}
 |.frz o u=>h.get? a=M o/\ObjOk H h a u
 |.tbl r=>h.get? a=M {cls:=.none,data:=.fields r}
 |.met f x=>h.get? a=M (Zd (.ref f) (.ref x))
 |.ext e=>e h/\(∃o,h.get? a=M o)/\∀h1 i:Heap,e h1->(∀o,h1.get? a=M o->i.get? a=M o)->e i
 |.exw e=>e w h/\(∃o,h.get? a=M o)/\∀h1 i:Heap,e w h1->(∀o,h1.get? a=M o->i.get? a=M o)->e w i
def YO(H:Hp)(h:Heap):Prop:=∀a o,H a=M o->ObjOk P w H h a o
end
section
variable{P:UZ}{w:Vf}{H Z:Hp}{h h':Heap}{a:Uz}{o:HO}
def ObjOk.lt(x:ObjOk P w H h a o):a<h.objs.size:=by
 cases o with
 |lst xs=>let(_,_,_,_,e):=x;show b4 e
 |tup xs=>let(_,_,_,p):=x;show p.lt
 |dK g=>let(_,_,_,_,o,_,_,e,_):=x;show b4 e
 |dT g=>let(_,_,_,_,o,_,_,e,_):=x;show b4 e
 |set S n=>let(o,_,_,_,e,_):=x;show b4 e
 |ins C l fs=>let(_,_,_,e,_):=x;show b4 e
 |own y=>let(_,e):=x;show b4 e
 |xd fs=>let(_,(_,_,_,e,_),_):=x;show b4 e
 |rng lo j=>let(_,_,_,e):=x;show b4 e
 |frz b u=>let(e,_):=x;show b4 e
 |tbl i=>show b4 (show h.get? a=M _ from x)
 |met f y=>show b4 (show h.get? a=M _ from x)
 |ext d=>let(_,(_,e),_):=x;show b4 e
 |exw d=>let(_,(_,e),_):=x;show b4 e
theorem Paired.X9:∀{e:bb α} {c:bb β},Paired F e c->(∀a b,F a b->d a b)->Paired d e c
 |_,_,.nil,_=>.nil
 |_,_,.cons r t,f=>.cons (f _ _ r) (Paired.X9 t f)
def ObjOk.YF(x:ObjOk P w H h a o)(k:∀b u,(b=a\/H b=M (.own a))->h.get? b=M u->h'.get? b=M u)
  (F:∀b,H b=M (.own a)->Z b=M (.own a)) (E:∀b xs,H b=M (.tup xs)->Z b=M (.tup xs)):ObjOk P w Z h' a o:=by
 induction o with
 |lst xs=>let(z,A,n,r,e):=x;show#[z,A,n,r,k _ _ (.inl W) e]
 |tup xs=>let(z,A,r,g,e,c):=x;show#[z,A,r,g,k _ _ (.inl W) e,c]
 |dK N=>let(z,y,L,r,g,es,i,e,c):=x;show#[z,y,L,r,g,es,i,k _ _ (.inl W) e,c]
 |dT N=>let(z,y,xs,r,g,es,i,e,c):=x;show#[z,y,xs,Paired.X9 r λp q z=>#[z.1,E _ _ z.2.1,z.2.2],g,es,i,k _ _ (.inl W) e,c]
 |set S n=>let(g,es,i,t,e,c):=x;show#[g,es,i,t,k _ _ (.inl W) e,c]
 |ins C Q fs=>let(d,z,ne,e,m,(l,es,i,e2,c),r):=x;show#[F _ d,z,ne,k _ _ (.inl W) e,m,#[l,es,i,k _ _ (.inr d) e2,c],r]
 |own y=>let(g,e):=x;show#[g,k _ _ (.inl W) e]
 |xd fs=>let(m,(l,es,i,e,c),r):=x;show#[m,#[l,es,i,k _ _ (.inl W) e,c],r]
 |rng lo O=>let(t,u,v,e):=x;show#[t,u,v,k _ _ (.inl W) e]
 |frz g u B=>let(e,q):=x;show#[k _ _ (.inl W) e,B q]
 |tbl J=>let e:h.get? a=M {cls:=.none,data:=.fields J}:=x;show h'.get? a=M {cls:=.none,data:=.fields J};show k a _ (.inl W) e
 |met f y=>let e:h.get? a=M (Zd (.ref f) (.ref y)):=x;show h'.get? a=M (Zd (.ref f) (.ref y));show k a _ (.inl W) e
 |ext K=>let(p,(o,e),j):=x;show#[j _ _ p λo q=>k _ _ (.inl W) q,#[o,k _ _ (.inl W) e],j]
 |exw K=>let(p,(o,e),j):=x;show#[j _ _ p λo q=>k _ _ (.inl W) q,#[o,k _ _ (.inl W) e],j]
theorem YO.lt(x:YO P w H h)(e:H a=M o):a<h.objs.size:=(x a o e).lt
def YO.fresh(x:YO P w H h)(e:h.objs.size<=a):H a=Ld:=by
 cases q:H a with
 |none=>rfl
 |some u=>show a7 (U1 (x.lt q) e) (VT _)
theorem YO.kept(x:YO P w H h)(k:∀b u,h.get? b=M u->h'.get? b=M u):YO P w H h':=λa o e=>
 (x a o e).YF (λb u _ q=>k b u q) (λ_ q=>q) λ_ _ q=>q
theorem YO.laid(x:YO P w H h)(k:∀b u,h.get? b=M u->h'.get? b=M u)(f:h.objs.size<=a)(new:ObjOk P w (aX H a o) h' a o):YO P w (aX H a o) h':=λb u e=>by
 let g:=x.fresh f;by_cases d:b=a
 .subst d;rw[aC]at e;ext e;show new
 .rw[ay d]at e;show(x b u e).YF (λc v _ q=>k c v q) (λc q=>by rw[ay (bB q g)];show q) λc xs q=>by rw[ay (bB q g)];show q
end
def Rd(H:Hp)(a:I)(u:HO):Prop:=H a=M u\/∃o,H a=M (.frz o u)
def Rd.ok(r:Rd H a u)(x:YO b w H h):ObjOk b w H h a u:=by
 rcases r with r|⟨o,r⟩
 .show x a u r
 .let(_,q):=x a _ r;show q
def Rg:z HO->Prop
 |some (.lst _)=>True
 |some (.dK _)=>True
 |some (.dT _)=>True
 |some (.set _ _)=>True
 |some (.ins _ _ _)=>True
 |some (.ext _)=>True
 |some (.exw _)=>True
 |_=>False
section
variable{P:UZ}{w:Vf}{H:Hp}{h h':Heap}{x e:Uz}{Z:HO}
theorem YO.write(ok:YO P w H h)(f:Rg (H x))(n:e=x\/H e=M (.own x))(k:∀b u,b≠e->h.get? b=M u->h'.get? b=M u)(j:∃u,h'.get? e=M u)
  (new:ObjOk P w (aX H x Z) h' x Z):YO P w (aX H x Z) h':=λb u q=>by
 let d:∀c y,H c=M (.own y)->c≠x:=λc y r z=>by subst z;rw[r]at f;show f
 let l:∀c xs,H c=M (.tup xs)->c≠x:=λc xs r z=>by subst z;rw[r]at f;show f
 by_cases i:b=x
 .subst i;rw[aC]at q;ext q;show new
 .rw[ay i]at q
  by_cases a:b=e
  .let m:H b=M (.own x):=by
    rcases n with z|z
    .show a7 (a.trans z) i
    .rw[a];show z
   rw[q]at m;ext m;let(v,o):=j;show#[v,by rw[a];show o]
  .show(ok b u q).YF (λc v g r=>k c v ?_ r) (λc r=>by rw[ay (d c b r)];show r) λc xs r=>by rw[ay (l c xs r)];show r
   rcases g with rfl|g
   .show a
   .rintro rfl
    rcases n with z|z
    .show d c b g z
    .rw[g]at z;ext z;show i W
end
structure Un(fs ex:G I)(H H':Hp)(h h':Heap):Prop where
 keep:∀b o,h.get? b=M o->H b=P->b∉fs->b∉ex->h'.get? b=M o
 slot:∀b o,h.get? b=M o->H b=P->b∈fs->b∉ex->∃sl,h'.get? b=M {o with slots:=sl}
 free:∀b o,h.get? b=M o->H b=P->b∉ex->H' b=P
 there:∀b o,h.get? b=M o->b∉ex->∃o',h'.get? b=M o'
 Z1:∀b xs,H b=M (.tup xs)->H' b=M (.tup xs)
 ZK:∀b o u,H b=M (.frz o u)->H' b=M (.frz o u)
 ZY:∀b ps,H b=M (.tbl ps)->∃more,H' b=M (.tbl (ps++more))
section
variable{fs X Z T:bb Uz}{H Q O:Hp}{h Y N h':Heap}{a x e:Uz}{o:HO}
def Un.any(u:Un fs Z H Q h Y)(q:h.get? b=M ob)(n:H b=P)(d:b∉Z):∃c,Y.get? b=M {ob with slots:=c}:=by
 by_cases f:b∈fs
 .show u.slot b ob q n f d
 .show#[ob.slots,u.keep b ob q n f d]
theorem Un.kept(k:∀b u,h.get? b=M u->h'.get? b=M u):Un fs Z H H h h':=
 #[λb d q _ _ _=>k b d q,λb d q _ _ _=>#[d.slots,k b d q],λ_ _ _ n _=>n,λb d q _=>#[d,k b d q],λ_ _ q=>q,λ_ _ _ q=>q,λ_ f q=>#[#v[],by rw[q];simp]]
theorem Un.refl:Un fs Z H H h h:=Un.kept λ_ _ q=>q
theorem Un.laid(k:∀b u,h.get? b=M u->h'.get? b=M u)(d:h.objs.size<=a)(c:H a=P):Un fs Z H (aX H a o) h h' where
 keep:=λb u q _ _ _=>k b u q
 slot:=λb u q _ _ _=>#[u.slots,k b u q]
 free:=λb u q n _=>by rw[ay (U3 (U1 (b4 q) d))];show n
 there:=λb u q _=>#[u,k b u q]
 Z1:=λb xs q=>by rw[ay (bB q c)];show q
 ZK:=λb u xs q=>by rw[ay (bB q c)];show q
 ZY:=λb f q=>#[#v[],by rw[ay (bB q c),q];simp]
def Un.write(f:Rg (H x))(m:e=x\/H e=M (.own x))(k:∀b u,b≠e->h.get? b=M u->h'.get? b=M u)(g:∃u,h'.get? e=M u):Un fs Z H (aX H x o) h h':=by
 let i:∀b,H b=P->b≠x:=λb n z=>by subst z;rw[n]at f;show f
 let j:∀b,H b=P->b≠e:=λb n z=>by
  subst z;rcases m with r|r
  .show i b n r
  .rw[n]at r;ext r
 let hm:∀b u,H b=M u->¬Rg (M u)->b≠x:=λb u q l z=>by subst z;rw[q]at f;show l f
 show#[λb u q n _ _=>k b u (j b n) q,λb u q n _ _=>#[u.slots,k b u (j b n) q],λb u q n _=>by rw[ay (i b n)];show n,λb u q _=>?_,
  λb xs q=>by rw[ay (hm b _ q λz=>z)];show q,λb u xs q=>by rw[ay (hm b _ q λz=>z)];show q,λb p q=>#[#v[],by rw[ay (hm b _ q λz=>z),q];simp]]
 by_cases d:b=e
 .subst d;show g
 .show#[u,k b u d q]
end
def RT(h:Heap)(H:Hp):G I:=(UR h.objs.size).filter λa=>(H a).isSome
def tO(h:Heap)(H:Hp):Heap:=PySem.W.hideAll h (RT h H)
theorem A8(h:Heap)(H:Hp):(tO h H).objs.size=h.objs.size:=PySem.W.hideAll_size _ _
theorem FJ(e:h.get? b=M o)(n:H b=P):(tO h H).get? b=M o:=
 PySem.W.hideAll_get _ e λhm=>by let q:=(Wh.mp hm).2;rw[n]at q;simp at q
def HM(e:(tO h H).get? b=M o):h.get? b=M o/\H b=P:=by
 let a:=PySem.W.of_hideAll (RT h H) e;show#[a,?_];cases q:H b with
 |none=>rfl
 |some x=>let hm:b∈RT h H:=Wh.mpr #[V5.mpr (b4 a),by simp[q]];let z:(tO h H).get? b=P:=PySem.W.hideAll_none (RT h H) hm;rw[z]at e;ext e
structure Mod(K:lD)(mg:Str->z U)(base:Heap):Prop where
 kin:K.In base
 glob:base.Ns UY mg
 blt:∃mb,base.Ns builtinsNs mb/\∀x:Str,x≠ "__name__"->mb x=VF x
 nolimit:base.NoLimit
structure Cx where
 prog:UZ
 w:Vf
 K:lD
 mg:Str->z U
 base:Heap
 A:Vb
 N:G Str
 s₀:UC
 H₀:Hp
 env:Env
 outer:G Env
 stack:G Env
 ex:G I
 fn:Str->Bool
 calm:Bool
 pn:G (I×Obj)
 xe:U->UC->Prop
def wf(l:G Env):G I:=l.filterMap (·.frame)
abbrev Cx.fs(X:Cx):G I:=wf X.outer
def QH(sc:WA)(x:Str):Prop:=sc.names.lookup x=M .local\/sc.names.lookup x=M .cell\/sc.names.lookup x=M .free
def Oq(sc:WA)(x:Str):Prop:=sc.names.lookup x=M .local\/sc.names.lookup x=M .cell
def SS(env:Env)(h:Heap)(m:Str->z U)(x:Str)(u:U):Prop:=
 (env.kindOf x=M .local/\m x=M u)\/((env.kindOf x=M .cell\/env.kindOf x=M .free)/\∃c,env.cells.lookup x=M c/\h.IsCell c (M u))
structure Cx.Ok(X:Cx):Prop where
 mod:Mod X.K X.mg X.base
 kind:X.env.scope.kind=.function
 glob:X.env.globals=UY
 blt:X.env.builtins=builtinsNs
 above:X.s₀.heap.objs.size<=X.env.locals
 inj:∀x y c,X.env.cells.lookup x=M c->X.env.cells.lookup y=M c->x=y
 has:∀x,(X.env.kindOf x=M .cell\/X.env.kindOf x=M .free)->∃c,X.env.cells.lookup x=M c
 cab:∀x c,X.fn x=S->X.env.cells.lookup x=M c->X.s₀.heap.objs.size<=c
 hd:X.calm=S->X.A.handled=P
 frames:X.A.frames=M X.stack
 stk:X.stack=X.outer\/(X.stack=X.env::X.outer/\X.env.frame=M X.env.locals)
 exf:∀b∈X.ex,b≠X.env.locals/\∀x c,X.env.cells.lookup x=M c->c≠b
 bs:∀b o,X.base.get? b=M o->X.s₀.heap.get? b=M o/\X.H₀ b=P
 bsz:X.base.objs.size<=X.s₀.heap.objs.size
 aaT:∀b o,X.base.get? b=M o->b∉X.ex
 aaR:∀b∈X.ex,b∉X.fs
 Y7:X.s₀.heap.FunFrames X.base X.outer
 frf:∀b∈X.fs,X.H₀ b=P
structure Inv(X:Cx)(pins:G (I×Obj))(σ:G (z V))(H:Hp)(s:UC):Prop where
 ok:X.Ok
 os:s.os=X.s₀.os
 bare:AllBare s.gens
 base:Un X.fs X.ex X.H₀ H X.s₀.heap s.heap
 loc:∃m,s.heap.Ns X.env.locals m/\∀(i:Nat) (x:Str) (v:V),X.N[i]?=M x->σ[i]?=M (M v)->QH X.env.scope x->∃u,RelV v u/\SS X.env s.heap m x u
 cell:∀x c,X.env.cells.lookup x=M c->∃v,s.heap.IsCell c v
 free:H X.env.locals=P
 XH:∀x c,X.env.cells.lookup x=M c->H c=P
 pin:∀p∈X.pn++pins,s.heap.get? p.1=M p.2/\H p.1=P/\p.1≠X.env.locals/\p.1∉X.fs/\∀v,p.2.data≠.cell v
 VQ:YO X.prog X.w H s.heap
 len:σ.length=X.N.length
section
variable{X:Cx}{Z:bb (Uz×Obj)}{Y:bb (bg V)}{H H':Hp}{s:UC}{h':Heap}
theorem Cx.Ok.aiu(ok:X.Ok)(e:X.base.get? b=M o):b∉X.fs:=λa=>by let:=(ok.Y7.mem a).1;rw[e]at this;ext this
theorem Inv.bs(I:Inv X Z Y H s):∀b o,X.base.get? b=M o->s.heap.get? b=M o/\H b=P:=λb o e=>
 #[I.base.keep b o (I.ok.bs b o e).1 (I.ok.bs b o e).2 (I.ok.aiu e) (I.ok.aaT b o e),I.base.free b o (I.ok.bs b o e).1 (I.ok.bs b o e).2 (I.ok.aaT b o e)]
theorem Inv.bk(I:Inv X Z Y H s):∀b o,X.base.get? b=M o->s.heap.get? b=M o:=λb o e=>(I.bs b o e).1
theorem Inv.mod(I:Inv X Z Y H s):Mod X.K X.mg X.base:=I.ok.mod
theorem Inv.ZJ(I:Inv X Z Y H s):X.K.In s.heap:=I.ok.mod.kin.keeps I.bk
theorem Inv.lt(I:Inv X Z Y H s):X.env.locals<s.heap.objs.size:=let#[_,a,_]:=I.loc;a.lt
theorem Inv.sz(I:Inv X Z Y H s):X.s₀.heap.objs.size<=s.heap.objs.size:=Vk I.ok.above (Yw I.lt)
theorem Inv.ah5(I:Inv X Z Y H s)(h:s.heap.objs.size<=a):a∉X.fs:=λd=>by let(_,o,b,_):=I.ok.Y7.mem d;show a7 (U1 (b4 b) (Vk I.sz h)) (VT _)
theorem Inv.cne(I:Inv X Z Y H s):∀x c,X.env.cells.lookup x=M c->c≠X.env.locals:=λx c e z=>by let(v,o,d,f):=I.cell x c e;let(m,(g,es,h,a,b,_),_):=I.loc;rw[z,a]at d;ext d;rw[b]at f;ext f
def Inv.Y7(I:Inv X Z Y H s):s.heap.FunFrames X.base X.outer:=by
 let all:∀(l:G Env),(∀b∈wf l,b∈X.fs)->X.s₀.heap.FunFrames X.base l->s.heap.FunFrames X.base l:=by
  intro l
  induction l with
  |nil=>intro _ _;trivial
  |cons q r h=>intro g m;let(n,(L,o,a,u,j,p),i):=m;let f:=g L (by ext wf;rw[W8,a];show UP);let(t,e):=I.base.slot L o j (I.ok.frf L f) f λz=>I.ok.aaR L z f;show#[n,#[L,_,a,u,e,p],h (λb d=>g b (by ext wf;rw[W8,a];show UM _ d)) i]
 show all X.outer (λ_ d=>d) I.ok.Y7
def Inv.stack(I:Inv X Z Y H s):s.heap.FunFrames X.base X.stack:=by
 rcases I.ok.stk with e|⟨e,hf⟩
 .rw[e];show I.Y7
 .rw[e];let(m,a,_):=I.loc;show .cons (by rw[I.ok.kind];decide) hf a ?_ I.Y7;show cw (Vk I.ok.bsz I.ok.above)
theorem Inv.Zz(I:Inv X Z Y H s):∀b∈wf X.stack,b∈X.env.locals::X.fs:=λb a=>by
 rcases I.ok.stk with e|⟨e,hf⟩
 .rw[e]at a;show UM _ a
 .rw[e]at a;unfold wf at a;rw[W8,hf]at a;show a
theorem Inv.ZS(I:Inv X Z Y H s):∀b∈wf X.stack,H b=P:=λb a=>by
 rcases U5.mp (I.Zz b a)with e|a
 .rw[e];show I.free
 .let(_,o,d,_):=I.ok.Y7.mem a;show I.base.free b o d (I.ok.frf b a) λz=>I.ok.aaR b z a
def Inv.step{g':Array YR}{Q:Nat}{d':acd}{ch:bb Uz}(I:Inv X Z Y H s)
  (g:∀b∈ch,(b∈X.ex\/X.s₀.heap.objs.size<=b)/\b≠X.env.locals/\(∀x c,X.env.cells.lookup x=cL c->c≠b)/\∀p∈X.pn++Z,p.1≠b)
  (keep:∀b o,b≠X.env.locals->b∉X.fs->b∉ch->s.heap.get? b=cL o->H b=P->h'.get? b=cL o)
  (slot:∀b o,b≠X.env.locals->b∈X.fs->b∉ch->s.heap.get? b=cL o->H b=P->∃O,h'.get? b=cL {o with slots:=O}) (free:∀b o,b∉ch->s.heap.get? b=cL o->H b=P->H' b=P)
  (there:∀b o,b∉ch->s.heap.get? b=cL o->∃w,h'.get? b=cL w)
  (Z1:∀b xs,H b=cL (.tup xs)->H' b=cL (.tup xs)) (ZK:∀b o u,H b=cL (.frz o u)->H' b=cL (.frz o u)) (ZY:∀b D,H b=cL (.tbl D)->∃more,H' b=cL (.tbl (D++more)))
  (J:∀m,s.heap.Ns X.env.locals m->h'.Ns X.env.locals m) (VQ:YO X.prog X.w H' h') (N:AllBare g'):
  Inv X Z Y H' {s with heap:=h',gens:=g',drawn:=d',toks:=Q}:=by
 let A:∀b o,X.s₀.heap.get? b=cL o->b≠X.env.locals:=λb o e=>U3 (U1 (b4 e) I.ok.above);let j:∀b o,X.s₀.heap.get? b=cL o->b∉X.ex->b∉ch:=λb o e a t=>by
  rcases(g b t).1 with z|z
  .show a z
  .show a7 (U1 (b4 e) z) (VT _)
 let h:∀x c,X.env.cells.lookup x=cL c->∀v,s.heap.IsCell c v->h'.IsCell c v:=λx c e v #[o,y,C]=>by
  let f:c∉ch:=λz=>(g c z).2.2.1 x c e W;by_cases G:c∈X.fs
  .let(O,q):=slot c o (I.cne x c e) G f y (I.XH x c e);show#[_,q,C]
  .show#[o,keep c o (I.cne x c e) G f y (I.XH x c e),C]
 show#[I.ok,I.os,N,#[λb o e n t a=>?_,λb o e n t a=>?_,λb o e n a=>?_,λb o e a=>?_,λb xs e=>Z1 b xs (I.base.Z1 b xs e),λb o xs e=>ZK b o xs (I.base.ZK b o xs e),λb D e=>?_],?_,λx c e=>?_,?_,λx c e=>?_,λp F=>?_,VQ,I.len]
 .show keep b o (A b o e) t (j b o e a) (I.base.keep b o e n t a) (I.base.free b o e n a)
 .let(O,e1):=I.base.slot b o e n t a;let(B,e2):=slot b _ (A b o e) t (j b o e a) e1 (I.base.free b o e n a);show#[B,e2]
 .let(w,e1):=I.base.there b o e a;show free b w (j b o e a) e1 (I.base.free b o e n a)
 .let(w,e1):=I.base.there b o e a;show there b w (j b o e a) e1
 .let(L,e1):=I.base.ZY b D e;let(K,e2):=ZY b _ e1;show#[L++K,by rw[e2,Array.append_assoc]]
 .let(m,T,M):=I.loc
  show#[m,J m T,λi x v e1 e2 e3=>?_];let(u,r,l):=M i x v e1 e2 e3;show#[u,r,?_];rcases l with l|⟨k,c,e,z⟩
  .show .inl l
  .show .inr #[k,c,e,h x c e _ z]
 .let(v,z):=I.cell x c e;show#[v,h x c e v z]
 .let(m,(o,_,_,y,_),_):=I.loc;show free _ o (λz=>(g _ z).2.1 W) y I.free
 .let(v,o,y,C):=I.cell x c e;show free c o (λz=>(g c z).2.2.1 x c e W) y (I.XH x c e)
 .let(e,n,ne,E,d):=I.pin p F;let f:p.1∉ch:=λz=>(g p.1 z).2.2.2 p F W;show#[keep p.1 p.2 ne E f e n,free p.1 p.2 f e n,ne,E,d]
def Inv.un{t':Nat}(I:Inv X Z Y H s)(u:Un X.fs [] H H' s.heap h')(VQ:YO X.prog X.w H' h'):Inv X Z Y H' {s with heap:=h',toks:=t'}:=by let(m,(o,es,t,h,r),_):=id I.loc;let(l,j):=u.any h I.free (by simp);show I.step (g':=s.gens) (d':=s.drawn) (ch:=[]) (λ_ z=>nomatch z) (λb o _ d _ e n=>u.keep b o e n d (by simp)) (λb o _ d _ e n=>u.slot b o e n d (by simp)) (λb o _ e n=>u.free b o e n (by simp)) (λb o _ e=>u.there b o e (by simp)) u.Z1 u.ZK u.ZY (λq hm=>by let(p,f,g,a,i):=hm;rw[h]at a;ext a;show#[_,f,g,j,i]) VQ I.bare
def Inv.call{g':Array YR}{t':Nat}{d':acd}{ch:G Uz}(I:Inv X Z Y H s)(u:Un (wf X.stack) ch H H' s.heap h')(VQ:YO X.prog X.w H' h')(q:AllBare g')
  (f:∀b∈ch,(b∈X.ex\/X.s₀.heap.objs.size<=b)/\b≠X.env.locals/\(∀x c,X.env.cells.lookup x=M c->c≠b)/\∀p∈X.pn++Z,p.1≠b):
  Inv X Z Y H' {s with heap:=h',gens:=g',drawn:=d',toks:=t'}:=by
 let(m,(o,es,B,j,r),_):=id I.loc;let(v,g):=u.any j I.free λz=>(f _ z).2.1 W;show I.step (ch:=ch) f (λb o g t a e n=>u.keep b o e n (λz=>(U5.mp (I.Zz b z)).elim g t) a) (λb o _ _ a e n=>u.any e n a) (λb o a e n=>u.free b o e n a) (λb o a e=>u.there b o e a) u.Z1 u.ZK u.ZY (λA hm=>by let(y,h,i,d,l):=hm;rw[j]at d;ext d;show#[_,h,i,g,l]) VQ q
def Inv.turned{t':Nat}{it:Uz}(I:Inv X Z Y H s)(k:∀b o,b≠it->s.heap.get? b=M o->h'.get? b=M o)(w:H it=P)(f:it≠X.env.locals)
  (l:it∈X.ex\/X.s₀.heap.objs.size<=it) (j:∀x c,X.env.cells.lookup x=M c->c≠it) (i:∀p∈X.pn++Z,p.1≠it):Inv X Z Y H {s with heap:=h',toks:=t'}:=by
 let d:∀b u,H b=M u->b≠it:=λb u e z=>by rw[z,w]at e;ext e
 show I.step (g':=s.gens) (d':=s.drawn) (ch:=[it]) (λb h=>?_) (λb o _ _ a e _=>k b o (λz=>a (by simp[z])) e) (λb o _ _ a e _=>#[o.slots,k b o (λz=>a (by simp[z])) e]) (λ_ _ _ _ n=>n)
  (λb o a e=>#[o,k b o (λz=>a (by simp[z])) e]) (λ_ _ e=>e) (λ_ _ _ e=>e) (λb y e=>#[#v[],by rw[e];simp]) (λm hm=>?_) (λb u e=>?_) I.bare
 .let e:b=it:=by simpa using h
  subst e;show#[l,f,j,i]
 .let(o,es,t,g,r):=hm;show#[o,es,t,k _ o (dN f) g,r]
 .show(I.VQ b u e).YF (λc v a q=>k c v ?_ q) (λ_ q=>q) λ_ _ q=>q
  rcases a with z|z
  .rw[z];show d b u e
  .show d c _ z
theorem Inv.tok(I:Inv X Z Y H s)(t:Nat):Inv X Z Y H {s with toks:=t}:=I.un Un.refl I.VQ
theorem Inv.kept{t':Nat}(I:Inv X Z Y H s)(k:∀b u,s.heap.get? b=M u->h'.get? b=M u):Inv X Z Y H {s with heap:=h',toks:=t'}:=I.un (Un.kept k) (I.VQ.kept k)
theorem Inv.laid{a:Uz}{o:HO}{t':Nat}(I:Inv X Z Y H s)(k:∀b u,s.heap.get? b=M u->h'.get? b=M u)(d:s.heap.objs.size<=a)(new:ObjOk X.prog X.w (aX H a o) h' a o):
  Inv X Z Y (aX H a o) {s with heap:=h',toks:=t'}:=I.un (Un.laid k d (I.VQ.fresh d)) (I.VQ.laid k d new)
theorem Inv.write{x e:Uz}{o:HO}{t':Nat}(I:Inv X Z Y H s)(d:Rg (H x))(f:e=x\/H e=M (.own x))(k:∀b u,b≠e->s.heap.get? b=M u->h'.get? b=M u)(a:∃u,h'.get? e=M u)
  (new:ObjOk X.prog X.w (aX H x o) h' x o):Inv X Z Y (aX H x o) {s with heap:=h',toks:=t'}:=I.un (Un.write d f k a) (I.VQ.write d f k a new)
theorem Inv.aat(I:Inv X Z Y H s)(h:∀p∈afD,s.heap.get? p.1=M p.2/\H p.1=P/\p.1≠X.env.locals/\p.1∉X.fs/\∀v,p.2.data≠.cell v):Inv X afD Y H s:=
 #[I.ok,I.os,I.bare,I.base,I.loc,I.cell,I.free,I.XH,λp a=>(Vg.mp a).elim (λz=>I.pin p (Wc _ z)) (h p),I.VQ,I.len]
def uH{N:G Str}(d:N.Nodup){i j:Nat}(a:N[i]?=M x)(b:N[j]?=M x):i=j:=by let(f,e1):=Uw.mp a;let(e,e2):=Uw.mp b;show(List.getElem_inj d).mp (e1.trans e2.symm)
def rL{M:adh}{A:Vb}{E:U->UC->Prop}{i:Nat}{x:Str}{v:V}{u:U}{Q:Unit->UC->Prop}(I:Inv X Z Y H s)(hN:X.N.Nodup)(D:X.N[i]?=cL x)(l:Oq X.env.scope x)(r:RelV v u)
  (h:∀F,Inv X Z (Y.set i (cL v)) H F->(∃a,Heap.SameBut a s.heap F.heap/\(a=X.env.locals\/X.env.cells.lookup x=cL a))->Q ⟨⟩ F) (hf:X.fn x=S\/X.env.scope.names.lookup x=cL .local:=by first|show .inl W|show .inr W|assumption):wpAny M A (storeName X.env x u) Q E s:=by
 let(m,hn,hl):=id I.loc;let ajf:(X.env.scope.kind==.class||(X.env.scope.kind==.module&&X.env.locals !=X.env.globals))=R:=by rw[I.ok.kind];rfl
 let w:i<Y.length:=by rw[I.len];show(Uw.mp D).1
 let cne:=I.cne;let tracked:∀{a:Uz} {h':Heap},(∃o,s.heap.get? a=cL o/\H a=P)->Heap.SameBut a s.heap h'->YO X.prog X.w H h':=λ{a h'} ha f b ob e=>by
  let(_,_,L):=ha;show(I.VQ b ob e).YF (λc N g q=>(f.2 c ?_).trans q) (λ_ q=>q) λ_ _ q=>q;rintro rfl;rcases g with rfl|g
  .rw[L]at e;ext e
  .rw[L]at g;ext g
 rcases l with t|t
 .show wpAny_storeName_local t hn (λh' hn' f=>?_) ajf
  let(oL,_,_,hoL,_):=id hn;show h _ #[I.ok,I.os,I.bare,#[λb o e n C l=>?_,λb o e n C l=>?_,I.base.free,λb o e l=>?_,I.base.Z1,I.base.ZK,I.base.ZY],#[_,hn',λj y T e1 e2 e3=>?_],λy c e=>?_,I.free,I.XH,λp hp=>?_,tracked #[oL,hoL,I.free] f,by simpa using I.len] #[_,f,.inl W]
  .show(f.2 b (U3 (U1 (b4 e) I.ok.above))).trans (I.base.keep b o e n C l)
  .let(sl,e1):=I.base.slot b o e n C l;show#[sl,(f.2 b (U3 (U1 (b4 e) I.ok.above))).trans e1]
  .let(o',e1):=I.base.there b o e l;show#[o',(f.2 b (U3 (U1 (b4 e) I.ok.above))).trans e1]
  .by_cases hj:j=i
   .subst hj;rw[D]at e1;ext e1;rw[VP w]at e2;ext e2;show#[u,r,.inl #[t,by simp]]
   .rw[Vx (dN hj)]at e2
    let(u',r',q):=hl j y T e1 e2 e3;show#[u',r',?_];rcases q with⟨k,e⟩|⟨k,c,e,z⟩
    .show .inl #[k,?_];let:y≠x:=λe=>hj (uH hN e1 (e▸D));simp[this,e]
    .show .inr #[k,c,e,z.sameBut f (cne y c e)]
  .let(N,z):=I.cell y c e;show#[N,z.sameBut f (cne y c e)]
  .let(e,n,ne,nf,d):=I.pin p hp;show#[(f.2 p.1 ne).trans e,n,ne,nf,d]
 .let B:X.fn x=S:=by
   rcases hf with z|z
   .show z
   .rw[z]at t;ext t
  let(c,g):=I.ok.has x (.inl t);let(N,z):=I.cell x c g;show wpAny_storeName_cell I.ok.kind t g z (λh' K f=>?_);let(oc,J,ahX):=id z;show h {s with heap:=h'} #[I.ok,I.os,I.bare,#[λb o e n C l=>?_,λb o e n C l=>?_,I.base.free,λb o e l=>?_,I.base.Z1,I.base.ZK,I.base.ZY],#[m,hn.sameBut f (dN (cne x c g)),λj y T e1 e2 e3=>?_],λy O e=>?_,I.free,I.XH,λp hp=>?_,tracked #[oc,J,I.XH x c g] f,by simpa using I.len] #[c,f,.inr g]
  .show(f.2 b (U3 (U1 (b4 e) (I.ok.cab x c B g)))).trans (I.base.keep b o e n C l)
  .let(sl,e1):=I.base.slot b o e n C l;show#[sl,(f.2 b (U3 (U1 (b4 e) (I.ok.cab x c B g)))).trans e1]
  .let(o',e1):=I.base.there b o e l;show#[o',(f.2 b (U3 (U1 (b4 e) (I.ok.cab x c B g)))).trans e1]
  .by_cases hj:j=i
   .subst hj;rw[D]at e1;ext e1;rw[VP w]at e2;ext e2;show#[u,r,.inr #[.inl t,c,g,K]]
   .rw[Vx (dN hj)]at e2
    let(u',r',q):=hl j y T e1 e2 e3;show#[u',r',?_];rcases q with q|⟨k,O,e,z'⟩
    .show .inl q
    .show .inr #[k,O,e,z'.sameBut f ?_];rintro rfl;show hj (uH hN e1 (I.ok.inj _ _ _ e g▸D))
  .by_cases hcc:O=c
   .subst hcc;show#[_,K]
   .let(w2,z2):=I.cell y O e;show#[w2,z2.sameBut f hcc]
  .let(e,n,ne,nf,d):=I.pin p hp;show#[(f.2 p.1 ?_).trans e,n,ne,nf,d];intro q;rw[q,J]at e;let q':oc=p.2:=UT e;show d N (by rw[<-q'];show ahX)
theorem pG{i:Nat}{v:V}{u:U}{Q:Unit->UC->Prop}(I:Inv X Z Y H s)(e:X.N.Nodup)(d:X.N[i]?=cL x)(c:Oq X.env.scope x)(r:RelV v u)
  (h:∀b,Inv X Z (Y.set i (cL v)) H b->Q ⟨⟩ b) (hf:X.fn x=S\/X.env.scope.names.lookup x=cL .local:=by first|show .inl W|show .inr W|assumption):wpAny a A (storeName X.env x u) Q E s:=
 rL I e d c r (λb f _=>h b f) hf
def Inv.acH{a:UC}{ch:G Uz}(I:Inv X Z Y H s)(g:a.os=s.os)(u:Un (wf X.stack) ch H H' s.heap a.heap)(VQ:YO X.prog X.w H' a.heap)(h:AllBare a.gens)
  (d:∀b∈ch,(b∈X.ex\/X.s₀.heap.objs.size<=b)/\b≠X.env.locals/\(∀x c,X.env.cells.lookup x=M c->c≠b)/\∀p∈X.pn++Z,p.1≠b):Inv X Z Y H' a:=by
 let(h',j,l,i,f):=a;let e:f=s.os:=g;subst e;show I.call (g':=j) (t':=i) (d':=l) u VQ h d
end
abbrev XK:=U->z I->Hp->Prop
abbrev St:=G (z V)
abbrev VK:=V->Hp->Prop
abbrev TE:=St->Hp->VK->Prop
abbrev TT:=St->Hp->(Bool->Hp->Prop)->Prop
abbrev TA:=St->Hp->(G V->Hp->Prop)->Prop
structure Ends where
 nx:St->Hp->Prop
 rt:VK
 bk:St->Hp->Prop:=λ_ _=>False
 ct:St->Hp->Prop:=λ_ _=>False
abbrev TS:=Ends->St->Hp->Prop
def EP(X:Cx)(a:G (I×Obj))(b:St)(Q:VK)(u:U)(d:UC):Prop:=∃v e,Inv X a b e d/\RelV v u/\Q v e
def TP(X:Cx)(a:G (I×Obj))(d:St)(Q:Bool->Hp->Prop)(b:Bool)(e:UC):Prop:=∃f,Inv X a d f e/\Q b f
def AP(X:Cx)(a:G (I×Obj))(b:St)(Q:G V->Hp->Prop)(us:G U)(d:UC):Prop:=∃e f,Inv X a b f d/\Vals e us/\Q e f
def SP(X:Cx)(a:G (I×Obj))(D:Ends)(f:Flow)(b:UC):Prop:=
 match f with
 |.next=>∃d e,Inv X a d e b/\D.nx d e
 |.brk=>∃d e,Inv X a d e b/\D.bk d e
 |.cont=>∃d e,Inv X a d e b/\D.ct d e
 |.ret u=>∃v d e,Inv X a d e b/\RelV v u/\D.rt v e
def PE(X:Cx)(e:U4)(t:TE):Prop:=
 ∀(a:G (I×Obj)) (s:UC) (b:St) (H:Hp) (Q:VK),Inv X a b H s->t b H Q->wpAny (model X.prog X.w) X.A (eval e X.env) (EP X a b Q) X.xe s
def PT(X:Cx)(e:U4)(t:TT):Prop:=
 ∀(a:G (I×Obj)) (s:UC) (b:St) (H:Hp) (Q:Bool->Hp->Prop),Inv X a b H s->t b H Q->wpAny (model X.prog X.w) X.A (isTrue e X.env (eval e X.env)) (TP X a b Q) X.xe s
def PW(X:Cx)(e:U4)(t:TT):Prop:=
 ∀(b:Sem U) (a:G (I×Obj)) (s:UC) (d:St) (H:Hp) (Q:Bool->Hp->Prop),Inv X a d H s->t d H Q->wpAny (model X.prog X.w) X.A (isTrue e X.env b) (TP X a d Q) X.xe s
theorem PW.pt(h:PW X e t):PT X e t:=h _
def PA(X:Cx)(es:G U4)(t:TA):Prop:=
 ∀(d:Pos) (a:G (I×Obj)) (s:UC) (b:St) (H:Hp) (Q:G V->Hp->Prop),Inv X a b H s->t b H Q->wpAny (model X.prog X.w) X.A (spliced (backTo d (UW es X.env))) (AP X a b Q) X.xe s
def PS(X:Cx)(d:Wk)(t:TS):Prop:=
 ∀(a:G (I×Obj)) (s:UC) (b:St) (H:Hp) (D:Ends),Inv X a b H s->t D b H->wpAny (model X.prog X.w) X.A (exec d X.env) (SP X a D) X.xe s
def Z2(X:Cx)(d:G Wk)(t:TS):Prop:=
 ∀(a:G (I×Obj)) (s:UC) (b:St) (H:Hp) (D:Ends),Inv X a b H s->t D b H->wpAny (model X.prog X.w) X.A (execs d X.env) (SP X a D) X.xe s
theorem bT{α:Type}{t:Sem α}{Q b:α->UC->Prop}{M:adh}{A:Vb}{E:U->UC->Prop}{s:UC}(h:wpAny M A t Q E s)(d:∀a s,Q a s->b a s):wpAny M A t b E s:=wpAny_mono h d λ_ _ x=>x
section
variable{X:Cx}
def qK(i:Nat):TE:=λa H Q=>∃v,a[i]?=M (M v)/\Q v H
def tC(v:V):TE:=λ_ H Q=>Q v H
def Gj(q:X.N[i]?=M x)(o:QH X.env.scope x)(hd:(x==("__debug__":Str))=R:=by decide)(g:(x==("__classdict__":Str))=R:=by decide):PE X (.Name x pos) (qK i):=by
 intro d s n H Q I h;let(v,e,h):=h;let(m,t,p):=I.loc;let(u,r,l):=p i x v q e o;let b:EP X d n Q u s:=#[v,H,I,r,h];rcases l with⟨a,hm⟩|⟨a,c,j,f⟩
 .show ad2 (adi I.ok.kind a t hm b) hd
 .rcases a with a|a
  .show ad2 (adK I.ok.kind a j f b) hd
  .show ad2 (wpAny_loadName_free I.ok.kind a j f b g) hd
theorem xX{i j pos}:PE X (.Constant (.int i) j pos) (tC (.int i)):=λ_ _ _ H _ I h=>ad3 #[.int i,H,I.tok _,#[_,W],h]
theorem Rj{b j pos}:PE X (.Constant (.bool b) j pos) (tC (.bl b)):=λ_ _ _ H _ I h=>Constant_bool #[.bl b,H,I,W,h]
theorem xp{j pos}:PE X (.Constant .none j pos) (tC .WL):=λ_ _ _ H _ I h=>Constant_none #[.WL,H,I,W,h]
theorem Mh{x j pos}:PE X (.Constant (.str x) j pos) (tC (.str x)):=λ_ _ _ H _ I h=>Calls.Constant_str #[.str x,H,I.tok _,#[_,W],h]
def Gl(X:Cx)(x:Str):Prop:=X.env.kindOf x=M .globalImplicit
theorem jD(I:Inv X pins σ H s)(a:Gl X x)(hm:X.mg x=M u)(h:Q u s)
  (hd:(x==("__debug__":Str))=R:=by decide):wpAny (model X.prog X.w) X.A (eval (.Name x pos) X.env) Q E s:=
 Calls.Name_function_global I.ok.kind a (Calls.loadGlobal_global (by rw[I.ok.glob];show I.mod.glob.keeps I.bk) hm h) hd
def kI(I:Inv X pins σ H s)(b:Gl X x)(hm:X.mg x=P)(a:VF x=M u)(h:Q u s)
  (c:x≠ "__name__":=by decide) (hd:(x==("__debug__":Str))=R:=by decide):wpAny (model X.prog X.w) X.A (eval (.Name x pos) X.env) Q E s:=by
 let(f,e,d):=I.mod.blt;show Calls.Name_function_global I.ok.kind b (Calls.loadGlobal_builtin (by rw[I.ok.glob];show I.mod.glob.keeps I.bk) hm (by rw[I.ok.blt];show e.keeps I.bk) ((d x c).trans a) h) hd
theorem JL{x:Str}{v:V}{u:U}{a:Pos}(b:Gl X x)(hm:X.mg x=M u)(r:RelV v u)(hd:(x==("__debug__":Str))=R:=by decide):PE X (.Name x a) (tC v):=
 λ_ _ _ H _ I h=>jD I b hm #[v,H,I,r,h] hd
variable{a b:U4}{Z Y:TE}{O:Pos}
def PC(X:Cx)(op:ace)(a b:U4)(t:TE):Prop:=
 ∀(d:G (I×Obj)) (s:UC) (g:St) (H:Hp) (Q:VK),Inv X d g H s->t g H Q->
  wpAny (model X.prog X.w) X.A (eval a X.env) (λv f=>wpAny (model X.prog X.w) X.A (eval b X.env) (λu e=>wpAny (model X.prog X.w) X.A (We op v u) (EP X d g Q) X.xe e) X.xe f) X.xe s
def tB(t:TE):TT:=λd H Q=>t d H λx e=>∃c,x=.bl c/\Q c e
theorem xM(h:PC X op a b t)(g:behindInMarks op b=R:=by first|show o _ () ()|rfl):PE X (.Compare a [op] [b] O) t:=λd s e H Q I f=>ahu (h d s e H Q I f) g
def yf(h:PC X op a b t)(f:behindInMarks op b=R:=by first|show C _ () ()|rfl):PT X (.Compare a [op] [b] O) (tB t):=by intro e s g H Q I l;show acZ (bT (h e s g H _ I l) λv w f=>bT f λu r m=>bT m λc p a=>?_) f;let(x,o,n,i,j):=a;let(d,rfl,q):=j;ext i;show Wl #[o,n,q]
def Nt{e:U4}{t:TE}(h:PE X e t)(m:∀whole,isTrue e X.env whole=(do let v<-whole;standAt e.pos;holding [v] (truthy v)):=by intro _;rfl):PT X e (tB t):=by intro f s g H Q I l;show isTrue_plain (bT (h f s g H _ I l) λv p #[x,o,n,i,j]=>?_) (m _);let(d,rfl,q):=j;ext i;show Wl #[o,n,q]
variable{T S:TT}{U:bb U4}
def Ms(t u:TT):TT:=λd H Q=>t d H λc e=>if c=Uv then u d e Q else Q R e
def SG(t u:TT):TT:=λd H Q=>t d H λc e=>if c=Uv then Q Uv e else u d e Q
def Oc(t:TT):TT:=λd H Q=>t d H λc e=>Q (!c) e
def yL(j:PT X a T):PW X (.BoolOp .And [a] O) T:=by
 intro g d s f H Q I h;show isTrue_and (bT (j d s f H Q I h) λc i e=>?_);cases c with
 |true=>show isTrue_and_nil e
 |false=>show e
def Gg(j:PT X a T):PW X (.BoolOp .Or [a] O) T:=by
 intro g d s f H Q I h;show isTrue_or (bT (j d s f H Q I h) λc i e=>?_);cases c with
 |false=>show isTrue_or_nil e
 |true=>show e
def CD(k:PT X a T)(m:PW X (.BoolOp .And (b::U) O) S):PW X (.BoolOp .And (a::b::U) O) (Ms T S):=by
 intro j d s e H Q I h;show isTrue_and (bT (k d s e H _ I h) λc l a=>?_);let(i,g,f):=a;cases c with
 |true=>show m j d l e i Q g f
 |false=>show#[i,g,f]
def KR(k:PT X a T)(m:PW X (.BoolOp .Or (b::U) O) S):PW X (.BoolOp .Or (a::b::U) O) (SG T S):=by
 intro j d s e H Q I h;show isTrue_or (bT (k d s e H _ I h) λc l a=>?_);let(i,g,f):=a;cases c with
 |true=>show#[i,g,f]
 |false=>show m j d l e i Q g f
def MR(g:PT X a T):PT X (.UnaryOp .Not a O) (Oc T):=by intro d s e H Q I h;show isTrue_not (g d s e H (λc f=>Q (!c) f) I h)
def EW(Z Y:TE):TE:=λd H Q=>Z d H λx e=>∃c,x=.bl c/\if c=Uv then Y d e Q else Q (.bl R) e
def KY(Z:TE):TE:=λd H Q=>Z d H λx e=>∃c,x=.bl c/\Q (.bl (!c)) e
theorem LU{op}(h:PE X a t):PE X (.BoolOp op [a] O) t:=λd s e H Q I f=>BoolOp_one (h d s e H Q I f)
def BX(k:PE X a Z)(m:PE X (.BoolOp .And (b::U) O) Y):PE X (.BoolOp .And (a::b::U) O) (EW Z Y):=by
 intro d s f H Q I h;show BoolOp_and (bT (k d s f H _ I h) λv j a=>?_);let(x,i,g,l,e):=a;let(c,rfl,e):=e;ext l;show Wl ?_;cases c with
 |true=>show m d j f i Q g e
 |false=>show#[.bl R,i,g,W,e]
def Pc(k:PE X a Z):PE X (.UnaryOp .Not a O) (KY Z):=by intro d s f H Q I h;show UnaryOp_ (bT (k d s f H _ I h) λv l a=>?_);let(x,j,i,g,e):=a;let(c,rfl,e):=e;ext g;show not_of (Wl #[.bl (!c),j,i,W,e])
def Sj(t:TT)(Z Y:TE):TE:=λd H Q=>t d H λc e=>if c=Uv then Z d e Q else Y d e Q
def DB(m:PT X c T)(k:PE X a Z)(n:PE X b Y):PE X (.IfExp c a b O) (Sj T Z Y):=by
 intro e s f H Q I h;show wpAny_IfExp (bT (m e s f H _ I h) λd g a=>?_);let(l,j,i):=a;cases d with
 |true=>show k e g f l Q j i
 |false=>show n e g f l Q j i
end
def Yr(K:lD)(H:Hp)(a:I)(xs:G V):Prop:=
 Rd H a (.lst xs)\/
  ∃(o:Obj) (b:Array U) (n:Nat),K.lookup a=M o/\o.cls=.type "list"/\o.dict=P/\o.data=.seq b n/\b.size<=UK/\Vals xs b.toList
def Ya(K:lD)(H:Hp)(a:I)(xs:G V):Prop:=
 Rd H a (.tup xs)\/
  ∃(o:Obj) (b:Array U) (n:Nat),K.lookup a=M o/\(o.cls=.type "tuple"/\o.dict=P)/\o.data=.seq b n/\b.size<=UK/\Vals xs b.toList
def SM:U->z V
 |.none=>M .WL
 |.bool b=>M (.bl b)
 |.int i _=>M (.int i)
 |.str x _=>M (.str x)
 |.bytes b _=>M (.byt b)
 |.float b _=>M (.flt b)
 |.ref a=>M (.ref a)
 |.type n=>M (.ty n)
 |_=>P
def RelV.abs(r:RelV x u):SM u=M x:=by
 cases x with
 |WL=>ext r;rfl
 |bl _=>ext r;rfl
 |int _=>let(t,rfl):=r;rfl
 |str _=>let(t,rfl):=r;rfl
 |byt _=>let(t,rfl):=r;rfl
 |flt _=>let(t,rfl):=r;rfl
 |ref _=>ext r;rfl
 |ty _=>ext r;rfl
theorem RelV.inj(r:RelV x u)(q:RelV y u):x=y:=UT (r.abs.symm.trans q.abs)
theorem Vals.inj:∀{xs a:G V} {us:G U},Vals xs us->Vals a us->xs=a
 |_,_,_,.nil,.nil=>rfl
 |_,_,_,.cons r t,.cons d b=>by rw[r.inj d,Vals.inj t b]
section
variable{X:Cx}{Z:bb (Uz×Obj)}{Y:St}{H:Hp}{s:UC}{a:Uz}{T U:bb V}
theorem Yr.of{K:lD}(h:H a=M (.lst T)):Yr K H a T:=.inl (.inl h)
theorem Ya.of{K:lD}(h:H a=M (.tup T)):Ya K H a T:=.inl (.inl h)
def Inv.list(I:Inv X Z Y H s)(h:Yr X.K H a T):∃b:G Ut,Vals T b/\PlainL s.heap a b.toArray/\T.length<=UK:=by
 rcases h with h|⟨o,b,n,f,g,hd,d,i,r⟩
 .let(z,b,n,r,e):=h.ok I.VQ;show#[b,r,#[_,n,e,W,W,W],z]
 .show#[b.toList,r,#[o,n,I.ZJ a o f,g,hd,by simpa using d],?_];let e:=r.length;simp only[Vv]at e;ext
def Inv.tuple(I:Inv X Z Y H s)(h:Ya X.K H a T):∃b:G Ut,Vals T b/\IsTup s.heap a b.toArray/\T.length<=UK:=by
 rcases h with h|⟨o,b,n,f,g,d,i,r⟩
 .let(z,b,r,p):=h.ok I.VQ;show#[b,r,p.tup,z]
 .show#[b.toList,r,#[o,I.ZJ a o f,g.1,n,by simpa using d],?_];let e:=r.length;simp only[Vv]at e;ext
def Inv.aek(I:Inv X Z Y H s)(h:Ya X.K H a T):∃b:G Ut,Vals T b/\Zw s.heap a b.toArray/\T.length<=UK:=by
 rcases h with h|⟨o,b,n,g,d,f,i,r⟩
 .let(z,b,r,p):=h.ok I.VQ;show#[b,r,p,z]
 .show#[b.toList,r,#[o,I.ZJ a o g,#[d.1,n,by simpa using f],d.2],?_];let e:=r.length;simp only[Vv]at e;ext
def Inv.acG(I:Inv X Z Y H s)(h:Yr X.K H a T)(c:Yr X.K H a U):T=U:=by
 let(j,r,(o,n,e,_,_,d),_):=I.list h;let(b,i,(l,m,f,_,_,g),_):=I.list c;rw[e]at f;ext f;rw[d]at g;injection g with d1 _;let:j=b:=by simpa using ef ad4 d1
 subst this;show r.inj i
def Inv.ab5(I:Inv X Z Y H s)(h:Ya X.K H a T)(c:Ya X.K H a U):T=U:=by
 let(j,r,(o,e,_,n,d),_):=I.tuple h;let(b,i,(l,f,_,m,g),_):=I.tuple c;rw[e]at f;ext f;rw[d]at g;injection g with d1 _;let:j=b:=by simpa using ef ad4 d1
 subst this;show r.inj i
end
abbrev Cx.YH(X:Cx)(E:U->UC->Prop):Cx:={X with xe:=E}
abbrev Cx.nox(X:Cx):Cx:=X.YH λ_ _=>False
theorem Cx.Ok.YH{X:Cx}(ok:X.Ok)(E:U->UC->Prop):(X.YH E).Ok:=
 #[ok.mod,ok.kind,ok.glob,ok.blt,ok.above,ok.inj,ok.has,ok.cab,ok.hd,ok.frames,ok.stk,ok.exf,ok.bs,ok.bsz,ok.aaT,ok.aaR,ok.Y7,ok.frf]
theorem Cx.Ok.XT{X:Cx}(ok:(X.YH E).Ok):X.Ok:=
 #[ok.mod,ok.kind,ok.glob,ok.blt,ok.above,ok.inj,ok.has,ok.cab,ok.hd,ok.frames,ok.stk,ok.exf,ok.bs,ok.bsz,ok.aaT,ok.aaR,ok.Y7,ok.frf]
section
variable{X:Cx}{Z:bb (Uz×Obj)}{Y:St}{H:Hp}{s:UC}{E:Ut->UC->Prop}
theorem Inv.YH(I:Inv X Z Y H s)(E:U->UC->Prop):Inv (X.YH E) Z Y H s:=#[I.ok.YH E,I.os,I.bare,I.base,I.loc,I.cell,I.free,I.XH,I.pin,I.VQ,I.len]
theorem Inv.XT(I:Inv (X.YH E) Z Y H s):Inv X Z Y H s:=#[I.ok.XT,I.os,I.bare,I.base,I.loc,I.cell,I.free,I.XH,I.pin,I.VQ,I.len]
def SP.XT(h:SP (X.YH E) Z D f s'):SP X Z D f s':=by
 cases f with
 |next=>let(a,b,I,q):=h;show#[a,b,I.XT,q]
 |brk=>let(a,b,I,q):=h;show#[a,b,I.XT,q]
 |cont=>let(a,b,I,q):=h;show#[a,b,I.XT,q]
 |ret u=>let(v,a,b,I,r,q):=h;show#[v,a,b,I.XT,r,q]
theorem Z2.nox{a:G Wk}(h:Z2 X.nox a t):Z2 X a t:=λZ s Y H D I b=>
 wpAny_mono (h Z s Y H D (I.YH _) b) (λ_ _ q=>q.XT) λ_ _ z=>False.elim z
end
section
variable{X:Cx}{U:Wk}{Y:bb Wk}{t u:TS}{e:U4}{Z:TE}{T:Pos}
def Ep:TS:=λD a H=>D.nx a H
def Fm(t u:TS):TS:=λD a H=>t {D with nx:=u D} a H
theorem y0:Z2 X [] Ep:=λ_ _ a H _ I h=>X5 #[a,H,I,h]
def lM(j:PS X U t)(i:Z2 X Y u):Z2 X (U::Y) (Fm t u):=by
 intro a s d H D I h;show afg (bT (j a s d H {D with nx:=u D} I h) λf g q=>?_);cases f with
 |next=>let(b,m,l,q):=q;show i a g b m D l q
 |ret v=>show q
 |brk=>show q
 |cont=>show q
def lG(d:PS X U t):Z2 X [U] t:=by
 intro a s b H D I h;show afg (bT (d a s b H D I h) λf g q=>?_);cases f with
 |next=>show X5 q
 |ret v=>show q
 |brk=>show q
 |cont=>show q
def Inv.quiet{a:G (Uz×Obj)}{b:St}{H:Hp}{s:UC}(I:Inv X a b H s):interactive X.env=R:=by simp[interactive,I.ok.kind]
def vv(Z:TE):TS:=λD a H=>Z a H λ_ b=>D.nx a b
def Am(g:PE X e Z)(f:W0 e P T.line X.env=pure R:=by rfl):PS X (.Expr e T) (vv Z):=by intro a s b H D I h;show wpAny_Expr_any (bT (g a s b H _ I h) λv l #[x,j,i,m,d]=>#[b,j,i,d]) I.quiet f
def JK(Z:TE):TS:=λD a H=>Z a H D.rt
def Ff(g:PE X e Z):PS X (.Return (M e) T) (JK Z):=by intro a s b H D I h;show wpAny_Return_some (bT (g a s b H _ I h) λv l #[x,j,i,d,f]=>#[x,b,j,i,d,f])
def Lj:TS:=λD _ H=>D.rt .WL H
theorem Kl:PS X (.Return P T) Lj:=λ_ _ a H _ I h=>wpAny_Return_none #[.WL,a,H,I,W,h]
def Hd(c:TT)(t u:TS):TS:=λD a H=>c a H λb d=>if b=S then t D a d else u D a d
def Ra(n:PT X c C)(k:Z2 X a t)(o:Z2 X b u):PS X (.If c a b T) (Hd C t u):=by
 intro f s g H D I h;show wpAny_If (bT (n f s g H _ I h) λd i a=>?_);let(m,l,j):=a;cases d with
 |true=>show k f i g m D l j
 |false=>show o f i g m D l j
def CW:TS:=λ_ _ _=>False
theorem CJ:PS X U CW:=λ_ _ _ _ _ _ h=>h.elim
end
abbrev TG:=V->St->Hp->(St->Hp->Prop)->Prop
abbrev xK:=G V->St->Hp->(St->Hp->Prop)->Prop
def PG(X:Cx)(a:U4)(t:TG):Prop:=
 ∀(b:G (I×Obj)) (s:UC) (d:St) (H:Hp) (v:V) (u:U) (Q:St->Hp->Prop),Inv X b d H s->RelV v u->t v d H Q->
  wpAny (model X.prog X.w) X.A (assign a X.env u) (λ_ e=>∃f g,Inv X b f g e/\Q f g) X.xe s
def QL(X:Cx)(e:G U4)(t:xK):Prop:=
 ∀(a:G (I×Obj)) (s:UC) (b:St) (H:Hp) (h:G V) (d:G U) (Q:St->Hp->Prop),Inv X a b H s->Vals h d->t h b H Q->
  wpAny (model X.prog X.w) X.A (assignInOrder ((assignEach e X.env).map (·.2)) d) (λ_ f=>∃g i,Inv X a g i f/\Q g i) X.xe s
abbrev SH:=V->V->Hp->VK->Prop
def R0(X:Cx)(op:aba)(t:SH):Prop:=
 ∀(a:G (I×Obj)) (s:UC) (b:St) (H:Hp) (x y:V) (v u:U) (Q:VK),Inv X a b H s->RelV x v->RelV y u->t x y H Q->
  wpAny (model X.prog X.w) X.A (inplaceOp op v u) (EP X a b Q) X.xe s
section
variable{X:Cx}{Z:Pos}
def lV(i:Nat):TG:=λv a H Q=>Q (a.set i (M v)) H
def IR(c:X.N.Nodup)(b:X.N[i]?=M x)(a:Oq X.env.scope x)(hf:X.fn x=S\/X.env.scope.names.lookup x=M .local:=by first|show .inl W|show .inr W|assumption):PG X (.Name x Z) (lV i):=by intro pins s σ H v u Q I r h;show aeJ (pG I c b a r (λe d=>#[_,H,d,h]) hf)
def Jf:xK:=λb a H Q=>b=[]/\Q a H
def zX(t:TG)(u:xK):xK:=λe b H Q=>∃v r,e=v::r/\t v b H λa d=>u r a d Q
def GW:QL X [] Jf:=by intro a s b H f d Q I r h;let(e,h):=h;subst e;ext r;show assignInOrder_nil #[b,H,I,h]
def F7(m:PG X e t)(l:QL X es u)
  (j:(assignEach (e::es) X.env).map (·.2)=assign e X.env::(assignEach es X.env).map (·.2):=by rfl):QL X (e::es) (zX t u):=by
 intro a s d H w q Q I r h;let(v,p,e1,h):=h;subst e1;cases r with
 |cons r g=>rw[j];show assignInOrder_cons (bT (m a s d H _ _ _ I r h) λ_ f a=>?_);let(b,o,n,i):=a;show l a f b o _ _ Q n g i
def Hn(K:lD)(n:Nat)(t:xK):TG:=λv b H Q=>∃a xs,v=.ref a/\Ya K H a xs/\xs.length=n/\t xs b H Q
def Pg(p:X.calm=S)(h:QL X es t)
  (c:(assignEach es X.env).length=n:=by rfl) (cX:(assignEach es X.env).findIdx? (·.1)=P:=by rfl):PG X (.Tuple es k Z) (Hn X.K n t):=by
 intro d s g H v u Q I r f;let(a,xs,e1,l,m,f):=f;subst e1;ext r;let(z,A,j,w):=I.tuple l;show assign_Tuple_tuple (I.ok.hd p) j (by simp[c,<-m,A.length]) cX λy i=>?_;let q:=I.kept (t':=s.toks) λb o e=>i b o (U3 (b4 e)) e;show h d _ g H xs _ Q q (by simpa using A) f
def sG(b:TE)(g:TG):TS:=λD a H=>b a H λx d=>g x a d D.nx
def NC(n:PE X e J)(m:PG X C g)(l:swapsWithSole [C] e Z.line X.env=pure R:=by rfl)(j:swappedStores [C] e X.env=pure P:=by rfl)
  (o:(assignEach [C] X.env).map (·.2)=[assign C X.env]:=by rfl):PS X (.Assign [C] e Z) (sG J g):=by
 intro a s b H D I h;show wpAny_Assign_stores (bT (n a s b H _ I h) λv d a=>?_) l j;let(x,r,p,f,i):=a;rw[o];show bT (m a d b r x v _ p f i) λ_ t q=>q
def qA{i:Nat}{x:Str}{e:U4}{a:TE}{pos':Pos}(j:X.N.Nodup)(g:X.N[i]?=M x)(c:Oq X.env.scope x)(he:PE X e a)(f:W0 e (M (.Name x pos')) Z.line X.env=pure R:=by rfl)(hf:X.fn x=S\/X.env.scope.names.lookup x=M .local:=by first|show .inl W|show .inr W|assumption):
  PS X (.Assign [.Name x pos'] e Z) (sG a (lV i)):=by
 intro pins s σ H D I h;show wpAny_Assign_Name (bT (he pins s σ H _ I h) λv s1 a=>?_) f;let(y,H1,m,b,d):=a;show pG m j g c b (λs2 l=>#[_,H1,l,d]) hf
def Ql(i:Nat)(b:TE)(c:SH):TS:=λD a H=>∃x,a[i]?=M (M x)/\b a H λy e=>c x y e λz d=>D.nx (a.set i (M z)) d
def MD(F:X.N.Nodup)(n:X.N[i]?=M x)(g:Oq X.env.scope x)(he:PE X e C)(B:R0 X op o)(hf:X.fn x=S\/X.env.scope.names.lookup x=M .local:=by first|show .inl W|show .inr W|assumption):
  PS X (.AugAssign (.Name x pos') op e Z) (Ql i C o):=by
 intro pins s σ H D I h;let(v,e1,h):=h;let(m,E,J):=I.loc;let f:QH X.env.scope x:=by rcases g with k|k;show .inl k;show .inr (.inl k)
 let(u,r,l):=J i x v n e1 f;show wpAny_AugAssign_Name ?_;let go:wpAny (model X.prog X.w) X.A (eval e X.env) (λw d=>wpAny (model X.prog X.w) X.A (inplaceOp op u w) (λr b=>wpAny (model X.prog X.w) X.A (storeName X.env x r) (λ_=>SP X pins D .next) X.xe b) X.xe d) X.xe s:=by show bT (he pins s σ H _ I h) λw s1 #[y,H1,O,q,A]=>?_;show bT (B pins s1 σ H1 v y u w _ O r q A) λz s2 a=>?_;let(T,Q,N,p,t):=a;show pG N F n g p (λs3 L=>#[_,Q,L,t]) hf
 rcases l with⟨a,hm⟩|⟨a,c,K,j⟩
 .show adi I.ok.kind a E hm go
 .rcases a with a|a
  .show adK I.ok.kind a K j go
  .rcases g with k|k
   .let:X.env.scope.names.lookup x=M .free:=a;rw[k]at this;ext this
   .let:X.env.scope.names.lookup x=M .free:=a;rw[k]at this;ext this
def Ta(f:Int->Int->Int):SH:=λx y H Q=>∃i j,x=.int i/\y=.int j/\Q (.int (f i j)) H
def OD:R0 X .Add (Ta λi j=>i+j):=by intro a s e H x y v u Q I d b h;let(i,j,e1,e2,q):=h;subst e1;subst e2;let(t,rfl):=d;let(f,rfl):=b;show iadd_int #[.int _,H,I.tok _,#[_,W],q]
end
section
variable{X:Cx}{Z:Pos}
def DM(c:TT)(h:TS):TS:=λD a H=>∃W:Nat->St->Hp->Prop,(∃m,W m a H)/\∀m a H,W m a H->
 c a H λb d=>if b=S then∃N:St->Hp->Prop,(∀e g,N e g->∃f,f<m/\W f e g)/\h {D with nx:=N,ct:=N,bk:=D.nx} a d else D.nx a d
def Fp(q:aao (model X.prog X.w) X.A X.env X.xe)(K:PT X c tc)(L:Z2 X body tb):PS X (.While c body [] Z) (DM tc tb):=by
 intro d s z H D I h;let(W,(J,C),turn):=h;show wpAny_While (codeAny_whileLoop (λn G=>∃w A,Inv X d w A G/\W n w A) ?_ J #[z,H,I,C]);rintro n F ⟨e,y,M,B⟩;show WZ q (bT (K d F e y _ M (turn n e y B)) λb E a=>?_);let(u,t,j):=a;cases b with
 |true=>
  let(N,r,j):=j;rw[ax rfl];show WZ q (bT (L d E e u _ t j) λf O i=>?_);cases f with
  |next=>let(a,g,p,m):=i;let(o,hm,l):=r a g m;show#[o,hm,a,g,p,l]
  |cont=>let(a,g,p,m):=i;let(o,hm,l):=r a g m;show#[o,hm,a,g,p,l]
  |brk=>show i
  |ret v=>show i
 |false=>rw[aE UQ];show X5 #[e,u,t,j]
end
structure It where
 go:Nat->Hp->Prop
 yld:Nat->Hp->V->Hp->Prop
 stop:Nat->Hp->Prop
def lA(X:Cx)(a:G (I×Obj))(H:Hp)(b:I):Prop:=
 H b=P/\b≠X.env.locals/\b∉X.fs/\(b∈X.ex\/X.s₀.heap.objs.size<=b)/\(∀x c,X.env.cells.lookup x=M c->c≠b)/\∀p∈X.pn++a,p.1≠b
def Inv.aaS(I:Inv X pins σ H s)(a:s.heap.objs.size<=b)(f:H' b=P):lA X pins H' b:=by
 show#[f,VI (U1 I.lt a),I.ah5 a,.inr (Vk I.sz a),λx c e z=>?_,λp d z=>?_]
 .let(v,q):=I.cell x c e;show a7 (U1 q.lt (by rw[z];show a)) (VT _)
 .show a7 (U1 (b4 (I.pin p d).1) (by rw[z];show a)) (VT _)
structure Turn(P:UZ)(w:Vf)(K:lD)(tg:U4)(J:It)(fp:G I)(it:I)(tn:Nat->Heap->Prop):Prop where
 mem:it∈fp
 obj:∀i h,tn i h->∀b∈fp,∃o,h.get? b=M o/\∀v,o.data≠.cell v
 keep:∀i h h',tn i h->(∀b∈fp,∀o,h.get? b=M o->h'.get? b=M o)->tn i h'
 item:∀(X:Cx),X.prog=P->X.w=w->X.K=K->X.calm=S->∀(i:Nat) (pins:G (I×Obj)) (s:UC) (σ:St) (H:Hp) (E:U->UC->Prop),Inv X pins σ H s->(∀b∈fp,lA X pins H b)->tn i s.heap->J.go i H->
  wpAny (model P w) X.A (pyNext (.ref it)) (λr s1=>∃u,r=M u/\
   wpAny (model P w) X.A (letOwnedTupleGo tg (.ref it) u) (λ_ s2=>∃x H',Inv X pins σ H' s2/\RelV x u/\J.yld i H x H'/\tn (i+1) s2.heap/\∀b∈fp,H' b=Ld) E s1) E s
 done:∀(X:Cx),X.prog=P->X.w=w->X.K=K->X.calm=S->∀(i:Nat) (pins:G (I×Obj)) (s:UC) (σ:St) (H:Hp) (E:U->UC->Prop),Inv X pins σ H s->(∀b∈fp,lA X pins H b)->tn i s.heap->J.stop i H->
  wpAny (model P w) X.A (pyNext (.ref it)) (λr s1=>r=Ld/\Inv X pins σ H s1) E s
 self:∀(A:Vb) (i:Nat) (s:UC) (Q:U->UC->Prop) (E:U->UC->Prop),tn i s.heap->Q (.ref it) s->wpAny (model P w) A (pyIter (.ref it)) Q E s
abbrev TI:=St->Hp->(It->Hp->Prop)->Prop
def Tr(X:Cx)(a:G (I×Obj))(j:St)(l:U4)(R:It->Hp->Prop)(d:U)(g:UC):Prop:=
 ∃(h:I) (i:G I) (f:Nat->Heap->Prop) (J:It) (e:Hp),d=.ref h/\Inv X a j e g/\Turn X.prog X.w X.K l J i h f/\f 0 g.heap/\(∀b∈i,lA X a e b)/\R J e
def PI(X:Cx)(f b:U4)(e:TI):Prop:=
 ∀(a:G (I×Obj)) (s:UC) (d:St) (H:Hp) (R:It->Hp->Prop),Inv X a d H s->e d H R->
  wpAny (model X.prog X.w) X.A (eval b X.env) (λv g=>wpAny (model X.prog X.w) X.A (pyIter v) (Tr X a d f R) X.xe g) X.xe s
def Gp{M:adh}{A:Vb}{E:U->UC->Prop}{s:UC}{b:U4}{it:I}{u:U}{o:Obj}{n:String}{c:Array U}{Q:Unit->UC->Prop}(d:s.heap.get? it=cL o)(e:o.cls=.type n)(hd:o.data=.fields c)
  (f:["enumerate","zip","dict_itemiterator","dict_reverseitemiterator","odict_iterator","itertools.zip_longest","itertools.pairwise"].contains n=R) (a:Q ⟨⟩ s):wpAny M A (letOwnedTupleGo b (.ref it) u) Q E s:=by
 ext letOwnedTupleGo;ext b<;>first
  |show UD a
  |(ext u<;>first
    |show UD a
    |(show CL (ad5 d ?_)
      rw[e,hd];show wpAny M A (if(["enumerate","zip","dict_itemiterator","dict_reverseitemiterator","odict_iterator","itertools.zip_longest","itertools.pairwise"].contains n&&c[0]? ==cL (rawInt _))=S then _ else _) Q E s;rw[aE (by intro h;rw[f,X0]at h;ext h)];show UD a))
def Sx(K:lD)(a:I):It:=
 #[λi H=>∃xs x,Yr K H a xs/\xs[i]?=M x,λi H x b=>b=H/\∀xs,Yr K H a xs->xs[i]?=M x,λi H=>∃xs,Yr K H a xs/\xs.length<=i]
def S5(K:lD)(a:I):It:=
 #[λi H=>∃xs x,Ya K H a xs/\xs[i]?=M x,λi H x b=>b=H/\∀xs,Ya K H a xs->xs[i]?=M x,λi H=>∃xs,Ya K H a xs/\xs.length<=i]
def RU(lo:Int)(n:Nat):It:=#[λi _=>i<n,λi H x a=>a=H/\x=.int (lo+i),λi _=>n<=i]
theorem AL{K:lD}(a it:Uz):Turn Pz0 w K tg (Sx K a) [it] it (λi h=>h.IsListIter it a i) where
 mem:=by simp
 obj:=λi h f b g=>by
  let e:b=it:=by simpa using g
  subst e;let(o,e,c,d):=f;show#[o,e,λv z=>by rw[d]at z;ext z]
 keep:=λi h M f k=>f.at λo e=>k it (by simp) o e
 item:=by intro X y r A L i l s N H E I n f t;subst y r A;let(xs,x,m,q):=t;let(Z,rv,p,R):=I.list m;let(u,T,Q):=rv.get q;let(J,G,U,F,C,B):=n it (by simp);show wpAny_pyNext_list_item f p.isList (by simpa using T) λM j O=>?_;let I1:=I.turned (t':=s.toks) (λb o g e=>(O.2 b g).trans e) J G F C B;let(o,e,c,d):=id j;show#[u,W,Gp e c d () #[x,H,I1,Q,#[W,λys S=>by rw[I.acG S m];show q],j,λb g=>(n b g).1]]
 done:=by intro X y r A L i l s N H E I n f t;subst y r A;let(xs,m,q):=t;let(Z,rv,p,R):=I.list m;let(J,G,U,F,C,B):=n it (by simp);let hl:=rv.length;show wpAny_pyNext_list_end (I.ok.hd L) f p.isList (by simp;ext) λM Y=>#[W,I.turned (λb o g e=>Y b o g e) J G F C B]
 self:=λ_ _ _ _ _ f h=>wpAny_pyIter_listiter f h
theorem xS{K:lD}(a it:Uz):Turn Pz0 w K tg (S5 K a) [it] it (λi h=>h.IsTupleIter it a i) where
 mem:=by simp
 obj:=λi h f b g=>by
  let e:b=it:=by simpa using g
  subst e;let(o,e,c,d):=f;show#[o,e,λv z=>by rw[d]at z;ext z]
 keep:=λi h N f k=>f.at λo e=>k it (by simp) o e
 item:=by intro X y r A M i l s O H E I n f t;subst y r A;let(xs,x,m,q):=t;let(L,rv,p,S):=I.tuple m;let(u,U,R):=rv.get q;let(J,G,Y,F,C,B):=n it (by simp);show wpAny_pyNext_tuple_item f (show s.heap.IsTuple a L.toArray from p) (by simpa using U) λN j Q=>?_;let I1:=I.turned (t':=s.toks) (λb o g e=>(Q.2 b g).trans e) J G F C B;let(o,e,c,d):=id j;show#[u,W,Gp e c d () #[x,H,I1,R,#[W,λys T=>by rw[I.ab5 T m];show q],j,λb g=>(n b g).1]]
 done:=by intro X y r A M i l s O H E I n f t;subst y r A;let(xs,m,q):=t;let(L,rv,p,S):=I.tuple m;let(J,G,Y,F,C,B):=n it (by simp);let hl:=rv.length;show wpAny_pyNext_tuple_end (I.ok.hd M) f (show s.heap.IsTuple a L.toArray from p) (by simp;ext) λN Z=>#[W,I.turned (λb o g e=>Z b o g e) J G F C B]
 self:=λ_ _ _ _ _ f h=>wpAny_pyIter_tupleiter f h
theorem yr{K:lD}(it:Uz)(lo:Int)(n:Nat):Turn T w K tg (RU lo n) [it] it (λi h=>IsRangeIter h it (lo+(i:Nat)*1) ((n:Int) - (i:Nat)) 1) where
 mem:=by simp
 obj:=λi h a b f=>by
  let e:b=it:=by simpa using f
  subst e;show#[_,a,λv z=>by let J:=z;ext J]
 keep:=λi h u a k=>k it (by simp) _ a
 item:=by intro X q l r p i d s G H E I j a m;subst q l r;let(F,C,O,B,A,y):=j it (by simp);let W:=aeK.range (prog:=X.prog) (w:=X.w) (I.ok.hd p) it lo 1 n;show W.item i s _ _ m a λv u L N g M=>?_;let(t,rfl):=N;let R:Inv X d G H {s with heap:=u,toks:=L}:=I.turned (λb o f e=>M b o (by simpa using f) e) F C B A y;show#[_,rfl,Gp g rfl rfl () #[.int (lo+i),H,R,#[t,?_],#[rfl,rfl],g,λb f=>(j b f).1]];rw[Int.mul_one]
 done:=by intro X q l r p i d s G H E I j a m;subst q l r;let(F,C,O,B,A,y):=j it (by simp);show wpAny_pyNext_range_end (I.ok.hd p) a (by let:n<=i:=m;ext) λu Q=>#[rfl,I.turned (λb o f e=>Q b o f e) F C B A y]
 self:=λ_ _ _ _ _ a h=>wpAny_pyIter_rangeiter a h
section
variable{X:Cx}{Z:U4}
def Fu{a:G (Uz×Obj)}{d:St}{H:Hp}{s:UC}{R:It->Hp->Prop}{E:U->UC->Prop}{lo c:Int}{t u v:Tok}{f:Nat}(I:Inv X a d H s)(m: -(2^62)<=lo)(l:lo<2^62)(j: -(2^62)<=c)(i:c<2^62)
  (q:R (RU lo (c - lo).toNat) H):wpAny (model X.prog X.w) X.A (pyIter (.ref s.heap.objs.size)) (Tr X a d Z R) E {s with heap:=s.heap.push {cls:=.type "range",data:=.fields #v[.int lo t,.int c u,.int 1 v]},toks:=f}:=by
 show wpAny_pyIter_range (IsRange.new ..) (small_one m l j i) ?_;let g:Inv X a d H {s with heap:=s.heap.push {cls:=.type "range",data:=.fields #v[.int lo t,.int c u,.int 1 v]},toks:=f}:=I.kept λb o e=>b3 _ e;show#[(s.heap.push {cls:=.type "range",data:=.fields #v[.int lo t,.int c u,.int 1 v]}).objs.size,[(s.heap.push {cls:=.type "range",data:=.fields #v[.int lo t,.int c u,.int 1 v]}).objs.size],_,_,H,W,
  g.kept (t':=f) λb o e=>b3 _ e,yr _ lo (c - lo).toNat,?_,λb h=>?_,q]
 .let e1:lo+((0:Nat):Int)*1=lo:=by simp
  let e2:(((c - lo).toNat:Nat):Int) - ((0:Nat):Int)=Builtin.Range.rangeSize lo c 1:=by rw[rangeSize_one];split<;>ext
  show IsRangeIter _ _ (lo+((0:Nat):Int)*1) ((((c - lo).toNat:Nat):Int) - ((0:Nat):Int)) 1;rw[e1,e2];show cc _ W
 .let e:b=(s.heap.push {cls:=.type "range",data:=.fields #v[.int lo t,.int c u,.int 1 v]}).objs.size:=by simpa using h
  subst e;show g.aaS (UG _) (g.VQ.fresh (UG _))
def Ly(c:TA):TI:=λa H R=>c a H λd b=>∃j:Int,d=[.int j]/\ -(2^62)<=j/\j<2^62/\R (RU 0 j.toNat) b
def Bj(n:Gl X "range")(hm:X.mg "range"=P)(c:PA X [a] C)(m:UW [a] X.env=[(Ux,eval a X.env)]:=by rfl):PI X Z (.Call (.Name "range" p) [a] [] pos) (Ly C):=by
 intro b s f H R I h;show Call_ (kI I n hm boot_range (Wd (bT (c pos b s f H _ I h) λu v #[y,w,o,i,d]=>?_) m W));let(j,e,d,l,q):=d;subst e;cases i with
 |cons r g=>ext g;let(t,rfl):=r;show call_range_1 (Fu o () () d l (by simpa using q))
def Iw(d:TI)(g:TG)(c:TS):TS:=λD a H=>d a H λJ f=>∃W:Nat->Nat->St->Hp->Prop,(∃m,W 0 m a f)/\∀i m a H,W i m a H->
 (J.stop i H/\D.nx a H)\/(J.go i H/\∃N:St->Hp->Prop,(∀h j,N h j->∃l,l<m/\W (i+1) l h j)/\∀x j,J.yld i H x j->g x a j λb e=>c {D with nx:=N,ct:=N,bk:=D.nx} b e)
def qO(a:G I)(h:Heap):G (I×Obj):=a.filterMap λb=>(h.get? b).map λo=>(b,o)
theorem iW(a:b∈C)(e:h.get? b=M o):(b,o)∈qO C h:=X1.mpr #[b,a,by rw[e];rfl]
def AM(a:p∈qO C h):p.1∈C/\h.get? p.1=M p.2:=by
 let(b,d,e):=X1.mp a;cases q:h.get? b with
 |none=>rw[q]at e;ext e
 |some o=>rw[q]at e;let f:=UT e;subst f;show#[d,q]
theorem Inv.pinned(I:Inv X pins σ H s)(i:∀b∈fp,lA X pins H b)(h:∀b∈fp,∃o,s.heap.get? b=M o/\∀v,o.data≠.cell v):Inv X (pins++qO fp s.heap) σ H s:=
 I.aat λp g=>(Vg.mp g).elim (λz=>I.pin p (Vp _ z)) λz=>by let(a,e):=AM z;let(m,l,j,_):=i p.1 a;let(o,f,d):=h p.1 a;rw[e]at f;ext f;show#[e,m,l,j,d]
theorem Inv.Zn(I:Inv X (pins++pl) σ H s):Inv X pins σ H s:=I.aat λp a=>I.pin p (Vp _ (Wc _ a))
def OQ(L:aao (model X.prog X.w) X.A X.env X.xe)(c:X.calm=Uv)(V:PI X Z iter wi)(hg:PG X Z g)(p:Z2 X body tb)
  (k:∀x,foldedSetIterable iter X.env x=pure x:=by intro _;rfl):PS X (.For Z iter body [] pos) (Iw wi g tb):=by
 intro j s σ H D I h;show wpAny_For (bT (V j s σ H _ I h) λv s1 h1=>bT h1 λitv s2 h2=>?_) k;let(it,O,tn,J,H2,e,I2,T,R,f2,W,(m0,w0),turn):=h2;subst e;let E:∀{z:Hp},(∀b∈O,z b=Ld)->∀b∈O,lA X j z b:=λhn b p=>#[hn b p,(f2 b p).2];show codeAny_forLoop_any (λn s'=>∃i A z,Inv X j A z s'/\tn i s'.heap/\(∀b∈O,z b=Ld)/\W i n A z) ?_ m0 #[0,σ,H2,I2,R,λb p=>(f2 b p).1,w0];rintro n s3 ⟨i,l,P,I3,G,M,w3⟩;rcases turn i n l P w3 with⟨F,qn⟩|⟨go,N,hN,step⟩
 .show WZ L (bT (T.done X rfl rfl rfl c i j s3 l P X.xe I3 (E M) G F) λr s4 #[w,I4]=>?_);subst w;show X5 #[l,P,I4,qn]
 .show WZ L (bT (T.item X rfl rfl rfl c i j s3 l P X.xe I3 (E M) G go) λr s4 #[u,w,h4]=>?_)
  subst w;show WZ L (bT h4 λ_ s5 a=>?_);let(x,H5,I5,r5,y5,C,Y):=a;let I5':=I5.pinned (E Y) (T.obj _ _ C);show WZ L (bT (hg _ s5 l H5 x u _ I5' r5 (step x H5 y5)) λ_ s6 a=>?_);let(Q,H6,I6,q6):=a;show WZ L (bT (p _ s6 Q H6 _ I6 q6) λf S B=>?_);let q:∀{a:St} {y:Hp},Inv X (j++qO O s5.heap) a y S->N a y->∃m,m<n/\∃i A z,Inv X j A z S/\tn i S.heap/\(∀b∈O,z b=Ld)/\W i m A z:=λ{a y} t K=>by let(m',hm,w7):=hN a y K;show#[m',hm,i+1,a,y,t.Zn,T.keep _ _ _ C λb p o e=>(t.pin (b,o) (Vp _ (Vp _ (iW p e)))).1,λb p=>?_,w7];let(o,e,d):=T.obj _ _ C b p;show(t.pin (b,o) (Vp _ (Vp _ (iW p e)))).2.1
  cases f with
  |next=>let(a,y,t,K):=B;show q t K
  |cont=>let(a,y,t,K):=B;show q t K
  |brk=>let(a,y,t,B):=B;show#[a,y,t.Zn,B]
  |ret v=>let(x7,a,y,t,r7,B):=B;show#[x7,a,y,t.Zn,r7,B]
end
abbrev R2:=V->V->Hp->VK->Prop
def OpR(X:Cx)(f:U->U->Sem U)(r:R2):Prop:=
 ∀(a:G (I×Obj)) (s:UC) (b:St) (H:Hp) (x y:V) (v u:U) (Q:VK),Inv X a b H s->RelV x v->RelV y u->r x y H Q->
  wpAny (model X.prog X.w) X.A (f v u) (EP X a b Q) X.xe s
def S0(X:Cx)(f:U->Sem U)(r:V->Hp->VK->Prop):Prop:=
 ∀(a:G (I×Obj)) (s:UC) (b:St) (H:Hp) (x:V) (v:U) (Q:VK),Inv X a b H s->RelV x v->r x H Q->
  wpAny (model X.prog X.w) X.A (f v) (EP X a b Q) X.xe s
def W3(X:Cx)(f:U)(r:G V->Hp->VK->Prop):Prop:=
 ∀(a:G (I×Obj)) (s:UC) (b:St) (H:Hp) (xs:G V) (d:G U) (Q:VK),Inv X a b H s->Vals xs d->r xs H Q->
  wpAny (model X.prog X.w) X.A (call f d) (EP X a b Q) X.xe s
def GI(r:R2)(e c:TE):TE:=λa H Q=>e a H λx d=>c a d λy b=>r x y b Q
def Tf(r:V->Hp->VK->Prop)(c:TE):TE:=λa H Q=>c a H λx b=>r x b Q
def rI(C:Int->Int->Prop)(g:Int->Int->V):R2:=λx y H Q=>∃i j,x=.int i/\y=.int j/\C i j/\Q (g i j) H
def uE(g:Int->Int->V):R2:=λx y H Q=>∃i j,x=.int i/\y=.int j/\Q (g i j) H
def rU(g:Int->V):V->Hp->VK->Prop:=λx H Q=>∃i,x=.int i/\Q (g i) H
section
variable{X:Cx}{a b c:U4}{Z Y O:TE}{T:Pos}
def Pu(r:PE X a Z)(m:PE X b Y){R:V->V->Hp->Prop}(I:Inv X pins σ H s)
  (h:Z σ H λx H1=>Y σ H1 λy k=>R x y k) {f:U->U->Sem U}
  (l:∀v u s2 x y k,Inv X pins σ k s2->RelV x v->RelV y u->R x y k->wpAny (model X.prog X.w) X.A (f v u) Q X.xe s2):
  wpAny (model X.prog X.w) X.A (eval a X.env) (λv q=>wpAny (model X.prog X.w) X.A (eval b X.env) (λu p=>wpAny (model X.prog X.w) X.A (f v u) Q X.xe p) X.xe q) X.xe s:=by
 show bT (r pins s σ H _ I h) λv d a=>?_;let(x,H1,o,g,j):=a;show bT (m pins d σ H1 _ o j) λu s2 a=>?_;let(y,k,n,e,i):=a;show l v u s2 x y k n g e i
def P1(j:OpR X (V8 op) r)(k:PE X a Z)(l:PE X b Y):PE X (.BinOp a op b T) (GI r Z Y):=by intro d s e H Q I h;show wpAny_BinOp (Pu k l I h λv u f x y n m i g q=>j d f e n x y v u Q m i g q)
def QF(j:S0 X (unaryOp op) r)(k:PE X a Z):PE X (.UnaryOp op a T) (Tf r Z):=by intro d s e H Q I h;show UnaryOp_ (bT (k d s e H _ I h) λv f #[x,m,l,g,i]=>j d f e m x v Q l g i)
def PB{g:Int->Int->Int}
  (d:∀(i j:Int) (t u:Tok) (s:UC) (Q:U->UC->Prop) (E:U->UC->Prop),C i j->Q (.int (g i j) s.toks) {s with toks:=s.toks+1}->wpAny (model X.prog X.w) X.A (f (.int i t) (.int j u)) Q E s):
  OpR X f (rI C λi j=>.int (g i j)):=by
 intro e s p H x y v u Q I n m h;let(i,j,rfl,rfl,o,q):=h;let(t,rfl):=n;let(l,rfl):=m;show d i j t l s _ _ o #[.int (g i j),H,I.tok _,#[_,W],q]
def M0{g:Int->Int->Int}
  (d:∀(i j:Int) (t u:Tok) (s:UC) (Q:U->UC->Prop) (E:U->UC->Prop),Q (.int (g i j) s.toks) {s with toks:=s.toks+1}->wpAny (model X.prog X.w) X.A (f (.int i t) (.int j u)) Q E s):
  OpR X f (uE λi j=>.int (g i j)):=by
 intro e s o H x y v u Q I n m h;let(i,j,rfl,rfl,q):=h;let(t,rfl):=n;let(l,rfl):=m;show d i j t l s _ _ #[.int (g i j),H,I.tok _,#[_,W],q]
def G6{g:Int->Int->Bool}
  (d:∀(i j:Int) (t u:Tok) (s:UC) (Q:U->UC->Prop) (E:U->UC->Prop),Q (.bool (g i j)) s->wpAny (model X.prog X.w) X.A (f (.int i t) (.int j u)) Q E s):
  OpR X f (uE λi j=>.bl (g i j)):=by
 intro e s o H x y v u Q I n m h;let(i,j,rfl,rfl,q):=h;let(t,rfl):=n;let(l,rfl):=m;show d i j t l s _ _ #[.bl (g i j),H,I,W,q]
def E1(i j:Int):Prop:=0<=j/\j<=1000000/\i.natAbs<2^64
def adm(i j:Int):Prop:=(-(2^64)<i/\i<2^64)\/(-(2^64)<j/\j<2^64)
def adm.ok(h:adm i j):IntMulOk i j:=by
 rcases h with⟨e,d⟩|⟨e,d⟩
 .show .of_left (aju e d)
 .show .of_right (aju e d)
def two_pow_nn(k:Nat):(0:Int)<=2^k:=by rw[two_pow_cast];show Int.natCast_nonneg _
theorem No:OpR X (V8 .Add) (uE λi j=>.int (i+j)):=M0 λ_ _ _ _ _ _ _ q=>add_int q
theorem OP:OpR X (V8 .Sub) (uE λi j=>.int (i - j)):=M0 λ_ _ _ _ _ _ _ q=>sub_int q
theorem Nk:OpR X (V8 .Mult) (rI adm λi j=>.int (i*j)):=PB λ_ _ _ _ _ _ _ d q=>mul_int q d.ok
theorem N0:OpR X (V8 .Mod) (rI (λ_ j=>0<j) λi j=>.int (i % j)):=PB λi j _ _ _ _ _ d q=>by let e:(0:Int)<j:=d;show mod_int' () (by rw[Int.fmod_eq_emod_of_nonneg i ()];show q)
theorem Na:OpR X (V8 .Pow) (rI E1 λi j=>.int (i^j.toNat)):=PB λ_ _ _ _ _ _ _ d q=>pow_int_small d.1 d.2.1 d.2.2 q
theorem M7:OpR X (V8 .LShift) (rI E1 λi j=>.int (i*2^j.toNat)):=PB λ_ _ _ _ _ _ _ d q=>lshift_int_small d.1 d.2.1 d.2.2 q
theorem Oz:OpR X (V8 .RShift) (rI (λ_ j=>0<=j) λi j=>.int (i/2^j.toNat)):=PB λi j _ _ _ _ _ d q=>
 rshift_int d (by rw[aap i (two_pow_nn _)];show q)
theorem MU:OpR X (V8 .BitAnd) (uE λi j=>.int (Builtin.bitAnd i j)):=M0 λ_ _ _ _ _ _ _ q=>and_int q
def Um{g:Int->Int}
  (d:∀(i:Int) (t:Tok) (s:UC) (Q:U->UC->Prop) (E:U->UC->Prop),Q (.int (g i) s.toks) {s with toks:=s.toks+1}->wpAny (model X.prog X.w) X.A (f (.int i t)) Q E s):
  S0 X f (rU λi=>.int (g i)):=by
 intro e s l H x v Q I j h;let(i,rfl,q):=h;let(t,rfl):=j;show d i t s _ _ #[.int (g i),H,I.tok _,#[_,W],q]
theorem Mm:S0 X (unaryOp .USub) (rU λi=>.int (-i)):=Um λ_ _ _ _ _ q=>neg_int q
end
section
variable{X:Cx}{a b c:U4}{Y Z O:TE}{T:Pos}
def B9(I:Inv X pins σ H s)(q:Q (.bl k) H)(e:k=o):EP X pins σ Q (.bool o) s:=by subst e;show#[.bl k,H,I,W,q]
theorem QJ:OpR X (We .Lt) (uE λi j=>.bl (decide (i<j))):=G6 λ_ _ _ _ _ _ _ q=>lt_int q
theorem QQ:OpR X (We .LtE) (uE λi j=>.bl (decide (i<=j))):=G6 λ_ _ _ _ _ _ _ q=>le_int q
theorem Qv:OpR X (We .Gt) (uE λi j=>.bl (decide (j<i))):=G6 λ_ _ _ _ _ _ _ q=>gt_int q
theorem Rm:OpR X (We .GtE) (uE λi j=>.bl (decide (j<=i))):=G6 λ_ _ _ _ _ _ _ q=>ge_int q
def NL:OpR X (We .Is) (λx y H Q=>y=.WL/\Q (.bl (decide (x=.WL))) H):=by
 intro e s g H x y v u Q I d f h;let(rfl,q):=h;ext f;show is_none_gen (B9 I q ?_);ext x<;>first
  |(ext d;rfl)
  |(let(t,rfl):=d;rfl)
def Jc:OpR X (We .IsNot) (λx y H Q=>y=.WL/\Q (.bl (!decide (x=.WL))) H):=by
 intro e s g H x y v u Q I d f h;let(rfl,q):=h;ext f;show isnot_none_gen (B9 I q ?_);ext x<;>first
  |(ext d;rfl)
  |(let(t,rfl):=d;rfl)
def Jh{op:ace}{r:R2}(j:OpR X (We op) r)(k:PE X a Y)(l:PE X b Z)(hm:behindInMarks op b=R):PE X (.Compare a [op] [b] T) (GI r Y Z):=by intro d s e H Q I h;show ahu (Pu k l I h λv u f x y n m i g q=>j d f e n x y v u Q m i g q) hm
def zn(t:TE):TT:=λd H Q=>t d H λx e=>∃k,x=.bl k/\Q k e
def II(q:OpR X (We op) r)(D:PE X a Y)(t:PE X b Z)(hm:behindInMarks op b=R):PT X (.Compare a [op] [b] T) (zn (GI r Y Z)):=by
 intro d s f H Q I h;show acZ (bT (D d s f H _ I h) λv i #[x,F,B,m,p]=>bT (t d i f F _ B p) λu g #[y,E,A,l,o]=>
  bT (q d g f E x y v u _ A m l o) λc G a=>?_) hm;let(z,C,w,j,k,e,n):=a
 subst e;ext j;show Wl #[C,w,n]
def tN:(UK:Nat)<2^63:=by rw[WB];decide
def jj(r:Vals [x] us):∃u,us=[u]/\RelV x u:=by
 cases r with
 |cons e d=>ext d;show#[_,W,e]
def Fq(r:Vals [x,y] us):∃u h,us=[u,h]/\RelV x u/\RelV y h:=by
 cases r with
 |cons g f=>
  cases f with
  |cons e d=>ext d;show#[_,_,W,g,e]
def Bv(f:X.calm=S):W3 X (.builtin "max") (λxs H Q=>∃i j,xs=[.int i,.int j]/\Q (.int (if j>i then j else i)) H):=by
 intro e s g H xs m Q I r h;let(i,j,rfl,q):=h;let(u,l,rfl,(t,rfl),(o,rfl)):=Fq r;show max_two_ints (I.ok.hd f) λp n k=>#[_,H,I.kept k,?_,q];by_cases d:j>i
 .rw[ax d,ax d];show#[_,W]
 .rw[aE d,aE d];show#[_,W]
def Qu(K:lD)(x:V)(H:Hp)(n:Nat):Prop:=
 match x with
 |.str y=>y.length<=UK/\n=y.length
 |.byt y=>y.size<=UK/\n=y.size
 |.ref p=>(∃xs,Yr K H p xs/\n=xs.length)\/∃xs,Ya K H p xs/\n=xs.length
 |_=>False
def De:W3 X (.builtin "len") (λxs H Q=>∃x n,xs=[x]/\Qu X.K x H n/\Q (.int n) H):=by
 intro l s w H xs z Q I r h;let(x,n,rfl,e,q):=h;let(u,rfl,g):=jj r;let B:=tN;let A:=WB;cases x with
 |str y=>let(t,rfl):=g;let(o,f):=e;subst f;show len_str () #[.int _,H,I.tok _,#[_,W],q]
 |byt y=>let(t,rfl):=g;let(o,f):=e;subst f;show PySem.W.len_bytes () #[.int _,H,I.tok _,#[_,W],q]
 |ref p=>
  ext g;let f:=e;rcases f with⟨xs,j,f⟩|⟨xs,j,f⟩
  .subst f;let(v,i,pl,m):=I.list j;let d:=i.length;show Calls.call_len_list pl.isList (by simp only[UN];ext) #[.int xs.length,H,I.tok _,#[_,by simp only[UN];rw[d]],q]
  .subst f;let(v,i,pl,m):=I.tuple j;let d:=i.length;show len_tuple pl (by simp only[UN];ext) #[.int xs.length,H,I.tok _,#[_,by simp only[UN];rw[d]],q]
 |_=>show(show False from e).elim
end
structure abF(h:Heap)(x dx C:I)(mA:Str->z U):Prop where
 obj:h.get? x=M (Ws C dx)
 ns:h.Ns1 dx mA
 ne:dx≠x
def AX{h:Heap}(n:h.Ns1 J C):∃c,h.get? J=M c/\∀name,Yx name c=M (C name):=by
 let(o,es,l,f,i,g,_,hm):=n;show#[o,f,λname=>?_];let e:=hm name;unfold nsFind findBy at e;rw[<-abS]at e;ext Yx;rw[i];dsimp only;split
 .rename_i y q;rw[q]at e;show ef M e
 .rename_i q
  rw[q]at e;let a:es.toList.any (·.refKey)=R:=by rw[acs];intro y d;let(z,t,b):=g y (Array.mem_toList_iff.mp d);simp[Xt.refKey,b]
  let j:¬es.toList.any (·.refKey)=S:=by rw[a];show UQ
  rw[aE j];show ef M e
theorem abF.look(I:abF h x dx C mA):∃a,PySem.W.InstAt h x (Ws C dx) C (M a)/\∀name,Yx name a=M (mA name):=
 let#[a,b,d]:=AX I.ns
 #[a,#[I.obj,W,W,b],d]
section
variable{T:UZ}{w:Vf}{A:Vb}{E:Ut->UC->Prop}{s:UC}{K:lD}{x O C f:Uz}{Z:Str->bg Ut}{Y:Str}{v:Ut}
def JH(X:K.In s.heap)(I:abF s.heap x O C Z)(g:Xr K C Y=S)(e:X2 K C=S)
  (c:Vt K (.ref C) Y=M P) (b:Z Y=M v) (a:abT v=S) (h:Q v {s with toks:=s.toks+1}):
  wpAny (model T w) A (getAttr (.ref x) Y expr) Q E s:=by
 let(i,J,d):=I.look;show PySem.W.get_value X J (YS g).1 (PySem.W.findObj_own e c W (by rw[d,b])) a h
def EA(X:K.In s.heap)(I:abF s.heap x O C Z)(a:Xr K C Y=S)
  (i:Vt K (.ref C) Y=M (M (.ref f))) (e:WH K (.ref f)=S) (d:Z Y=P) (h:Q (.ref f,[.ref x]) s):
  wpAny (model T w) A (getMethod (.ref x) Y pl) Q E s:=by
 let(b,J,g):=I.look;show PySem.W.method_fn X J (YS a).1 (YS a).2 i (beq_iff_eq.mp e) (by show(Yx Y b).map (·.isSome)=M R;rw[g,d];rfl) h
def Jz(X:K.In s.heap)(I:abF s.heap x O C Z)
  (o:Vt K (.ref C) "__setattr__"=M (M (.builtin "object.__setattr__"))) (p:Ze K C=S) (n:ZE K C Y=M P) (q:X2 K C=S)
  (m:aaK Z ns) (k:ns.length<=UK)
  (h:∀c,abF c x O C (λy=>if y=Y then M v else Z y)->Heap.SameBut O s.heap c->Q ⟨⟩ {s with heap:=c,toks:=s.toks+2}):
  wpAny (model T w) A (setAttr (.ref x) Y v) Q E s:=by
 let(z,J,F):=I.look;show PySem.W.set_plain X J o (PySem.W.osa_open X J p n λb=>?_);let(G,r,g):=PySem.W.any_some q;let l:=I.obj;show CL (UD (CL (CL (ahv l (CL (afh (PySem.W.looks_clsIn X r) ?_))))));rw[g];show UD (CL (UD (CL ?_)));show wpAny_nsSet1 I.ns λc a j=>?_;let(B,t,u,d,e,i):=a.count (agl Y v m);show CL (afi d (by rw[e];show afj (Vk i (by rw[UO];ext))) ?_);show UD (h _ #[(j.2 _ (dN I.ne)).trans I.obj,a,I.ne] j)
def Fx{R:Zr->UC->Prop}{c:G U}{b:G (Str×U)}(X:K.In s.heap)(hm:ZF K C=S)
  (k:Vt K (.ref C) "__init__"=M (M (.ref f))) (e:acu K (.ref f)=M (.type "function"))
  (h:codeAny (model T w) (A.under (.builtin "type.__call__" #[.ref C::c,b])) (.call (.ref f) #[.ref (s.heap.objs.size+1)::c,b]) (PySem.W.InitBack (s.heap.objs.size+1) R)
   {s with heap:=(s.heap.push V2).push (Ws C s.heap.objs.size)}):
  codeAny (model T w) A (.call (.ref C) #[c,b]) R s:=by
 let(j,g,d,t,i):=s;show PySem.W.make_core (PySem.W.makes_of X hm) (PySem.W.looks_findIn X k) (λa=>PySem.W.bind_fn X a e) (.inl W) h
end
def gY(f:Str)(v:V):G (Str×V)->G (Str×V)
 |[]=>[(f,v)]
 |(g,x)::r=>if g=f then(g,v)::r else(g,x)::gY f v r
theorem ny(f g:Str)(v:V):∀fs:G (Str×V),(gY f v fs).lookup g=if g=f then M v else fs.lookup g
 |[]=>by
  show Wy g [(f,v)]=_;by_cases h:g=f
  .let a:=beq_iff_eq.mpr h;simp only[Wy,a,ax h]
  .let a:=beq_eq_false_iff_ne.mpr h;simp only[Wy,a,aE h]
 |(k,x)::r=>by
  let d:=ny f g v r;rw[show gY f v ((k,x)::r)=(if k=f then(k,v)::r else(k,x)::gY f v r)from rfl];by_cases b:k=f
  .rw[ax b]
   by_cases h:g=k
   .let a:=beq_iff_eq.mpr h;simp only[Wy,a,ax (h.trans b)]
   .let a:=beq_eq_false_iff_ne.mpr h;simp only[Wy,a,aE (λe:g=f=>h (e.trans b.symm))]
  .rw[aE b]
   by_cases h:g=k
   .let a:=beq_iff_eq.mpr h;simp only[Wy,a,aE (λe:g=f=>b (h.symm.trans e))]
   .let a:=beq_eq_false_iff_ne.mpr h;simp only[Wy,a];show d
theorem mV(f:Str)(v:V):∀fs:G (Str×V),f∈(gY f v fs).map (·.1)/\∀g,g∈fs.map (·.1)->g∈(gY f v fs).map (·.1)
 |[]=>#[by simp[gY],λg h=>by simp at h]
 |(k,x)::r=>by
  let(d,b):=mV f v r;rw[show gY f v ((k,x)::r)=(if k=f then(k,v)::r else(k,x)::gY f v r)from rfl];by_cases a:k=f
  .rw[ax a];subst a;show#[by simp,λg h=>by simpa using h]
  .rw[aE a]
   show#[?_,λg h=>?_]
   .rw[UU];show UM _ d
   .rw[UU]at h⊢
    rcases U5.mp h with e|e
    .show U5.mpr (.inl e)
    .show UM _ (b g e)
theorem ng(f:Str)(v:V):∀fs:G (Str×V),(gY f v fs).length<=fs.length+1
 |[]=>by simp[gY]
 |(k,x)::r=>by
  let b:=ng f v r;rw[show gY f v ((k,x)::r)=(if k=f then(k,v)::r else(k,x)::gY f v r)from rfl];by_cases a:k=f
  .rw[ax a,UO,UO];ext
  .rw[aE a,UO,UO];ext
def Yi.some_of(r:Yi (M v) o):∃u,o=M u/\RelV v u:=by
 cases o with
 |none=>show(show False from r).elim
 |some u=>show#[u,W,r]
def Yi.none_of(r:Yi P o):o=P:=by
 cases o with
 |none=>rfl
 |some u=>show(show False from r).elim
def A2(r:RelV v u):abT u=S:=by
 cases v with
 |WL=>cases(show u=Ut.none from r);rfl
 |bl b=>cases(show u=Ut.bool b from r);rfl
 |int i=>let(t,e):=(show∃t,u=Ut.int i t from r);ext e;rfl
 |str x=>let(t,e):=(show∃t,u=Ut.str x t from r);ext e;rfl
 |byt b=>let(t,e):=(show∃t,u=Ut.bytes b t from r);ext e;rfl
 |flt b=>let(t,e):=(show∃t,u=Ut.float b t from r);ext e;rfl
 |ref a=>cases(show u=Ut.ref a from r);rfl
 |ty n=>cases(show u=Ut.type n from r);rfl
section
variable{P:UZ}{w:Vf}{H X:Hp}{h T:Heap}{a C Z:Uz}{fs Y:bb (Str×V)}
def ut(VQ:YO P w H h)(e:H a=M (.ins C Z fs)):∃c,abF h a Z C c/\(∀f,Yi (fs.lookup f) (c f))/\aaK c (fs.map (·.1))/\fs.length<=1000/\H Z=M (.own a):=by let(d,z,ne,b,c,n,r,q):=(show ObjOk P w H h a (.ins C Z fs)from VQ a _ e);show#[c,#[b,n,ne],r,q,z,d]
end
structure Cls(K:lD)(C:I):Prop where
 pg:Xr K C Str.empty=S
 hd:X2 K C=S
 po:Ze K C=S
 sa:Vt K (.ref C) "__setattr__"=M (M (.builtin "object.__setattr__"))
theorem Cls.get{K:lD}(c:Cls K C)(f:Str):Xr K C f=S:=c.pg
def X8(K:lD)(C:I)(f:Str):Prop:=Vt K (.ref C) f=M P
def X8.afF{K:lD}(n:X8 K C f):ZE K C f=M P:=by ext ZE;rw[show Vt K (.ref C) f=M P from n];rfl
structure Con(K:lD)(C:I)(f:Str)(v:V)(u:U):Prop where
 at_:Vt K (.ref C) f=M (M u)
 rel:RelV v u
 get:Xf K u "__get__"=M P
 cp:PySem.W.copiedNames.contains f=R
structure Meth(K:lD)(C:I)(m:Str)(f:I):Prop where
 at_:Vt K (.ref C) m=M (M (.ref f))
 fn:WH K (.ref f)=S
 kp:Wa K (.ref f)=S
section
variable{X:Cx}{Z:bb (Uz×Obj)}{Y:St}{H:Hp}{s:UC}{a C T:Uz}{fs:bb (Str×V)}{f:Str}{v:V}{A:Vb}{E:Ut->UC->Prop}
def xn(I:Inv X Z Y H s)(e:H a=M (.ins C T fs))(c:Cls X.K C)(n:X8 X.K C f)(l:fs.lookup f=M v)
  (h:∀u j,Inv X Z Y H j->RelV v u->Q u j):wpAny (model X.prog X.w) A (getAttr (.ref a) f b) Q E s:=by
 let(i,O,r,_,_,_):=ut I.VQ e;let(u,g,d):=Yi.some_of (by rw[<-l];show r f);show JH I.ZJ O (c.get f) c.hd n g (A2 d) (h u _ (I.tok _) d)
def pO(I:Inv X Z Y H s)(e:H a=M (.ins C T fs))(c:Cls X.K C)(k:Meth X.K C m g)(l:fs.lookup m=P)
  (h:Q (.ref g,[.ref a]) s):wpAny (model X.prog X.w) A (getMethod (.ref a) m pl) Q E s:=by
 let(b,O,r,_,_,_):=ut I.VQ e;let d:=Yi.none_of (by rw[<-l];show r m);show EA I.ZJ O (c.get m) k.at_ k.fn d h
def wN(I:Inv X Z Y H s)(e:H a=M (.ins C T fs))(c:Cls X.K C)(n:X8 X.K C f)(L:fs.length<1000)(p:RelV y u)
  (h:∀k,Inv X Z Y (aX H a (.ins C T (gY f y fs))) k->Q ⟨⟩ k):wpAny (model X.prog X.w) A (setAttr (.ref a) f u) Q E s:=by
 let(j,O,r,i,_,l):=ut I.VQ e;let t:(fs.map (·.1)).length<=UK:=by rw[Uy,WB];ext
 show Jz I.ZJ O c.sa c.po n.afF c.hd i t λJ d m=>h _ ?_;let F:∃o,J.get? T=M o:=let#[o,_,_,w,_]:=d.ns;#[o,w]
 show I.write (by rw[e];show True.intro) (.inr l) (λb q G z=>(m.2 b G).trans z) F ?_;show#[by rw[ay O.ne];show l,?_,O.ne,d.obj,_,d.ns,λg=>?_,λg B=>?_]
 .let:=ng f y fs;ext
 .show Yi ((gY f y fs).lookup g) (if g=f then M u else j g)
  rw[ny];by_cases q:g=f
  .rw[ax q,ax q];show p
  .rw[aE q,aE q];show r g
 .by_cases q:g=f
  .rw[q];show(mV f y fs).1
  .show(mV f y fs).2 g (i g λz=>B ?_);show(if g=f then M u else j g)=P;rw[aE q];show z
def Inv.made(I:Inv X Z Y H s):Inv X Z Y (aX (aX H s.heap.objs.size (.own (s.heap.objs.size+1))) (s.heap.objs.size+1) (.ins C s.heap.objs.size []))
  {s with heap:=(s.heap.push V2).push (Ws C s.heap.objs.size)}:=by
 let e1:(s.heap.push V2).get? s.heap.objs.size=M V2:=cc s.heap W;let e2:((s.heap.push V2).push (Ws C s.heap.objs.size)).get? (s.heap.objs.size+1)=M (Ws C s.heap.objs.size):=by let:=cc (s.heap.push V2) (o:=Ws C s.heap.objs.size) W;rwa [cv]at this
 let e3:(s.heap.push V2).Ns s.heap.objs.size (λ_=>P):=#[V2,#v[],_,e1,W,(λe g=>a7 g (by simp)),λ_=>W];let h:=I.laid (a:=s.heap.objs.size) (o:=.own (s.heap.objs.size+1)) (h':=s.heap.push V2) (t':=s.toks) (λb u q=>b3 _ q) (UG _) #[_,e1];show h.laid (a:=s.heap.objs.size+1) (o:=.ins C s.heap.objs.size []) (t':=s.toks) (λb u q=>b3 _ q) (afk (cv _ _)) ?_;let ne:s.heap.objs.size≠s.heap.objs.size+1:=U3 (XB _);show#[by rw[ay ne,aC],Vq _,ne,e2,λ_=>P,(Heap.Ns1.of_empty e3).at λo q=>b3 _ q,λ_=>True.intro,λy d=>a7 W d]
theorem Hi{prog:UZ}{w:Vf}{env:Env}{e:U4}{f:Str}{b:Pos}{s:UC}{Q:U->UC->Prop}(d:attributeBase e f env (eval e env)=eval e env)
  (h:wpAny (model prog w) A (eval e env) (λo c=>wpAny (model prog w) A (getAttr o f S) Q E c) E s):wpAny (model prog w) A (eval (.Attribute e f b) env) Q E s:=
 Attribute_any_ h (by rw[arm_eval_Attribute,d])
end
def OM(K:lD)(c:TE)(f:Str):TE:=λd H Q=>c d H λx b=>∃a C e fs v,x=.ref a/\b a=M (.ins C e fs)/\Cls K C/\X8 K C f/\fs.lookup f=M v/\Q v b
def N7(K:lD)(c e:TE)(f:Str):TS:=λD b H=>e b H λy g=>c b g λx d=>∃a C h fs,x=.ref a/\d a=M (.ins C h fs)/\Cls K C/\X8 K C f/\fs.length<1000/\
 D.nx b (aX d a (.ins C h (gY f y fs)))
section
variable{X:Cx}{o e Z:U4}{f:Str}{T Y N:Pos}{U O:TE}
def LY(j:PE X e U)(m:attributeBase e f X.env (eval e X.env)=eval e X.env):PE X (.Attribute e f T) (OM X.K U f):=by intro b s d H Q I h;show Hi m (bT (j b s d H _ I h) λu B a=>?_);let(x,y,w,g,a,C,E,fs,v,p,r,c,n,l,q):=a;subst p;obtain rfl:=g;show xn w r c n l λz A t i=>#[v,y,t,i,q]
def OU(k:PE X o U)(p:PE X Z O)(r:W0 Z (M (.Attribute o f Y)) T.line X.env=pure R):PS X (.Assign [.Attribute o f Y] Z T) (N7 X.K U O f):=by intro b s d H D I h;show aah (bT (p b s d H _ I h) λu g #[y,B,A,i,q]=>bT (k b g d B _ A q) λG F a=>?_) r;let(x,J,z,j,a,C,K,fs,t,v,c,n,l,m):=a;subst t;obtain rfl:=j;show wN z v c n l i λE w=>#[d,_,w,m]
end
section
variable{X:Cx}{Z:bb (Uz×Obj)}{Y:St}{H:Hp}{s:UC}{A:Vb}{E:Ut->UC->Prop}{Q:Ut->UC->Prop}{c:Ut}{b:Bool}
inductive Z3(K:lD)(H:Hp):V->U->Prop where
 |WL:Z3 K H .WL (.type "NoneType")
 |bl (x:Bool):Z3 K H (.bl x) (.type "bool")
 |int (i:Int):Z3 K H (.int i) (.type "int")
 |str (x:Str):Z3 K H (.str x) (.type "str")
 |flt (x:UInt64):Z3 K H (.flt x) (.type "float")
 |lst {a:I} {xs:G V} (e:H a=M (.lst xs)):Z3 K H (.ref a) (.type "list")
 |frz {a:I} {o:Obj} {xs:G V} (e:H a=M (.frz o (.lst xs))):Z3 K H (.ref a) (.type "list")
 |tup {a:I} {xs:G V} (e:H a=M (.tup xs)):Z3 K H (.ref a) (.type "tuple")
 |dK {a:I} {U7:G (b5×V)} (e:H a=M (.dK U7)):Z3 K H (.ref a) (.type "dict")
 |dT {a:I} {U7:G (G b5×V)} (e:H a=M (.dT U7)):Z3 K H (.ref a) (.type "dict")
 |ins {a C dx:I} {fs:G (Str×V)} (e:H a=M (.ins C dx fs)) (cl:Cls K C) (ha:Vt K (.ref C) "__class__"=M (M (.builtin "object.__class__")))
   (hn:Xf K (.builtin "object.__class__") "__get__"=M (M (.builtin "getset_descriptor.__get__"))) (htk:PySem.W.takesIn K (.builtin "object.__class__")=M S)
   (hm:PySem.W.mroIn K C (.type "object")=M S):Z3 K H (.ref a) (.ref C)
end
structure Wr(k:Nat)(A:Vb):Prop where
 hd:A.handled=P
 dp:A.depth+3*k+5<recursionLimit
 un:A.units+16*k+200<cLine
theorem Wr.mono(r:Wr k A)(h:j<=k):Wr j A:=#[r.hd,by let:=r.dp;ext,by let:=r.un;ext]
theorem Wr.deeper(r:Wr (k+1) A)(env:Env):Wr k (A.deeper env):=
 #[r.hd,by let:=r.dp;show A.depth+1+3*k+5<_;ext,by let:=r.un;show A.units+3+16*k+200<_;ext]
def yC{A:Vb}:(A.under (.builtin "type.__call__" #[.ref C::us,kw])).depth=A.depth+1:=by
 first|rfl|simp[Vb.under,abb.weight,abb.isCreation,abb.isGuard,abb.isCaller,abb.frames,abb.isFrame,guardIds]
def wO{A:Vb}:(A.under (.builtin "type.__call__" #[.ref C::us,kw])).units=A.units+1:=by
 first|rfl|simp[Vb.under,abb.cUnits,abb.frames,abb.isFrame]
theorem Wr.make(r:Wr (k+1) A)(C:I)(us:G U)(a:G (Str×U)):Wr k (A.under (.builtin "type.__call__" #[.ref C::us,a])):=
 #[r.hd,by let:=r.dp;rw[yC];ext,by let:=r.un;rw[wO];ext]
def Wr.depth(r:Wr k A):A.depth<recursionLimit:=by let:=r.dp;ext
def Wr.units(r:Wr k A):A.units+64<cLine:=by let:=r.un;ext
def jf:TA:=λ_ H Q=>Q [] H
def fZ(c:TE)(b:TA):TA:=λa H Q=>c a H λx e=>b a e λxs d=>Q (x::xs) d
section
variable{X:Cx}{e:U4}{es:bb U4}{Y:TE}{t:TA}{Z:Pos}
theorem km:PA X [] jf:=λ_ _ _ _ H Q I h=>Calls.spliced_nil #[[],H,I,.nil,h]
def fu(c:PE X e Y)(m:PA X es t)(l:UW (e::es) X.env=(R,eval e X.env)::UW es X.env:=by rfl):PA X (e::es) (fZ Y t):=by intro Z a s b H Q I h;rw[l];show Calls.spliced_cons (bT (c a s b H _ I h) λu d a=>?_);let(x,q,o,g,j):=a;show bT (m Z a d b q _ o j) λr v #[xs,p,n,f,i]=>#[x::xs,p,n,.cons g f,i]
def IG(t:TA):TE:=λb H Q=>t b H λxs a=>xs.length<=UK/\∀p,a p=P->Q (.ref p) (aX a p (.tup xs))
def N9(t:TA):TE:=λb H Q=>t b H λxs a=>xs.length<=UK/\∀p,a p=P->Q (.ref p) (aX a p (.lst xs))
def N4{c}(h:PA X es t):PE X (.Tuple es c Z) (IG t):=by intro a s g H Q I j;show wpAny_Tuple_spliced (bT (h Z a s g H _ I j) λi d #[xs,m,f,r,z,q]=>#[by rw[<-r.length];show z,?_]);let l:=f.VQ.fresh (UG _);show#[.ref d.heap.objs.size,aX m d.heap.objs.size (.tup xs),f.laid (λb u e=>b3 _ e) (UG _) ?_,W,q _ l];show#[z,i,r,#[_,cc _ W,#[W,_,W],W]]
def Mj(h:PA X es t):PE X (.List es Z) (N9 t):=by intro a s g H Q I j;show wpAny_List_spliced (bT (h Z a s g H _ I j) λi d #[xs,m,f,r,z,q]=>#[by rw[<-r.length];show z,?_]);let l:=f.VQ.fresh (UG _);show#[.ref d.heap.objs.size,aX m d.heap.objs.size (.lst xs),f.laid (λb u e=>b3 _ e) (UG _) ?_,W,q _ l];show#[z,i,0,r,cc _ W]
end
abbrev Sp:=G V->Hp->VK->XK->Prop
abbrev sU:=G Env->Hp->UC->XK->U->UC->Prop
structure Env0(P:UZ)(w:Vf)(K:lD)(mg:Str->z U)(base:Heap)(A:Vb)(outer:G Env)(s:UC)(H:Hp):Prop where
 frames:A.frames=M outer
 mod:Mod K mg base
 bs:∀b o,base.get? b=M o->s.heap.get? b=M o/\H b=Ld
 bsz:base.objs.size<=s.heap.objs.size
 Y7:s.heap.FunFrames base outer
 frf:∀b∈wf outer,H b=Ld
 VQ:YO P w H s.heap
 bare:AllBare s.gens
def CE(outer:G Env)(P:UZ)(w:Vf)(H:Hp)(s:UC)(Q:VK)(u:U)(a:UC):Prop:=
 ∃v b,a.os=s.os/\AllBare a.gens/\Un (wf outer) [] H b s.heap a.heap/\YO P w b a.heap/\RelV v u/\Q v b
def CR(b:sU)(outer:G Env)(P:UZ)(w:Vf)(H:Hp)(s:UC)(Q:VK)(E:XK)(r:Zr)(a:UC):Prop:=
 match r with
 |.ok (.ret u)=>CE outer P w H s Q u a
 |.ok _=>False
 |.error e=>b outer H s E e a
structure FnOk(P:UZ)(w:Vf)(K:lD)(mg:Str->z U)(base:Heap)(CX:sU)(k:Nat)(f:I)(fd:VG)(ps:G Str)(sp:Sp):Prop where
 len:∀vs H Q E,sp vs H Q E->vs.length=ps.length
 run:∀(A:Vb) (outer:G Env) (s:UC) (H:Hp) (args:Args) (us:G U) (vs:G V) (Q:VK) (E:XK),Wr k A->Env0 P w K mg base A outer s H->YZ s fd args (ps.zip us)->Vals vs us->sp vs H Q E->
  codeAny (model P w) A (.call (.ref f) args) (CR CX outer P w H s Q E) s
theorem FnOk.imp{P:UZ}{w:Vf}{K:lD}{p:Str->z U}{base:Heap}{e:sU}{k:Nat}{f:I}{fd:VG}{o:G Str}{sp b:Sp}(F:FnOk P w K p base e k f fd o sp)
  (h:∀c H Q E,b c H Q E->sp c H Q E):FnOk P w K p base e k f fd o b:=
 #[λc H Q E q=>F.len c H Q E (h _ _ _ _ q),λA a s H d g c Q E l m n i j=>F.run A a s H d g c Q E l m n i (h _ _ _ _ j)]
theorem Env0.make{K:lD}(e:Env0 b w K mg base A outer s H)(C:I)(us:G U)(a:G (Str×U)):
  Env0 b w K mg base (A.under (.builtin "type.__call__" #[.ref C::us,a])) outer s H:=#[by first|show e.frames|(simpa [Vb.under,abb.envs,abb.isFrame,pushEnvs]using e.frames),e.mod,e.bs,e.bsz,e.Y7,e.frf,e.VQ,e.bare]
section
variable{X:Cx}{Z:bb (Uz×Obj)}{Y:St}{H:Hp}{s U:UC}
theorem Inv.aee(I:Inv X Z Y H s):Env0 X.prog X.w X.K X.mg X.base X.A X.stack s H:=
 #[I.ok.frames,I.ok.mod,I.bs,Vk I.ok.bsz I.sz,I.stack,I.ZS,I.VQ,I.bare]
def Inv.after{Q:VK}{u:Ut}(I:Inv X Z Y H s)(h:CE X.stack X.prog X.w H s Q u U):EP X Z Y Q u U:=by let(v,j,f,a,un,VQ,r,q):=h;let(i,g,d,t,e):=U;obtain rfl:e=s.os:=f;show#[v,j,I.call (h':=i) (g':=g) (d':=d) (t':=t) (ch:=[]) un VQ a (λb z=>a7 z (by simp)),r,q]
end
def lY(sp:Sp)(b:G V)(E:XK)(t:TA):TE:=λa H Q=>t a H λe d=>sp (e++b) d Q E
def sd(C:I)(m:Str)(sp:Sp)(e:G V)(E:XK)(c:TE)(t:TA):TE:=λb H Q=>c b H λx d=>∃a h fs,x=.ref a/\d a=M (.ins C h fs)/\fs.lookup m=P/\
 t b d λg f=>sp (x::(g++e)) f Q E
def we(C:I)(sp:Sp)(d:G V)(E:XK)(t:TA):TE:=λb H Q=>t b H λg a=>∀x f,a x=P->a f=P->f≠x->
 sp (.ref x::(g++d)) (aX (aX a f (.own x)) x (.ins C f [])) (λv e=>v=.WL/\Q (.ref x) e) E
def Binds(K:lD)(fd:VG)(b:G Str)(ds:G U):Prop:=
 ∀(s:UC) (a:G U),K.In s.heap->(a++ds).length=b.length->YZ s fd #[a,[]] (b.zip (a++ds))
theorem Binds.all{K:lD}{fd:VG}{b:G Str}(h:∀us:G U,us.length=b.length->bindArgs fd #[us,[]]=pure (b.zip us)):Binds K fd b []:=λs us _ a=>by rw[Vh]at a⊢;show .of_eq (h us a)
def dr(f:sU)(X:Cx)(E:XK):Prop:=∀(a:G (I×Obj)) (d:St) (H:Hp) (s:UC) (e:U) (b:UC),Inv X a d H s->f X.stack H s E e b->X.xe e b
section
variable{X:Cx}{U:sU}{k:Nat}{f C:Uz}{fd:VG}{ps:bb Str}{sp:Sp}{Y:bb V}{ds:bb Ut}{E:XK}{x m:Str}{p pos Z:Pos}{e o:U4}{es:bb U4}{T:TE}{t:TA}
def xQ{a:G (Uz×Obj)}{d:St}{H:Hp}{s:UC}{Q:VK}{us:G Ut}{vs:G V}(F:FnOk X.prog X.w X.K X.mg X.base U k f fd ps sp)(l:Wr k X.A)(q:Binds X.K fd ps ds)(hd:Vals Y ds)(j:dr U X E)
  (I:Inv X a d H s) (r:Vals vs us) (h:sp (vs++Y) H Q E):wpAny (model X.prog X.w) X.A (call (.ref f) us) (EP X a d Q) X.xe s:=by
 let g:Vals (vs++Y) (us++ds):=r.append hd;let n:(us++ds).length=ps.length:=by rw[<-g.length];show F.len _ _ _ _ h
 show Y0 (Y1 (F.run X.A X.stack s H #[us,[]] (us++ds) (vs++Y) Q E l I.aee (q s us I.ZJ n) g h) λr i b=>?_);cases r with
 |error e=>show j a d H s e i I b
 |ok v=>
  cases v with
  |ret u=>show I.after b
  |next=>show False.elim b
  |brk=>show False.elim b
  |cont=>show False.elim b
def yM(F:FnOk X.prog X.w X.K X.mg X.base U k f fd ps sp)(j:Wr k X.A)(n:Gl X x)(hm:X.mg x=M (.ref f))(l:Wa X.K (.ref f)=S)(v:Binds X.K fd ps ds)(hd:Vals Y ds)(i:dr U X E)
  (c:PA X (e::es) t) (b:(x==("__debug__":Str))=R:=by decide) (u:UW (e::es) X.env=(R,eval e X.env)::UW es X.env:=by rfl) (y:(backTo pos (UW es X.env)).any (·.1)=R:=by rfl):
  PE X (.Call (.Name x p) (e::es) [] pos) (lY sp Y E t):=by
 intro a s g H Q I h;show Ww (jD I n hm ?_ b);show Y2 I.ok.mod.kin l (bT (c pos a s g H _ I h) λz B #[w,G,d,r,q]=>#[d.ZJ,?_]) u y;show xQ F j v hd i d r q
def G3{pl:Sem Bool}(G:PE X o T)(c:Cls X.K C)(hm:Meth X.K C m f)(F:FnOk X.prog X.w X.K X.mg X.base U k f fd ps sp)(B:Wr k X.A)(J:Binds X.K fd ps ds)(hd:Vals Y ds)(y:dr U X E)(D:PA X (e::es) t)
  (cX:UW (e::es) X.env=(Ux,eval e X.env)::UW es X.env:=by rfl) (N:(backTo pos (UW es X.env)).any (·.1)=Ux:=by rfl)
  (z:eval (.Call (.Attribute o m Z) (e::es) [] pos) X.env=(do
   let ov<-eval o X.env
   standAt Z.atName
   let(f,first)<-holding [ov] (getMethod ov m pl)
   callWith pos f first (backTo pos (UW (e::es) X.env)) (backToKw pos (keywordEach [] X.env))):=by rfl):
  PE X (.Call (.Attribute o m Z) (e::es) [] pos) (sd C m sp Y E T t):=by
 intro b s d H Q I h;show Ys (pl:=pl) (bT (G b s d H _ I h) λu j a=>?_) z;let(x,O,i,n,a,dx,fs,L,w,l,q):=a;subst L;obtain rfl:u=Ut.ref a:=n;show pO i w c hm l ?_;show Y2 (first:=[.ref a]) (h₀:=X.base) I.ok.mod.kin hm.kp (bT (D pos b j d O _ i q) λus P #[K,A,g,r,v]=>#[g.ZJ,?_]) cX N;show xQ (us:=.ref a::us) (vs:=.ref a::K) F B J hd y g (.cons W r) v
def DW{pl:Sem Bool}(v:PE X o T)(c:Cls X.K C)(hm:Meth X.K C m f)(F:FnOk X.prog X.w X.K X.mg X.base U k f fd ps sp)(r:Wr k X.A)(y:Binds X.K fd ps ds)(hd:Vals Y ds)(j:dr U X E)
  (n:eval (.Call (.Attribute o m Z) [] [] pos) X.env=(do
   let ov<-eval o X.env
   standAt Z.atName
   let(f,first)<-holding [ov] (getMethod ov m pl)
   callWith pos f first (backTo pos (UW [] X.env)) (backToKw pos (keywordEach [] X.env))):=by rfl):
  PE X (.Call (.Attribute o m Z) [] [] pos) (sd C m sp Y E T jf):=by
 intro b s g H Q I h;show Ys (pl:=pl) (bT (v b s g H _ I h) λu G a=>?_) n;let(x,J,d,i,a,w,fs,z,B,l,q):=a;subst z;obtain rfl:u=Ut.ref a:=i;show pO d B c hm l ?_;show PySem.W.callWith_K0 (first:=[.ref a]) d.ZJ hm.kp (xQ (us:=[.ref a]) (vs:=[.ref a]) F r y hd j d (.cons W .nil) q)
structure Mk(K:lD)(C f:I):Prop where
 makes:ZF K C=S
 init:Vt K (.ref C) "__init__"=M (M (.ref f))
 fn:WH K (.ref f)=S
 kp:Wa K (.ref C)=S
def Dc(M:Mk X.K C f)(F:FnOk X.prog X.w X.K X.mg X.base U k f fd ps sp)(n:Wr (k+1) X.A)(y:Binds X.K fd ps ds)(hd:Vals Y ds)
  (l:dr U X E) (I:Inv X pins σ H s) (r:Vals J us)
  (h:∀x c,H x=P->H c=P->c≠x->sp (.ref x::(J++Y)) (aX (aX H c (.own x)) x (.ins C c [])) (λv A=>v=.WL/\Q (.ref x) A) E):
  wpAny (model X.prog X.w) X.A (call (.ref C) us) (EP X pins σ Q) X.xe s:=by
 let g:=h (s.heap.objs.size+1) s.heap.objs.size (I.VQ.fresh (Z4 _)) (I.VQ.fresh (UG _)) (U3 (XB _));let b:=Inv.made (C:=C) I;let d:Vals (V.ref (s.heap.objs.size+1)::(J++Y)) (Ut.ref (s.heap.objs.size+1)::(us++ds)):=.cons W (r.append hd);let q:(Ut.ref (s.heap.objs.size+1)::us++ds).length=ps.length:=by let e:=d.length;rw[F.len _ _ _ _ g]at e;show e.symm
 show Y0 (Fx I.ZJ M.makes M.init (beq_iff_eq.mp M.fn) (Y1 (F.run _ X.stack _ _ #[Ut.ref (s.heap.objs.size+1)::us,[]] (Ut.ref (s.heap.objs.size+1)::(us++ds)) _ _ E (n.make C us [])
  (b.aee.make C us []) (y _ (Ut.ref (s.heap.objs.size+1)::us) b.ZJ q) d g) λr i a=>?_))
 cases r with
 |error e=>show l pins σ _ _ e i b a
 |ok z=>
  cases z with
  |ret u=>let(v,G,B,w,ev,j):=b.after a;subst ev;show#[w,#[V.ref (s.heap.objs.size+1),G,B,W,j]]
  |next=>show False.elim a
  |brk=>show False.elim a
  |cont=>show False.elim a
def Kn(M:Mk X.K C f)(F:FnOk X.prog X.w X.K X.mg X.base U k f fd ps sp)(j:Wr (k+1) X.A)(l:Gl X x)(hm:X.mg x=cL (.ref C))(u:Binds X.K fd ps ds)(hd:Vals Y ds)(i:dr U X E)
  (c:PA X (e::es) t) (b:(x==("__debug__":Str))=R:=by decide) (n:UW (e::es) X.env=(R,eval e X.env)::UW es X.env:=by rfl) (v:(backTo pos (UW es X.env)).any (·.1)=R:=by rfl):
  PE X (.Call (.Name x p) (e::es) [] pos) (we C sp Y E t):=by
 intro a s g H Q I h;show Ww (jD I l hm ?_ b);show Y2 I.ok.mod.kin M.kp (bT (c pos a s g H _ I h) λy z #[w,B,d,r,q]=>#[d.ZJ,?_]) n v;show Dc M F j u hd i d r q
end
section
variable{X:Cx}{O:sU}{k:Nat}{f C:Uz}{fd:VG}{ps ks:bb Str}{N:Sp}{E:XK}{x m:Str}{p Y Z T:Pos}{e o:U4}{es:bb U4}{Q:bb Yu}{L J:TE}{t H:TA}{B:bg Str}
structure aih(K:lD)(fd:VG)(ps ks:G Str)(g:G U->G U->G U)(gV:G V->G V->G V):Prop where
 to:∀(s:UC) (us ws:G U),K.In s.heap->(g us ws).length=ps.length->YZ s fd #[us,ks.zip ws] (ps.zip (g us ws))
 rel:∀{vs:G V} {us:G U} {zs:G V} {ws:G U},Vals vs us->Vals zs ws->Vals (gV vs zs) (g us ws)
variable{g:bb Ut->bb Ut->bb Ut}{K:bb V->bb V->bb V}
end
structure WK(N P:G Str)(sc:WA):Prop where
 kind:sc.kind=.function
 co:sc.isCoroutine=R
 gen:sc.isGenerator=R
 nd:N.Nodup
 pre:N.take P.length=P
 par:∀x∈P,sc.names.lookup x=M .local\/sc.names.lookup x=M .cell
 aem:∀y∈sc.names,y.2≠.free
theorem rD{a:Str->z U0}:∀{binds:G (Str×U)} {m:Str->z U},(∀v,(x,v)∉binds)->bindL a binds m x=m x
 |[],_,_=>rfl
 |(n,v)::r,m,h=>by
  ext bindL;rw[rD λw b=>h w (UM _ b)];split
  .let:x≠n:=by rintro rfl;show h v UP
   simp[this]
  .rfl
theorem rO{a:Str->z U0}:∀{binds:G (Str×U)} {m:Str->z U},(∀v,(x,v)∉binds)->bindC a binds m x=m x
 |[],_,_=>rfl
 |(n,v)::r,m,h=>by
  ext bindC;rw[rO λw b=>h w (UM _ b)];split
  .rfl
  .let:x≠n:=by rintro rfl;show h v UP
   simp[this]
theorem rT{kindOf:Str->z U0}:∀{a:G Str} {b:G U} {i:Nat} {m:Str->z U},a.Nodup->a[i]?=M x->b[i]?=M v->kindOf x=M .local->
  bindL kindOf (a.zip b) m x=M v
 |[],_,_,_,_,h,_,_=>by simp at h
 |_::_,[],_,_,_,_,h,_=>by simp at h
 |p::a,w::b,0,m,nd,h1,d,e=>by simp at h1 d;subst h1;subst d;show bindL kindOf ((p,w)::a.zip b) m p=_;ext bindL;rw[rD λv f=>(VU.mp nd).1 (XJ f).1,ax e];simp
 |p::a,w::b,i+1,m,nd,h1,d,e=>by ext bindL;show rT (VU.mp nd).2 (by simpa using h1) (by simpa using d) e
theorem rN{kindOf:Str->z U0}:∀{a:G Str} {b:G U} {i:Nat} {m:Str->z U},a.Nodup->a[i]?=M x->b[i]?=M v->kindOf x≠M .local->
  bindC kindOf (a.zip b) m x=M v
 |[],_,_,_,_,h,_,_=>by simp at h
 |_::_,[],_,_,_,_,h,_=>by simp at h
 |p::a,w::b,0,m,nd,h1,d,e=>by simp at h1 d;subst h1;subst d;show bindC kindOf ((p,w)::a.zip b) m p=_;ext bindC;rw[rO λv f=>(VU.mp nd).1 (XJ f).1,aE e];simp
 |p::a,w::b,i+1,m,nd,h1,d,e=>by ext bindC;show rN (VU.mp nd).2 (by simpa using h1) (by simpa using d) e
def start(N:G Str)(a:G V):St:=a.map M++UH (N.length - a.length) P
def eP(h:sU)(P:UZ)(w:Vf)(K:lD)(c:Str->z U)(base:Heap)(N:G Str)(b:Str)(a:WA)(f:I)(g:U)(A:Vb)(outer:G Env)(s:UC)(H:Hp)(E:XK):Cx where
 prog:=P
 w:=w
 K:=K
 mg:=c
 base:=base
 A:=A.deeper (envOfC b a s.heap.objs.size f g)
 N:=N
 s₀:=s
 H₀:=H
 env:=envOfC b a s.heap.objs.size f g
 outer:=outer
 stack:=envOfC b a s.heap.objs.size f g::outer
 ex:=[]
 calm:=S
 fn:=λ_=>S
 pn:=[]
 xe:=λe i=>wpAny (model P w) (A.deeper (envOfC b a s.heap.objs.size f g)) (leaving (envOfC b a s.heap.objs.size f g) e) (λ_ d=>h outer H s E e d) (λj d=>h outer H s E j d) i
def wF{sc:WA}(h:sc.names.lookup x=M .cell):∃c,(Wu n sc.names []).lookup x=M c:=by let q:=Xg sc.names n [] (.inl h);show V9.mp q
def AD{K:lD}
  (S:WK N ps scope) (hd:A.handled=Ld) (e0:Env0 J w K mg base A outer s H) (C:vs.length=ps.length) (r:Vals vs us)
  (x:InCallC s s.heap.objs.size (bindL (envOfC qual scope s.heap.objs.size f cd).kindOf (ps.zip us) λ_=>Ld) (Wu (s.heap.objs.size+1) scope.names []) (bindC (envOfC qual scope s.heap.objs.size f cd).kindOf (ps.zip us) λ_=>Ld) s1):
  Inv (eP CX J w K mg base N qual scope f cd A outer s H E) [] (start N vs) H s1:=by
 let G:ps.length<=N.length:=by let:=ef Yd S.pre;rw[VY]at this;ext
 let(n,B,rfl,t):=x.done;let g:∀b:I,b∉(eP CX J w K mg base N qual scope f cd A outer s H E).ex:=λb z=>a7 (show b∈([]:bb I)from z) (by simp);show#[#[e0.mod,S.kind,W,W,UG _,λy z c n d=>?_,λy j=>?_,λy c _ h=>?_,λ_=>hd,Vb.frames_deeper e0.frames,.inr #[W,W],λb z=>a7 z (g b),e0.bs,e0.bsz,λb _ _=>g b,λb z=>a7 z (g b),e0.Y7,e0.frf],
  W,e0.bare,Un.kept t,#[_,x.toInCall.ns,λi y v n d F=>?_],λy c h=>#[_,x.cell y c h],e0.VQ.fresh (UG _),λy c h=>?_,λp m=>a7 (show p∈([]:bb (I×Obj))from m) (by simp),e0.VQ.kept t,?_]
 .show name_of_addr x.apart (Wi n) (Wi d)
 .let j:=j
  rcases j with j|j
  .show wF j
  .show a7 W (S.aem _ (Wi j))
 .show Yw (x.above y c (Wi h))
 .let L:i<vs.length:=by
   unfold start at d;by_cases L:i<vs.length
   .show L
   .rw[Va (by simpa using L)]at d;rw[WG]at d;split at d<;>ext d
  let Q:vs[i]?=M v:=by
   unfold start at d;rw[UL (by simpa using L),UJ]at d;cases e:vs[i]? with
   |none=>rw[e]at d;ext d
   |some a=>rw[e]at d;ext d;rfl
  let(u,o,O):=r.get Q;let m:ps[i]?=M y:=by rw[<-S.pre,List.getElem?_take_of_lt ()];show n
  let l:ps.Nodup:=by rw[<-S.pre];show S.nd.sublist (List.take_sublist _ _)
  show#[u,O,?_];rcases S.par y (UX m)with k|k
  .show .inl #[k,rT l m o k]
  .let(c,e):=wF k;show .inr #[.inl k,c,e,?_];let q:=x.cell y c e;rw[rN l m o (by show scope.names.lookup y≠_;rw[k];decide)]at q;show q
 .show e0.VQ.fresh (Yw (x.above y c (Wi h)))
 .ext start;show _=N.length;rw[UE,Uy,VR];ext
def CZ{m:sU}{P:UZ}{w:Vf}{K:lD}{l:Str->z U}{base:Heap}{k:Nat}{f:Uz}{name qual:Str}{params:Arguments}{body:G Wk}{scope:WA}{F kV doc pm g ct X:U}{an T:z Uz}
  {C:Array (z U)} {N j:G Str} {sp:Sp} (Y:K.lookup f=M #[X,T,.func (V3 name qual params body scope F kV doc pm an g ct),C]) (D:XO K g qual=Uv) (S:WK N j scope)
  (len:∀c H Q E,sp c H Q E->c.length=j.length)
  (Xx:∀(A:Vb) (outer:G Env) (s:UC) (H:Hp) (c:G V) (Q:VK) (E:XK),Wr k (A.deeper (envOfC qual scope s.heap.objs.size f g))->sp c H Q E->
   ∃t,Z2 (eP m P w K l base N qual scope f g A outer s H E) body t/\t {nx:=λ_ d=>Q .WL d,rt:=Q} (start N c) H):
  FnOk P w K l base m (k+1) f (V3 name qual params body scope F kV doc pm an g ct) j sp:=by
 show#[len,λA outer s H args us c Q E L e0 hb r i=>?_];let hl:=len _ _ _ _ i;let O:K.In s.heap:=e0.mod.kin.keeps λb o e=>(e0.bs b o e).1;let lim:s.heap.NoLimit:=e0.mod.nolimit.keeps λb o e=>(e0.bs b o e).1;let X4:∀y∈j.zip us,scope.names.lookup y.1=M .local\/(scope.names.lookup y.1=M .cell/\((Wu (s.heap.objs.size+1) scope.names []).lookup y.1).isSome=Uv):=λ#[n,v] Z=>by
  rcases S.par n (XJ Z).1 with q|q
  .show .inl q
  .show .inr #[q,Xg _ _ _ (.inl q)]
 show codeAny_call_function L.depth (O _ _ Y) W S.co S.gen W (PySem.W.codeRec_of O D) (hb _ _ _ _ ?_);show wpAny_newFunctionEnv_cells S.kind X4 λenv he s1 x=>?_;subst he;show#[lim.keeps x.toInCall.keep,codeAny_func ?_];let(t,ht,hq):=Xx A outer s H c Q E (L.deeper _) i;let I:Inv (eP m P w K l base N qual scope f g A outer s H E) [] (start N c) H s1:=AD S L.hd e0 hl r x;show wpAny_mono (ht [] s1 (start N c) H _ I hq) (λfl p h=>?_) λe p h=>h
 let fin:∀{a:St} {d:Hp} {v:V} {u:U},Inv (eP m P w K l base N qual scope f g A outer s H E) [] a d p->RelV v u->Q v d->CE outer P w H s Q u p:=
  λ{a d v u} J B q=>#[v,d,J.os,J.bare,J.base,J.VQ,B,q]
 cases fl with
 |ret u=>let(v,a,d,J,B,q):=h;show fin J B q
 |next=>let(a,d,J,q):=h;show fin (v:=V.WL) (u:=Ut.none) J W q
 |brk=>let(_,_,_,q):=h;show False.elim q
 |cont=>let(_,_,_,q):=h;show False.elim q
section
variable{X:Cx}{x:Str}{p Z:Pos}{e:U4}{es:bb U4}{t:TA}{Y T:String}{r:bb V->Hp->VK->Prop}
def Ew(r:G V->Hp->VK->Prop)(t:TA):TE:=λa H Q=>t a H λd b=>r d b Q
def Ch(o:W3 X (.builtin Y) r)(m:Gl X x)(hm:X.mg x=P)(l:VF x=M (.builtin Y))(k:PA X (e::es) t)(c:x≠ "__name__":=by decide)(b:(x==("__debug__":Str))=R:=by decide)
  (n:UW (e::es) X.env=(R,eval e X.env)::UW es X.env:=by rfl) (q:(backTo Z (UW es X.env)).any (·.1)=R:=by rfl):PE X (.Call (.Name x p) (e::es) [] Z) (Ew r t):=by
 intro a s d H Q I h;show Ww (kI I m hm l ?_ c b);show agm (bT (k Z a s d H _ I h) λf g #[w,v,u,i,j]=>o a g d v w f Q u i j) n q
def Bz(o:W3 X (.type T) r)(m:Gl X x)(hm:X.mg x=P)(l:VF x=M (.type T))(k:PA X (e::es) t)(c:x≠ "__name__":=by decide)(b:(x==("__debug__":Str))=R:=by decide)
  (n:UW (e::es) X.env=(R,eval e X.env)::UW es X.env:=by rfl) (q:(backTo Z (UW es X.env)).any (·.1)=R:=by rfl):PE X (.Call (.Name x p) (e::es) [] Z) (Ew r t):=by
 intro a s d H Q I h;show Ww (kI I m hm l ?_ c b);show Wd (bT (k Z a s d H _ I h) λf g #[w,v,u,i,j]=>o a g d v w f Q u i j) n q
end
end L2
namespace HT
open PySem PyProof.Rows
section
open PySem.SeqAt
open PySem.AutoSeq1 (wpAny_loadPart')
open PySem.MeetsSeq PySem.MeetsSeq2 PySem.MeetsSeq3
end
section
variable{Z:UZ}{w:Vf}{A:Vb}{E:Ut->UC->Prop}{s:UC}
def cat_tup{t b:I}{c ws:G U}{Q:U->UC->Prop}(u:IsTup s.heap t c.toArray)(v:IsTup s.heap b ws.toArray)(p:c≠[])
  (z:ws=[]->Q (.ref t) s) (y:ws≠[]->Q (.ref s.heap.objs.size) {s with heap:=s.heap.push {cls:=.type "tuple",data:=.seq (c++ws).toArray}})
  (k:c.length+ws.length<=UK):wpAny (model Z w) A (V8 .Add (.ref t) (.ref b)) Q E s:=by
 let((cls,dd,data,m),j,r,n,q):=id u;let((B,h,l,d),a,g,o,f):=id v;simp only at r q g f;subst r q g f;let e:c.toArray++ws.toArray=(c++ws).toArray:=by simp
 by_cases i:ws=[]
 .show acv #[_,j,W] #[_,a,W] aaq abU Yn Ye (X6 _ _)
   (tuple_addW1 t b c.toArray ws.toArray n o dd h m d (by simpa using p) (by simp[i])) #[j,a,z i]
 .show acv #[_,j,W] #[_,a,W] aaq abU Yn Ye (X6 _ _)
   (tuple_addW2 t b c.toArray ws.toArray n o dd h m d (by simpa using p) (by simpa using i) (by rw[UN,UN];show k)) #[j,a,?_]
  rw[e];show y i
def sIx(n d:Nat):z Int->Nat
 |none=>d
 |some v=>if v<0 then(v+(n:Int)).toNat else min v.toNat n
theorem sIx_none(n d:Nat):sIx n d P=d:=W
def sIx_nat(n d k:Nat):sIx n d (M (k:Int))=min k n:=by show(if(k:Int)<0 then((k:Int)+(n:Int)).toNat else min (k:Int).toNat n)=min k n;rw[aE (),VO]
def Me(n d:Nat)(hd:d<=n)(o:z Int):sIx n d o<=n:=by
 cases o with
 |none=>show hd
 |some v=>
  show(if v<0 then(v+(n:Int)).toNat else min v.toNat n)<=n;by_cases a:v<0
  .rw[ax a];ext
  .rw[aE a];show ZT _ _
def zd(v:Int)(n d:Nat):(if v<0 then max (v+(n:Int)) 0 else min v (n:Int))=((sIx n d (M v):Nat):Int):=by
 show(if v<0 then max (v+(n:Int)) 0 else min v (n:Int))=(((if v<0 then(v+(n:Int)).toNat else min v.toNat n):Nat):Int);by_cases a:v<0
 .simp only[ax a];ext
 .simp only[aE a];ext
def xV(lo b:z Int)(n:Nat):Builtin.Slice.sliceAdjust lo b 1 (n:Int)=(((sIx n 0 lo:Nat):Int),((sIx n n b:Nat):Int)):=by
 let a:¬((1:Int)<0):=by ext
 ext Builtin.Slice.sliceAdjust;simp only[a,if_false];show Prod.ext ?_ ?_
 .cases lo with
  |none=>rfl
  |some v=>show zd v n 0
 .cases b with
  |none=>rfl
  |some v=>show zd v n n
def wZ(i j:Nat):Builtin.Slice.slicePlaces (i:Int) (j:Int) 1=j - i:=by
 ext Builtin.Slice.slicePlaces;let a:(1:Int)>0:=by ext
 simp only[a,if_true,afl];split<;>ext
def gz(p:Yy v o)(h:Q o s):wpAny (model Z w) A (Builtin.Slice.slicePartIndex v) Q E s:=by
 cases p with
 |none=>show slicePart_none h
 |int i t=>show slicePart_int h
def iw{lo c:z Int}{Q:Int×Int×Nat->UC->Prop}(e:s.heap.IsSliceOf J C o .none)(pl:Yy C lo)(d:Yy o c)
  (h:Q (((sIx n 0 lo:Nat):Int),1,sIx n n c - sIx n 0 lo) s):wpAny (model Z w) A (Builtin.Slice.sliceApplied (.ref J) (pure (n:Int))) Q E s:=by
 let(g,a,f,b):=id e;unfold Builtin.Slice.sliceApplied Builtin.Slice.sliceFields;show CL (CL (Vo a b W (CL (Vo a b W (CL (Vo a b W (UD ?_)))))));show CL (slicePart_none ?_);rw[aE ()];show CL (gz pl (CL (gz d (CL (UD ?_)))));show wpAny _ _ (match Builtin.Slice.sliceAdjust lo c 1 (n:Int)with|(lo,c)=>pure (lo,(1:Int),Builtin.Slice.slicePlaces lo c 1)) _ _ s;rw[xV lo c n];show wpAny _ _ (pure (((sIx n 0 lo:Nat):Int),(1:Int),Builtin.Slice.slicePlaces ((sIx n 0 lo:Nat):Int) ((sIx n n c:Nat):Int) 1)) _ _ s;rw[wZ];show UD h
def DR(xs:Array U)(i k:Nat):((UR k).filterMap λ(m:Nat)=>xs[((i:Int)+(m:Int)*1).toNat]?).toArray=((xs.toList.drop i).take k).toArray:=by
 let e:(λ(m:Nat)=>xs[((i:Int)+(m:Int)*1).toNat]?)=λm=>xs[i+m]? :=by
  funext m;let:((i:Int)+(m:Int)*1).toNat=i+m:=by ext
  rw[this]
 rw[e];let:=pick_run xs i k;rw[acf]at this;let e2:((λx=>xs[x]?)∘λx=>i+x)=λm=>xs[i+m]? :=W;rw[e2]at this;rw[this]
def getItem_tuple_cut{lo c:z Int}(a:IsTup s.heap t items)(i:s.heap.IsSliceOf C vl J .none)(pl:Yy vl lo)(j:Yy J c)
  (m:¬(sIx items.size 0 lo=0/\sIx items.size items.size c=items.size))
  (h:Q (.ref s.heap.objs.size) {s with heap:=s.heap.push {cls:=.type "tuple",data:=.seq ((items.toList.drop (sIx items.size 0 lo)).take (sIx items.size items.size c - sIx items.size 0 lo)).toArray}})
  (k:items.size<=UK):wpAny (model Z w) A (getItem (.ref t) (.ref C)) Q E s:=by
 let b:sizeOk (.seq ((items.toList.drop (sIx items.size 0 lo)).take (sIx items.size items.size c - sIx items.size 0 lo)).toArray):=by show((items.toList.drop (sIx items.size 0 lo)).take (sIx items.size items.size c - sIx items.size 0 lo)).toArray.size<=UK;rw[UN,VY,Xy,Vv];ext
 let r:sIx items.size items.size c<=items.size:=Me _ _ (UG _) c;let(l,d,f,n):=id i;let g:s.TypeIs (.ref C) "slice":=#[l,d,f];ext getItem
 try specialize VW ?_
 first|show CL (UD ?_)|skip
 show CL (Z7 a.typeIs () ?_);show CL (V4 a.typeIs Vj
  (Wf Vj a.typeIs entry_tuple_getitem ?_ (args_tuple_getitem _ _)))
 show wpAny _ _ (Builtin.Tuple.tupleItemsOf (.ref t)>>=_) _ _ s;show CL (tupleItemsOf_ a ?_);show CL (Xb g ?_);rw[ax ()];show CL (iw i pl j ?_);let e:¬((((sIx items.size 0 lo:Nat):Int)==0&&(1:Int)==1&&(sIx items.size items.size c - sIx items.size 0 lo)==items.size)=S):=by intro q;rw[Uu,Uu]at q;let p:=eq_of_beq q.1.1;let o:=eq_of_beq q.2;show m #[by ext,by ext]
 show wpAny _ _ (if(((sIx items.size 0 lo:Nat):Int)==0&&(1:Int)==1&&(sIx items.size items.size c - sIx items.size 0 lo)==items.size)=S then _ else _) _ _ s;rw[aE e,DR]
 first
  |show CL (Vw (UD #[_,W,UD h]) b)
  |show CL (Vw (CL (UD (UD #[_,W,UD h]))) b)
  |show CL (CL (Vw (UD (UD #[_,W,UD h])) b))
  |show CL (CL (Vw (UD #[_,W,UD h]) b))
end
end HT
namespace L2
open PySem PySem.Spec PyProof.Rows
abbrev TO:=St->Hp->(z Int->Hp->Prop)->Prop
def PO(X:Cx)(e:z U4)(t:TO):Prop:=
 ∀(a:G (I×Obj)) (s:UC) (b:St) (H:Hp) (Q:z Int->Hp->Prop),Inv X a b H s->t b H Q->
  wpAny (model X.prog X.w) X.A (evalPart e X.env) (λu d=>∃o f,Inv X a b f d/\Yy u o/\Q o f) X.xe s
def zH:TO:=λ_ H Q=>Q P H
def C5(t:TE):TO:=λa H Q=>t a H λx b=>∃i,x=.int i/\Q (M i) b
def kB:∀{us:G U},Vals (ns.map V.int) us->IntsAre us ns:=by
 induction ns with
 |nil=>intro us r;rw[W4]at r;ext r;show .nil
 |cons n ns d=>
  intro us r;rw[UU]at r;cases r with
  |cons b a=>let(t,e):=b;subst e;show .cons n t (d a)
section
variable{X:Cx}{e:U4}{U:TE}{Z Y:bg U4}{S R:TO}{pos P:Pos}
def He:PO X Ld zH:=by intro a s b H Q I h;rw[abV];show UD #[Ld,H,I,.none,h]
def Aj(h:PE X e U):PO X (M e) (C5 U):=by intro a s b H Q I g;rw[evalPart_some];show bT (h a s b H _ I g) λu m a=>?_;let(x,l,j,d,f):=a;let(i,rfl,q):=f;let(t,rfl):=d;show#[M i,l,j,.int i t,q]
def MK(X:Cx)(r:V->z Int->z Int->Hp->VK->Prop):Prop:=
 ∀(a:G (I×Obj)) (s:UC) (b:St) (H:Hp) (x:V) (v f d:Ut) (Z Y:z Int) (g:I) (Q:VK),Inv X a b H s->RelV x v->s.heap.IsSliceOf g f d .none->Yy f Z->Yy d Y->r x Z Y H Q->
  ∃T id,typeLookup (.type T) "__getitem__"=pure (M (.builtin id))/\s.TypeIs v T/\wpAny (model X.prog X.w) X.A (getItem v (.ref g)) (EP X a b Q) X.xe s
def Te(r:V->z Int->z Int->Hp->VK->Prop)(U:TE)(S R:TO):TE:=λa H Q=>U a H λx f=>S a f λl d=>R a d λu b=>r x l u b Q
def Eb{r:V->bg Int->bg Int->Hp->VK->Prop}(E:MK X r)(J:PE X e U)(F:PO X Z S)(B:PO X Y R):PE X (.Subscript e (.Slice Z Y Ld P) pos) (Te r U S R):=by intro a s f H Q I h;show Subscript_ (bT (J a s f H _ I h) λv n a=>?_);let(x,H1,O,o,y):=a;show wpAny_Slice (bT (F a n f H1 _ O y) λi m #[l,A,N,pl,t]=>bT (B a m f A _ N t) λg d a=>?_);let(u,j,w,z,p):=a;rw[abV];show UD ?_;let L:Inv X a f j {d with heap:=d.heap.push {cls:=.type "slice",data:=.fields #v[i,g,.none]}}:=w.kept (t':=d.toks) λb ob q=>b3 _ q;let(T,id,K,C,G):=E a {d with heap:=d.heap.push {cls:=.type "slice",data:=.fields #v[i,g,.none]}} f j x v i g l u d.heap.objs.size Q L o (Heap.IsSliceOf.new ..) pl z p;show wpAny (model X.prog X.w) X.A (subscriptTail e (.Slice Z Y Ld P) v (.ref d.heap.objs.size)) (EP X a f Q) X.xe {d with heap:=d.heap.push {cls:=.type "slice",data:=.fields #v[i,g,.none]}};show tail_any (ops:=[.ref d.heap.objs.size,v]) C K G (by with_unfolding_all rfl)
def A1(xs:G V)(Z Y:z Int):G V:=(xs.drop (HT.sIx xs.length 0 Z)).take (HT.sIx xs.length xs.length Y - HT.sIx xs.length 0 Z)
def nw(xs:G V)(Z Y:z Int):(A1 xs Z Y).length<=xs.length:=by ext A1;rw[VY,Xy];ext
def QM(K:lD):V->z Int->z Int->Hp->VK->Prop:=λx Z Y H Q=>∃a xs,x=.ref a/\Ya K H a xs/\
 ¬(HT.sIx xs.length 0 Z=0/\HT.sIx xs.length xs.length Y=xs.length)/\∀p,H p=Ld->Q (.ref p) (aX H p (.tup (A1 xs Z Y)))
def NA:MK X (QM X.K):=by
 intro f s t H x v w u Z Y y Q I j o pl l h;let(a,xs,rfl,m,n,q):=h;ext j;let(p,r,i,g):=I.tuple m;let d:p.toArray.size=xs.length:=by rw[UN];show r.length.symm
 show#["tuple",_,Vj.lookup,i.typeIs,?_];show HT.getItem_tuple_cut i o pl l (by rw[d];show n) ?_ (by rw[d];show g);rw[d];show#[.ref s.heap.objs.size,_,I.laid (λb z q=>b3 _ q) (UG _) ?_,W,q _ (I.VQ.fresh (UG _))];show#[Vk (nw xs Z Y) g,_,(r.drop (HT.sIx xs.length 0 Z)).take (HT.sIx xs.length xs.length Y - HT.sIx xs.length 0 Z),Zw.new _ _]
def KK(K:lD):R2:=λx y H Q=>∃a b xs ys,x=.ref a/\y=.ref b/\Ya K H a xs/\Ya K H b ys/\xs≠[]/\xs.length+ys.length<=UK/\
 (ys=[]->Q (.ref a) H)/\(ys≠[]->∀p,H p=Ld->Q (.ref p) (aX H p (.tup (xs++ys))))
def Vals.aas(r:Vals xs us):us=[]↔xs=[]:=by
 cases r with
 |nil=>simp
 |cons _ _=>simp
def Ha:OpR X (V8 .Add) (KK X.K):=by intro g s t H x y v u Q I l j h;let(a,b,xs,A,rfl,rfl,J,r,p,i,n,m):=h;ext l;ext j;let(E,f,o,_):=I.tuple J;let(C,d,P,_):=I.tuple r;show HT.cat_tup o P (λz=>p (f.aas.mp z)) (λz=>#[.ref a,H,I,W,n (d.aas.mp z)]) (λz=>?_) (by rw[<-f.length,<-d.length];show i);show#[.ref s.heap.objs.size,_,I.laid (λb B q=>b3 _ q) (UG _) ?_,W,m (λw=>z (d.aas.mpr w)) _ (I.VQ.fresh (UG _))];show#[by rw[UE];show i,_,f.append d,Zw.new _ _]
end
def LL(n:Nat)(i:Int):z Nat:=if 0<=i then(if i<n then M i.toNat else P)else if -(n:Int)<=i then M (i+n).toNat else P
def jV(xs:G α)(i:Int):z α:=(LL xs.length i).bind λj=>xs[j]?
def Il(h:LL n i=M j):seqIndex? i n=M j/\j<n/\ -(n:Int)<=i/\i<n:=by
 unfold LL at h;by_cases b:0<=i
 .rw[ax b]at h
  by_cases a:i<n
  .rw[ax a]at h;let e:=UT h;show#[by rw[seqIndex_of b a,e],by ext,by ext,a]
  .rw[aE a]at h;ext h
 .rw[aE b]at h
  by_cases a: -(n:Int)<=i
  .rw[ax a]at h;let e:=UT h;show#[by rw[seqIndex_neg () a,e],by ext,a,by ext]
  .rw[aE a]at h;ext h
def sB(h:jV xs i=M v):∃j,seqIndex? i xs.length=M j/\xs[j]?=M v/\j<xs.length/\ -(xs.length:Int)<=i/\i<xs.length:=by
 unfold jV at h;cases e:LL xs.length i with
 |none=>rw[e]at h;ext h
 |some j=>rw[e]at h;let(f,d,b,a):=Il e;show#[j,f,h,d,b,a]
def zR{j:Nat}(h:xs[j]?=M v):jV xs (j:Int)=M v:=by
 let a:=(Uw.mp h).1;let e:LL xs.length (j:Int)=M j:=by ext LL;rw[ax (),ax ()];simp
 ext jV;rw[e];show h
def yR(b:U4):Prop:=∀o i,subscripted b R o i=operate [o,i] (getItem o i)
def IxR(X:Cx)(r:R2):Prop:=
 ∀(d a:U4) (b:G (I×Obj)) (s:UC) (e:St) (H:Hp) (x y:V) (v u:U) (Q:VK),Inv X b e H s->RelV x v->RelV y u->r x y H Q->
  subscripted a R v u=operate [v,u] (getItem v u)->wpAny (model X.prog X.w) X.A (subscriptTail d a v u) (EP X b e Q) X.xe s
def Qa(X:Cx)(id:String)(r:V->G V->Hp->VK->Prop):Prop:=
 ∀(a:G (I×Obj)) (s:UC) (b:St) (H:Hp) (x:V) (xs:G V) (v:U) (d:G U) (Q:VK),Inv X a b H s->RelV x v->Vals xs d->r x xs H Q->
  wpAny (model X.prog X.w) X.A (call (.builtin id) (v::d)) (EP X a b Q) X.xe s
section
variable{X:Cx}{a b:U4}{ta tb:TE}{pos:Pos}
def IxR.or(h:IxR X r)(c:IxR X r'):IxR X (λx y H Q=>r x y H Q\/r' x y H Q):=by
 intro d e f s g H x y v u Q I j i q l;rcases q with q|q
 .show h d e f s g H x y v u Q I j i q l
 .show c d e f s g H x y v u Q I j i q l
def LN{r:R2}(l:IxR X r)(c:PE X a ta)(m:PE X b tb)(j:yR b):PE X (.Subscript a b pos) (GI r ta tb):=by intro d s e H Q I h;show Subscript_ (Pu c m I h λv u f x y o n i g q=>l a b d f e o x y v u Q n i g q (j _ _))
def Ru(K:lD):R2:=λx y H Q=>∃p xs i v,x=.ref p/\y=.int i/\Yr K H p xs/\jV xs i=M v/\Q v H
def Rp(K:lD):R2:=λx y H Q=>∃p xs i v,x=.ref p/\y=.int i/\Ya K H p xs/\jV xs i=M v/\Q v H
def Qd:R2:=λx y H Q=>∃z i c,x=.str z/\y=.int i/\z.length<=UK/\jV z.cps.toList i=M c/\Q (.str #[#v[c]]) H
def Kj:IxR X (Ru X.K):=by
 intro g l d s C H x y v u Q I F E h o;let(p,xs,i,z,rfl,rfl,G,L,q):=h;ext F;let(t,rfl):=E;let(P,r,pl,R):=I.list G;let(j,f,O,S,N,M):=sB L;let(w,B,m):=r.get O;let J:=r.length;let K:=tN;let e:EP X d C Q w s:=#[z,H,I,m,q];by_cases A:0<=i
 .let n:i.toNat=j:=by
   rw[seqIndex_of A M]at f;show UT f
  show item_listR pl.isList A () (by rw[n];simpa using B) e o
 .let n:(i+(P.toArray.size:Int)).toNat=j:=by
   rw[seqIndex_neg () N]at f;rw[UN,<-J];show UT f
  show subscriptTail_builtinR pl.isList.typeIs aeL.lookup
   (wpAny_getItem_list_neg pl.isList () (by rw[UN]<;>ext) () (by rw[n];simpa using B) #[W,e]) o
def MO:IxR X (Rp X.K):=by
 intro e f d s m H x y v u Q I o n h A;let(p,xs,i,z,rfl,rfl,B,E,q):=h;ext o;let(t,rfl):=n;let(P,r,pl,L):=I.tuple B;let(j,G,F,O,N,M):=sB E;let(w,J,g):=r.get F;let C:=r.length;let K:=tN;let l:EP X d m Q w s:=#[z,H,I,g,q];show subscriptTail_builtinR pl.typeIs slot_tuple_getitem.lookup
  (getItem_tuple pl () () (by rw[UN,<-C];show G) (by simpa using J) #[W,l]) A
def Mo:IxR X Qd:=by
 intro d e f s B H x y v u Q I m l h n;let(z,i,c,rfl,rfl,E,p,q):=h;let(t,rfl):=m;let(C,rfl):=l;let(j,g,A,F,w,r):=sB p;let o:z.cps.toList.length=z.length:=by simp[Str.length]
 rw[o]at g w r;let J:=tN;show tail_any (typeIs_str s z t) slot_str_getitem.lookup (getItem_str (by let e1:decide (i< -(2^63:Int))=R:=a5 ();let e2:decide (i≥2^63)=R:=a5 ();rw[e1,e2,aaC]) (by rw[g];simpa using A) #[.str #[#v[c]],H,I.tok _,#[_,W],q]) n
def Q2(K:lD):R2:=λx y H Q=>Ru K x y H Q\/Rp K x y H Q\/Qd x y H Q
theorem Dt:IxR X (Q2 X.K):=Kj.or (MO.or Mo)
def ub(lo c:z Int)(n:Nat):(sliceBounds lo c P n).1=((HT.sIx n 0 lo:Nat):Int)/\(sliceBounds lo c P n).2.1=((HT.sIx n n c:Nat):Int)/\(sliceBounds lo c P n).2.2=1:=by
 show#[?_,?_,W]
 .cases lo with
  |none=>simp[sliceBounds,HT.sIx]
  |some i=>
   simp only[sliceBounds,HT.sIx,acg,show(1:Int)>0 by decide,if_true];by_cases h:i<0
   .simp only[h,if_true]<;>ext
   .simp only[h,if_false]<;>ext
 .cases c with
  |none=>simp[sliceBounds,HT.sIx]
  |some i=>
   simp only[sliceBounds,HT.sIx,acg,show(1:Int)>0 by decide,if_true];by_cases h:i<0
   .simp only[h,if_true]<;>ext
   .simp only[h,if_false]<;>ext
def rn(d:G U)(lo c:z Int):slicePick d.toArray lo c P=((d.drop (HT.sIx d.length 0 lo)).take (HT.sIx d.length d.length c - HT.sIx d.length 0 lo)).toArray:=by let(g,f,e):=ub lo c d.toArray.size;ext slicePick;rw[g,f,e];simp only[sliceRange_one,pick_run,UN]<;>rfl
def Ri(K:lD):V->z Int->z Int->Hp->VK->Prop:=λx lo d H Q=>∃a xs,x=.ref a/\Yr K H a xs/\∀p,H p=P->Q (.ref p) (aX H p (.lst (A1 xs lo d)))
def Kw:MK X (Ri X.K):=by intro e s n H x v p o lo y t Q I g m pl i h;let(a,xs,rfl,l,q):=h;ext g;let(w,r,f,j):=I.list l;let d:=r.length;show#["list",_,aeL.lookup,f.isList.typeIs,?_];show wpAny_getItem_list_slice f.isList m pl i .none (by simp) ?_ (by rw[UN]<;>ext);rw[rn,<-d];show#[.ref s.heap.objs.size,_,I.laid (λb u q=>b3 _ q) (UG _) ?_,W,q _ (I.VQ.fresh (UG _))];show#[Vk (nw xs lo y) j,_,0,(r.drop (HT.sIx xs.length 0 lo)).take (HT.sIx xs.length xs.length y - HT.sIx xs.length 0 lo),cc _ W]
def W3.or(h:W3 X f r)(c:W3 X f r'):W3 X f (λxs H Q=>r xs H Q\/r' xs H Q):=by
 intro d s e H xs g Q I i q;rcases q with q|q
 .show h d s e H xs g Q I i q
 .show c d s e H xs g Q I i q
def sE:W3 X (.type "list") (λxs H Q=>∃p ys,xs=[.ref p]/\(Yr X.K H p ys\/Ya X.K H p ys)/\∀l,H l=P->Q (.ref l) (aX H l (.lst ys))):=by
 intro j s E H xs G Q I r h;let(p,ys,rfl,v,q):=h;let(u,rfl,F):=jj r;ext F
 let z:∀(f:bb U),Vals ys f->ys.length<=UK->∀(d:Heap) (i:Nat),(∀b w,s.heap.get? b=M w->d.get? b=M w)->
   d.get? s.heap.objs.size=M {cls:=.type "list",dict:=P,data:=.seq f.toArray i,slots:= #v[]}->EP X j E Q (.ref s.heap.objs.size) {s with heap:=d}:=λf g t d i m e=>
  #[.ref s.heap.objs.size,_,I.laid m (UG _) (show ObjOk X.prog X.w _ d _ (.lst ys)from#[t,f,i,g,e]),W,q _ (I.VQ.fresh (UG _))]
 rcases v with v|v
 .let(f,g,pl,t):=I.list v;let y:=g.length;let(o,A,C,n,B):=pl.isList;show ajv p (.inl W) A C B (λd i m e=>z f g t d i m e) (by simp only[UN]<;>ext)
 .let(f,g,pl,t):=I.tuple v;let y:=g.length;let(o,A,C,n,B):=pl;show ajv p (.inr W) A C B (λd i m e=>z f g t d i m e) (by simp only[UN]<;>ext)
def rh:W3 X (.type "tuple") (λxs H Q=>∃p ys,xs=[.ref p]/\((Yr X.K H p ys/\∀l,H l=P->Q (.ref l) (aX H l (.tup ys)))\/(Ya X.K H p ys/\Q (.ref p) H))):=by
 intro g s A H xs B Q I r h;let(p,ys,rfl,h):=h;let(u,rfl,t):=jj r;ext t;rcases h with⟨f,q⟩|⟨f,q⟩
 .let(m,d,pl,i):=I.list f
  let j:=d.length;show call_tuple_list pl.isList (λy v=>?_) (by simp only[UN]<;>ext);let n:=I.kept (t':=s.toks) v
  let z:=
   n.laid (t':=s.toks) (λb o e=>b3 _ e) (UG _) (show ObjOk X.prog X.w _ _ _ (.tup ys)from#[i,m,d,Zw.new _ _])
  show#[.ref y.objs.size,_,z,W,q _ (n.VQ.fresh (UG _))]
 .let(m,d,pl,i):=I.tuple f;show call_tuple_same pl #[.ref p,H,I,W,q]
def Sq(K:lD)(T:String)(x:V)(H:Hp):Prop:=match x with
 |.str _=>T= "str"
 |.int _=>T= "int"
 |.ref p=>(T= "list"/\∃xs,Yr K H p xs)\/(T= "tuple"/\∃o,K.lookup p=M o/\o.cls=.type "tuple"/\o.dict=P)\/
   (T= "dict"/\((∃d,H p=M (.dK d))\/∃d,H p=M (.dT d)))\/(T= "set"/\∃S n,H p=M (.set S n))
 |_=>False
def C9(I:Inv X pins σ H s)(r:RelV x v)(ty:Sq X.K T x H):
  s.TypeIs v T/\∀a,v=.ref a->∃k,s.heap.get? a=M k/\k.dict=P:=by
 cases x with
 |str z=>let(t,rfl):=r;cases(show T= "str" from ty);show#[typeIs_str s z t,λ_ e=>nomatch e]
 |int i=>let(t,rfl):=r;cases(show T= "int" from ty);show#[ZU s i t,λ_ e=>nomatch e]
 |ref p=>
  ext r;rcases ty with⟨rfl,xs,h⟩|⟨rfl,o,d,j,g⟩|⟨rfl,d⟩|⟨rfl,S,n,d⟩
  .let(l,_,pl,_):=I.list h;show#[pl.isList.typeIs,λa e=>?_];ext e;let(o,n,e,c,g,_):=pl;show#[o,e,g]
  .show#[#[o,I.ZJ p o d,j],λa e=>?_];ext e;show#[o,I.ZJ _ o d,g]
  .let z:∃o,s.heap.get? p=M o/\o.ExactDict:=by
    rcases d with⟨m,d⟩|⟨m,d⟩
    .let(_,_,_,_,o,_,_,e,f,_):=I.VQ p _ d;show#[o,e,f]
    .let(_,_,_,_,o,_,_,e,f,_):=I.VQ p _ d;show#[o,e,f]
   let(o,e,f):=z;show#[#[o,e,f.1],λa e2=>?_];ext e2;show#[o,e,f.2.1]
  .let(o,_,_,_,e,f,_):=I.VQ p _ d;show#[#[o,e,f.1],λa e2=>?_];ext e2;show#[o,e,f.2.1]
 |_=>show False.elim ty
def PX(K:lD)(T:String)(r:V->G V->Hp->VK->Prop)(to:TE):TE:=λe H Q=>to e H λx d=>Sq K T x d/\r x [] d Q
def QE(K:lD)(T:String)(r:V->G V->Hp->VK->Prop)(to:TE)(t:TA):TE:=λd H Q=>to d H λx e=>Sq K T x e/\t d e λxs f=>r x xs f Q
variable{o e:U4}{es:bb U4}{to:TE}{t:TA}{O:Str}{Z Y:Pos}{T U:String}{r:V->bb V->Hp->VK->Prop}
def Ob(c:PlainAttrs T)(slot:Slot T O U)(f:typeOf (.builtin U)=pure (.type "method_descriptor"))(hm:Qa X U r)(p:PE X o to)
  (w:attributeBase o O X.env (eval o X.env)=eval o X.env:=by rfl) (g:(Z.endLine==Y.line)=S:=by rfl):PE X (.Call (.Attribute o O Z) [] [] Y) (PX X.K T r to):=by
 intro d s i H Q I h;show wpAny_Call_method0_late w g (bT (p d s i H _ I h) λv m a=>?_);let(x,y,l,j,ty,n):=a;let(u,q):=C9 l j ty;show#[T,U,c,slot,f,u,q,Calls.callWith_builtin W (PySem.evalArgs_none (hm d m i y x [] v [] Q l j .nil n))]
def Rr(c:PlainAttrs T)(slot:Slot T O U)(g:typeOf (.builtin U)=pure (.type "method_descriptor"))(hm:Qa X U r)(C:PE X o to)(k:PA X (e::es) t)
  (G:attributeBase o O X.env (eval o X.env)=eval o X.env:=by rfl)
  (i:((backTo Y (UW (e::es) X.env)).all (λx=> !x.1)&&(backToKw Y (keywordEach [] X.env)).all (λx=>x.1.isSome)
   &&decide ((e::es).length+([]:bb Yu).length+(if([]:bb Yu).isEmpty then 0 else 1)<30))=S:=by rfl)
  (j:(Z.endLine==Y.line)=S:=by rfl) (B:UW (e::es) X.env=(R,eval e X.env)::UW es X.env:=by rfl) (l:(backTo Y (UW es X.env)).any (·.1)=R:=by rfl):
  PE X (.Call (.Attribute o O Z) (e::es) [] Y) (QE X.K T r to t):=by
 intro d s f H Q I h;show wpAny_Call_method_late G i j W (bT (C d s f H _ I h) λv w a=>?_);let(x,K,p,m,ty,A):=a;let(F,E):=C9 p m ty;show#[T,U,c,slot,g,F,E,?_];let n:=k Y d w f K _ p A;rw[B]at n⊢;show Calls.callWith_builtin (by show(R||(backTo Y (UW es X.env)).any (·.1))=R;rw[l]<;>rfl) (Calls.evalArgs_plain ?_);show bT n λq u #[N,L,J,y,z]=>hm d u f L x N v q Q J m y z
end
def TD(X:Cx)(id:String)(r:V->G V->Hp->VK->Prop):Prop:=
 ∀(a:G (I×Obj)) (s:UC) (b:St) (H:Hp) (x:V) (xs:G V) (v:U) (d:G U) (Q:VK),Inv X a b H s->RelV x v->Vals xs d->r x xs H Q->
  wpAny (model X.prog X.w) X.A (call (.builtin id) (v::d)) (EP X a b Q) X.xe s
theorem Vals.one:∀{x:V} {us:G U},Vals [x] us->∃u,us=[u]/\RelV x u
 |_,_,.cons r .nil=>#[_,W,r]
theorem Vals.rep(h:Vals xs us):∀k:Nat,Vals (UH k xs).flatten (UH k us).flatten
 |0=>.nil
 |k+1=>by rw[VJ,VJ,Wz,Wz];show Vals.append h (Vals.rep h k)
theorem mP(a:G U):∀(k:Nat) (acc:G U),
  Yv (λc b=>c++b) acc.toArray (UH k a.toArray)=(acc++(UH k a).flatten).toArray
 |0,acc=>by simp
 |k+1,acc=>by
  let e:acc.toArray++a.toArray=(acc++a).toArray:=by simp
  let e2:(acc++a)++(UH k a).flatten=acc++(UH (k+1) a).flatten:=by rw[VJ,Wz,Ve]
  rw[<-e2,<-mP a k (acc++a),<-e,VJ,Yz]
section
variable{X:Cx}{Z:bb (Uz×Obj)}{Y:St}{H:Hp}{s:UC}{l b:Uz}{T U Q:bb V}
def Inv.air{d a:G Ut}(I:Inv X Z Y H s)(m:H l=M (.lst T))
  (e:s.heap.get? l=M {cls:=.type "list",data:=.seq d.toArray n}) (i:f d.toArray=a.toArray) (g:Vals U a) (c:U.length<=UK):
  Inv X Z Y (aX H l (.lst U)) {s with heap:=s.heap.update l (Obj.mapSeq f),toks:=t'}:=by
 let q:=alg e f;rw[i]at q;show I.write (by rw[m];show trivial) (.inl W) (λo u j h=>(ck s.heap (Obj.mapSeq f) (dN j)).trans h) #[_,q] ?_;show#[c,a,_,g,q]
theorem Inv.afv(I:Inv X Z Y H s)(a:Vals U Vm)(c:U.length<=UK):
  Inv X Z Y (aX H s.heap.objs.size (.lst U)) {s with heap:=s.heap.push {cls:=.type "list",data:=.seq Vm.toArray},toks:=t'}:=
 I.laid (λ_ _ q=>b3 _ q) (UG _) #[c,Vm,0,a,cc _ W]
theorem Inv.fresh(I:Inv X Z Y H s):H s.heap.objs.size=P:=I.VQ.fresh (UG _)
def Inv.af1(I:Inv X Z Y H s)(d:H l=M (.lst T)):T.length<=UK/\∃(a:G Ut) (n:Nat),Vals T a/\T.length=a.length/\s.heap.get? l=M {cls:=.type "list",data:=.seq a.toArray n}:=by let(z,a,n,r,e):=I.VQ l _ d;show#[z,a,n,r,r.length,e]
def Gd(h:n<=UK):Builtin.List.listTooLong n=R:=by ext Builtin.List.listTooLong;show a5 ()
end
section
variable{X:Cx}
def tM:V->G V->Hp->VK->Prop:=λx a H Q=>∃l xs y,x=.ref l/\a=[y]/\H l=M (.lst xs)/\xs.length<UK/\Q .WL (aX H l (.lst (xs++[y])))
def mi:TD X "list.append" tM:=by intro a s i H x t v j Q I d p h;let(l,xs,y,rfl,rfl,b,m,q):=h;ext d;let(u,rfl,f):=p.one;let(z,g,n,r,o,e):=I.af1 b;show Y3 F.slot_list_append #[_,e,W] F.entry_list_append (F.args_list_append_2 _ _) (PySem.list_append l g.toArray n u (by rw[UN];ext)) #[e,?_];show#[.WL,_,I.air b e (by simp) (r.append (.cons f .nil)) ?_,W,q];rw[UE,WO];ext
def zw(xs:G α)(k:Nat):(UH k xs).flatten.length=k*xs.length:=by
 induction k with
 |zero=>simp
 |succ k a=>rw[VJ,Wz,UE,a,afm,abc]
end
section
variable{Z:UZ}{w:Vf}{A:Vb}{E:Ut->UC->Prop}{s:UC}
set_option maxRecDepth 100000 in
end
end L2
namespace Att
open PySem PySem.W PySem.Calls PyProof.Rows
def nO:∀(d:G Int) (c:G U),WellAll f h c (d.map WData.int)->IntsAre c d:=by
 intro d
 induction d with
 |nil=>intro c w;rw[W4]at w;ext w;show .nil
 |cons n d e=>
  intro c w;rw[UU]at w;cases w with
  |cons a b=>ext a;show .cons _ _ (e _ b)
def A0{l:OpenLaw}(k:l.most=M n)
  (e:l.row.toRowW.claim.pre args=S) (i:WellAll A h vals args):
  ∃a c ns,vals=[Ut.ref a]/\args=[WData.list (ns.map WData.int)]/\h.get? a=M {cls:=.type "list",data:=.seq c.toArray}/\IntsAre c ns/\ns.length<=n:=by
 let j:=(pre_splitW e).1;let o:l.pre.holds [] {args:=args}=S:=(pre_splitW e).2;let(d,r,rfl,z,y):=hasAllW_cons j;obtain rfl:=hasAllW_nil y;let(xs,rfl,w):=hasW_list z;let(ns,rfl):=items_int w;let b:ns.length<=n:=by
  unfold OpenLaw.pre at o;let g:(WTm.not (.lt (.lit (.int (n:Int))) (.len (.arg 0)))).holds [] {args:=[.list (ns.map .int)]}=S:=by let g:=(holds_andW o).1;rw[k]at g;show g
  let f:=condW_of g (w_not (w_lt w_lit (w_len_list (w_arg W))));rw[Uy]at f;show Nat.le_of_not_lt λq=>?_;let u:(n:Int)<((ns.length:Nat):Int):=by ext
  first
   |(rw[a4 u]at f;show a7 f ())
   |(simp at f;ext)
 cases i with
 |cons t p=>
  ext p;cases t with
  |list v m=>show#[_,_,ns,W,W,v,nO ns _ m,b]
theorem AR(l:OpenLaw)(args:G WData):l.row.toRowW.claim.post args (.bool S) args=S:=
 postW_of
  (show WShape.has [] (.bool S) .bool=S by first|rfl|decide|simp[WShape.has,WShape.arms,WShape.armsAll])
  (show(WTm.eq .res (.lit (.bool S))).value [] {args:=args,res:=M (.bool S),after:=args}=M (.bool (S==S))from w_eq_bool (w_res W) w_lit) W
def attach_call{l:OpenLaw}{n:Nat}{q:UZ}{e:bb Str}{I:(Str->bg U)->Heap->Prop}{H:Vf->Heap->Prop}{d:DefRec}
  (V:l.most=cL n) (y:d.params.defaults=[])
  (call:∀(w:Vf) (c b:UC) (D t:Str->bg U) (s:Uz) (o:Obj) (p m h:U) (a:Uz) (k:bb U) (j:bb Int),
   Ground q e [] I w c D t b.heap->H w b.heap->
   b.heap.get? s=cL o->o.data=.func (docDef d.name d.params d.body d.scope p m h)->b.heap.CodeRec m d.name->D d.name=cL (.ref s)->
   b.heap.get? a=cL {cls:=.type "list",data:=.seq k.toArray}->IntsAre k j->j.length<=n->b.gens= #v[]->
   codeAny (model l.prog w) callerA (.call (.ref s) #[[.ref a],[]]) (λr x=>r=.ok (.ret (.bool Uv))/\OldK b.heap x.heap/\x.os=b.os/\AllBare x.gens) b):
  WalkO q e I H l.row.toRowW d [] (λf k=>afn f k):=by
 intro w c b D t G Y s o p m h S kV L O z E v N F C as B T J u M;obtain rfl:S=.none:=Dflts.none E y;obtain rfl:kV=.none:=Dflts.noKw E;let(a,k,j,rfl,rfl,A,g,i):=A0 V B u;show enter_call (Y1 (call w c b D t s o p m h a k j G Y L (fd_plain O) z v A g i N) λr x K=>?_);let(rfl,R,Q,P):=K;show#[.inl #[.bool Uv,.bool Uv,[],W,λ_=>W,.bool Uv,AR l _,λ_=>#[YA,λ_ hm=>(nomatch hm)]],R,Q,P]
end Att
namespace L2
open PySem PySem.Spec PyProof.Rows
theorem ia:∀{b:G U} {a:G Int},IntsAre b a->Vals (a.map V.int) b
 |_,_,.nil=>.nil
 |_,_,.cons n t h=>.cons #[t,W] (ia h)
def Qx(H:Hp):Prop:=∀b,H b=P\/∃o xs,H b=M (.frz o (.lst xs))
def Gs{P:UZ}{w:Vf}{K:lD}{mg E:Str->bg Ut}{X:sU}{k:Nat}{fa a:Uz}{fd:VG}{x:Str}{sp:Sp}{f:UC}{D:bb Ut}{p:bb Int}
  (U:K.In f.heap) (t:f.heap.Ns UY mg) (g:f.heap.Ns builtinsNs E) (I:∀x:Str,x≠ "__name__"->E x=VF x) (O:f.heap.NoLimit) (hg:f.gens= #v[])
  (ha:f.heap.get? a=cL {cls:=.type "list",data:=.seq D.toArray}) (hi:IntsAre D p) (R:p.length<=UK) (hr:Wr k callerA)
  (F:∀base:Heap,K.In base->base.Ns UY mg->FnOk P w K mg base X k fa fd [x] sp) (Q:∀(s:UC) (u:Ut),YZ s fd #[[u],[]] [(x,u)])
  (G:∀H:Hp,Qx H->Yr K H a (p.map V.int)->sp [.ref a] H (λv _=>v=.bl Uv) λ_ _ _=>False)
  (J:∀H e c,X [] H f (λ_ _ _=>False) e c->False):
  codeAny (model P w) callerA (.call (.ref fa) #[[.ref a],[]]) (λr c=>r=.ok (.ret (.bool Uv))/\OldK f.heap c.heap/\c.os=f.os/\AllBare c.gens) f:=by
 let rv:=ia hi;let M:=hi.length
 let j:∀H:Hp,Qx H->Yr K H a (p.map V.int)->YO P w H f.heap->(∀b,H b≠Ld->b=a)->(H a≠Ld->K.lookup a=Ld)->
   codeAny (model P w) callerA (.call (.ref fa) #[[.ref a],[]]) (λr c=>r=.ok (.ret (.bool Uv))/\OldK f.heap c.heap/\c.os=f.os/\AllBare c.gens) f:=by
  intro H S hS VQ T hK;let gM:∀{b:Uz} {o:Obj},f.heap.get? b=cL o->H b=Ld->(tO f.heap H).get? b=cL o:=λe n=>FJ e n;let C:∀{b:Uz} {o:Obj} {es:Array Xt} {A:Nat},f.heap.get? b=cL o->o.data=.dict es A->H b=Ld:=λ{b o es A} e d=>by
   cases q:H b with
   |none=>rfl
   |some u=>let L:b=a:=T b (by rw[q];simp);subst L;rw[ha]at e;ext e;let d':Data.seq D.toArray _=Data.dict es A:=d;ext d'
  let i:∀{b:Uz} {m:Str->bg Ut},f.heap.Ns b m->(tO f.heap H).Ns b m:=λ{b m} #[o,es,A,e,d,r]=>#[o,es,A,gM e (C e d),d,r];let y:K.In (tO f.heap H):=λb o e=>gM (U b o e) (by
   cases q:H b with
   |none=>rfl
   |some u=>let L:b=a:=T b (by rw[q];simp);subst L;rw[hK (by rw[q];simp)]at e;ext e)
  let hM:Mod K mg (tO f.heap H):=#[y,i t,#[E,i g,I],let#[mc,h1,h2]:=O;#[mc,i h1,h2]];let e0:Env0 P w K mg (tO f.heap H) callerA [] f H:=#[W,hM,λb o e=>HM e,afk (A8 _ _),trivial,λb g=>a7 (show b∈([]:bb Uz)from g) (by simp),VQ,.of_eq hg];show Y1 ((F _ y (i t)).run callerA [] f H #[[.ref a],[]] [.ref a] [.ref a] _ _ hr e0 (Q f (.ref a)) (.cons W .nil) (G H S hS)) λr c h=>?_;cases r with
  |error e=>show(J H e c h).elim
  |ok fl=>
   cases fl with
   |next=>show False.elim h
   |brk=>show False.elim h
   |cont=>show False.elim h
   |ret u=>
    let(v,H',os,B,un,N,Z,q):=h;let q':v=.bl Uv:=q;subst q';obtain rfl:u=Ut.bool Uv:=Z;show#[W,OldK.of_keep λb o e=>?_,os,B];cases q:H b with
    |none=>show un.keep b o e q (by intro z;show a7 (show b∈([]:bb Uz)from z) (by simp)) (by simp)
    |some u=>
     rcases S b with z|⟨ob,xs,z⟩
     .rw[q]at z;ext z
     .let Y:=un.ZK b ob _ z;let(e1,_):=VQ b _ z;let(e2,_):=N b _ Y;rw[e]at e1;ext e1;show e2
 cases hk:K.lookup a with
 |some o=>let e:=U a o hk;rw[ha]at e;ext e;show j (λ_=>Ld) (λ_=>.inl W) (.inr #[_,D.toArray,_,hk,W,W,W,by rw[UN,M];show R,by simpa using rv]) (λb u z=>by let l:(Ld:bg HO)=cL u:=z;ext l) (λb z=>a7 W z) λz=>a7 W z
 |none=>
  show j (λb=>if b=a then cL (.frz {cls:=.type "list",data:=.seq D.toArray} (.lst (p.map V.int)))else Ld) (λb=>?_) (.inl (.inr #[{cls:=.type "list",data:=.seq D.toArray},ax W])) (λb u z=>?_) (λb z=>?_) λ_=>hk
  .by_cases g:b=a
   .show .inr #[_,_,ax g]
   .show .inl (aE g)
  .by_cases g:b=a
   .let l:=(ax g).symm.trans z;ext l;subst g;show#[ha,by rw[Uy];show R,D,_,rv,ha]
   .let l:=(aE g).symm.trans z;ext l
  .by_cases g:b=a
   .show g
   .show a7 (aE g) z
def aN(s:Wk)(j:Nat):Wk:=match s with
 |.ClassDef _ _ _ body _ _ _ _ _ _ _=>body.getD j (.Pass #[0,0,0,0])
 |_=>.Pass #[0,0,0,0]
def eC(s:Wk):Arguments:=match s with
 |.FunctionDef _ a _ _ _ _ _ _ _ _=>a
 |_=>{posonlyargs:=[],args:=[],vararg:=P,kwonlyargs:=[],kw_defaults:=[],kwarg:=P,defaults:=[]}
def bO(s:Wk):G Wk:=match s with
 |.FunctionDef _ _ b _ _ _ _ _ _ _=>b
 |_=>[]
def az(s:Wk):WA:=match s with
 |.FunctionDef _ _ _ _ _ _ sc _ _ _=>sc
 |_=>{kind:=.function,names:=[],isGenerator:=R,isCoroutine:=R}
abbrev jY:sU:=λ_ _ _ _ _ _=>False
abbrev E0:XK:=λ_ _ _=>False
theorem Gn:dr jY X E0:=λ_ _ _ _ _ _ _ h=>h.elim
structure ZL(K:lD)(x qual:Str)(st:Wk)(f:I)(fd:VG):Prop where
 ex:∃(oc:U) (od:z I) (kV doc pm:U) (an:z I) (Wo ct:U) (osl:Array (z U)),
  fd=V3 x qual (eC st) (bO st) (az st) .none kV doc pm an Wo ct/\K.lookup f=M #[oc,od,.func fd,osl]/\XO K Wo qual=S
 kp:Wa K (.ref f)=S
section
variable{P:UZ}{w:Vf}{K:lD}{Z:Str->bg Ut}{base:Heap}
def ZL.ok{x a:Str}{b:Wk}{f:I}{fd:VG}{N v:G Str}{k:Nat}{sp:Sp}(F:ZL K x a b f fd)(S:WK N v (az b))(len:∀c H Q E,sp c H Q E->c.length=v.length)
  (n:∀(d:U) (A:Vb) (outer:G Env) (s:UC) (H:Hp) (c:G V) (Q:VK) (E:XK),Wr k (A.deeper (envOfC a (az b) s.heap.objs.size f d))->sp c H Q E->
   ∃t,Z2 (eP jY P w K Z base N a (az b) f d A outer s H E).nox (bO b) t/\t {nx:=λ_ y=>Q .WL y,rt:=Q} (start N c) H):FnOk P w K Z base jY (k+1) f fd v sp:=by
 let(r,p,kV,m,o,u,d,ct,i,rfl,j,g):=F.ex;show CZ j g S len λA outer s H c Q E l e=>?_;let(t,h,q):=n d A outer s H c Q E l e;show#[t,h.nox,q]
def ZL.binds{x a:Str}{d:Wk}{f:I}{fd:VG}{ps:G Str}(F:ZL K x a d f fd)
  (h:∀(kV b e:U) (g:z I) (i ct:U) (us:G U),us.length=ps.length->bindArgs (V3 x a (eC d) (bO d) (az d) .none kV b e g i ct) #[us,[]]=pure (ps.zip us)):Binds K fd ps []:=by
 let(n,m,kV,b,e,g,i,ct,j,rfl,o,l):=F.ex;show .all (h kV b e g i ct)
theorem En{a:Wk}{kV b e d ct:U}(l:K.lookup f=M #[J,C,.func (V3 x qual (eC a) (bO a) (az a) .none kV b e an d ct),o])
  (c:XO K d qual=S) (k:Wa K (.ref f)=S):ZL K x qual a f (V3 x qual (eC a) (bO a) (az a) .none kV b e an d ct):=#[#[J,C,kV,b,e,an,d,ct,o,W,l,c],k]
end
theorem DL(a:Wr k A):A.units+1<cLine:=acw (Nat.add_le_add_left (by decide:1<=64) _) a.units
section
variable{X:Cx}
theorem pv(i:Nat)(d:X.N[i]?=M x:=by rfl)(b:QH X.env.scope x:=by first|show Or.inl W|show Or.inr (Or.inl W)|show Or.inr (Or.inr W))(hd:(x==("__debug__":Str))=R:=by decide)
  (a:(x==("__classdict__":Str))=R:=by decide):PE X (.Name x pos) (qK i):=Gj d b hd a
end
def Wj(H a:Hp):Prop:=∀b o,H b=M o->a b=M o
theorem Wj.refl(H:Hp):Wj H H:=λ_ _ h=>h
theorem Wj.trans(a:Wj H H1)(b:Wj H1 H2):Wj H H2:=λc o h=>b c o (a c o h)
def Wj.free(e:Wj H H')(h:H' l=P):H l=P:=by
 cases q:H l with
 |none=>rfl
 |some o=>rw[e l o q]at h;ext h
end L2
set_option maxHeartbeats 4000000
namespace L2
open PySem PySem.Spec PyProof.Rows
section
variable{X:Cx}{Z:bb (Uz×Obj)}{T:St}{H:Hp}{s:UC}{Y:Heap}
def Inv.abw{ch:G Uz}(I:Inv X Z T H s)(h:∀b∈ch,lA X Z H b)
  (k:∀b u,b∉ch->s.heap.get? b=M u->Y.get? b=M u) (j:s.heap.objs.size<=p)
  (new:ObjOk X.prog X.w (aX H p o) Y p o):Inv X Z T (aX H p o) {s with heap:=Y,toks:=t'}:=by
 let w:=I.VQ.fresh j;let d:∀b u,H b=M u->b∉ch:=λb u e z=>by rw[(h b z).1]at e;ext e
 let g:∀b u,s.heap.get? b=M u->b≠p:=λb u e=>U3 (U1 (b4 e) j);show I.step (λb f=>?_) (λb u _ _ a e _=>k b u a e) (λb u _ _ a e _=>#[u.slots,k b u a e])
  (λb u _ e n=>by rw[ay (g b u e)];show n) (λb u a e=>#[u,k b u a e]) (λb xs e=>by rw[ay (bB e w)];show e)
  (λb u xs e=>by rw[ay (bB e w)];show e) (λb E e=>#[#v[],by rw[ay (bB e w),e];simp]) (λm hm=>?_) (λb u e=>?_) I.bare
 .let(_,B,_,A,y,t):=h b f;show#[A,B,y,t]
 .let(i,es,C,l,r):=hm;show#[i,es,C,k _ i (λz=>(h _ z).2.1 W) l,r]
 .by_cases f:b=p
  .subst f;rw[aC]at e;ext e;show new
  .rw[ay f]at e
   show(I.VQ b u e).YF (λc v a q=>k c v ?_ q) (λc q=>by rw[ay (bB q w)];show q) λc xs q=>by rw[ay (bB q w)];show q
   rcases a with z|z
   .rw[z];show d b u e
   .show d c _ z
end
mutual
inductive DV(K:lD)(H:Hp):V->UB->Prop
 |WL:DV K H .WL .none
 |bl (b:Bool):DV K H (.bl b) (.bool b)
 |int (i:Int):DV K H (.int i) (.int i)
 |str (x:Str):DV K H (.str x) (.str x)
 |tup {a:Uz} {xs:bb V} {ds:bb UB}:Ya K H a xs->Wb K H xs ds->DV K H (.ref a) (.tuple ds)
 |lst {a:Uz} {xs:bb V} {ds:bb UB}:Yr K H a xs->Wb K H xs ds->DV K H (.ref a) (.list ds)
inductive Wb(K:lD)(H:Hp):bb V->bb UB->Prop
 |nil:Wb K H [] []
 |cons {v:V} {vs:bb V} {d:UB} {ds:bb UB}:DV K H v d->Wb K H vs ds->Wb K H (v::vs) (d::ds)
end
section
variable{X:Cx}{Z:bb (Uz×Obj)}{σ:St}{H:Hp}{s:UC}
mutual
theorem DV.reads(I:Inv X Z σ H s):∀{v:V} {d:UB} {u:Ut},DV X.K H v d->RelV v u->∃as,abd s.heap u d as
 |_,_,_,.WL,r=>by cases r;exact⟨_,.none⟩
 |_,_,_,.bl b,r=>by cases r;exact⟨_,.bool b⟩
 |_,_,_,.int i,r=>by obtain⟨t,rfl⟩:=r;exact⟨_,.int i t⟩
 |_,_,_,.str x,r=>by obtain⟨t,rfl⟩:=r;exact⟨_,.str x t⟩
 |_,_,_,.tup h hs,r=>by cases r;obtain⟨a,rv,⟨o,e,c,n,d⟩,_⟩:=I.tuple h;obtain⟨as,q⟩:=Wb.reads I hs rv;exact⟨_,.tuple e c d (by simpa using q)⟩
 |_,_,_,.lst h hs,r=>by cases r;obtain⟨a,rv,⟨o,n,e,c,_,d⟩,_⟩:=I.list h;obtain⟨as,q⟩:=Wb.reads I hs rv;exact⟨_,.list e c d (by simpa using q)⟩
theorem Wb.reads(I:Inv X Z σ H s):∀{vs:bb V} {ds:bb UB} {us:bb Ut},Wb X.K H vs ds->Vals vs us->∃as,Zs s.heap us ds as
 |_,_,_,.nil,r=>by cases r;exact⟨_,.nil⟩
 |_,_,_,.cons h hs,r=>by
  cases r with
  |cons b a=>obtain⟨as,q⟩:=DV.reads I h b;obtain⟨bs,d⟩:=Wb.reads I hs a;exact⟨_,.cons q d⟩
end
end
def Kk(K:lD)(neg:Bool):R2:=λx y H Q=>∃a b,DV K H x a/\DV K H y b/\a.canLay0=S/\b.canLay0=S/\a.depth<=64/\Q (.bl (if neg then !UB.eqv a b else UB.eqv a b)) H
section
variable{X:Cx}
def MG(n:X.A.units+64<cLine):OpR X (We .Eq) (Kk X.K R):=by intro a s m H x y v u Q I d b h;let(r,p,l,j,i,g,o,q):=h;let(as,f):=l.reads I d;let(bs,e):=j.reads I b;show ahw f e i g () #[.bl _,H,I,W,q]
def NW(n:X.A.units+64<cLine):OpR X (We .NotEq) (Kk X.K S):=by intro a s m H x y v u Q I d b h;let(r,p,l,j,i,g,o,q):=h;let(as,f):=l.reads I d;let(bs,e):=j.reads I b;show ahx f e i g () #[.bl _,H,I,W,q]
theorem FU:OpR X (V8 .FloorDiv) (rI (λ_ j=>0<j/\j.natAbs.log2<9000) λi j=>.int (i/j)):=PB λi j _ _ _ _ _ a q=>by let b:(0:Int)<j:=a.1;show floordiv_int () (by rw[aap i ()];show q) (.inl (PyProof.noPylong_of_log2 a.2))
end
def fS(env:Env):G (Str×U0)->G (Str×I)->G (Str×I)
 |[],acc=>acc
 |(n,k)::r,acc=>if(k==U0.free)=S then(match env.cells.lookup n with|some c=>fS env r ((n,c)::acc)|none=>fS env r acc)else fS env r acc
theorem kH{f:Str×U0->G (Str×I)->Sem (ForInStep (G (Str×I)))}
  (d:∀n k acc,(k==U0.free)=R->f (n,k) acc=pure (.yield acc)) (b:∀n c acc,env.cells.lookup n=M c->f (n,.free) acc=pure (.yield ((n,c)::acc))):
  ∀(names:G (Str×U0)) (acc:G (Str×I)),(∀y∈names,y.2=.free->∃c,env.cells.lookup y.1=M c)->forIn names acc f=pure (fS env names acc)
 |[],acc,_=>rfl
 |(n,k)::r,acc,h=>by
  let g:=λy j=>h y (UM _ j);rw[XM];cases l:(k==U0.free)with
  |false=>rw[d n k acc l,pure_bind];show forIn r acc f=_;rw[kH d b r acc g];simp only[fS,l,WM,if_false]
  |true=>
   let e:k=.free:=by simpa using l
   subst e;let(c,i):=h _ UP W;rw[b n c acc i,pure_bind];show forIn r ((n,c)::acc) f=_;rw[kH d b r _ g];let a:=i;simp only[fS,l,if_true,a]
def qN(h:∀y∈scope.names,y.2=.free->∃c,env.cells.lookup y.1=M c):closureFor scope env=pure (fS env scope.names []):=by simp only[closureFor];rw[kH (λn k a b=>by simp only[b,WM,if_false]) (λn c a d=>by simp only[eg,if_true,cellOf,d,pure_bind]) scope.names [] h,pure_bind]
theorem jC:∀(names:G (Str×U0)) (acc:G (Str×I)),(∀x c,acc.lookup x=M c->env.cells.lookup x=M c)->∀x c,(fS env names acc).lookup x=M c->env.cells.lookup x=M c
 |[],_,h,x,c,e=>h x c e
 |(n,k)::r,acc,h,x,c,e=>by
  unfold fS at e;split at e
  .split at e
   .rename_i f a
    show jC r _ (λy d q=>?_) x c e;rw[Vr]at q;split at q
    .rename_i b;ext q;rw[eq_of_beq b];show a
    .show h y d q
   .show jC r acc h x c e
  .show jC r acc h x c e
theorem jK:∀(names:G (Str×U0)) (acc:G (Str×I)) (x:Str),(acc.lookup x).isSome=S->((fS env names acc).lookup x).isSome=S
 |[],_,_,h=>h
 |(n,k)::r,acc,x,h=>by
  ext fS;split
  .split
   .show jK r _ x ?_
    rw[Vr];split
    .rfl
    .show h
   .show jK r acc x h
  .show jK r acc x h
theorem lH:∀(names:G (Str×U0)) (acc:G (Str×I)) (x:Str) (c:I),(x,U0.free)∈names->env.cells.lookup x=M c->((fS env names acc).lookup x).isSome=S
 |[],_,_,_,h,_=>by ext h
 |(n,k)::r,acc,x,c,h,a=>by
  rcases U5.mp h with z|h
  .ext z;simp only[fS,eg,if_true,a];show jK r _ _ (by simp[Vr])
  .ext fS
   split
   .split
    .show lH r _ x c h a
    .show lH r acc x c h a
   .show lH r acc x c h a
def uZ(h:(x,U0.free)∈names)(a:env.cells.lookup x=M c):(fS env names []).lookup x=M c:=by
 let q:=lH names [] x c h a;cases e:(fS env names []).lookup x with
 |none=>rw[e]at q;ext q
 |some d=>let z:=jC names [] (λy d q=>by ext q) x d e;rw[a]at z;show z.symm
def vn{env:Env}{a:WA}{x:Str}{k:U0}(h:(relabel a env).names.lookup x=M k):∃c,(x,c)∈a.names/\(k=c\/(c=.free/\k=.cell)):=by
 let((n,c),hm,e):=U6.mp (Wi h);simp only at e;split at e
 .rename_i b
  ext e;let d:(c==U0.free)=S:=by rw[Uu,Uu]at b;show b.1.1
  show#[c,hm,.inr #[by simpa using d,W]]
 .ext e;show#[_,hm,.inl W]
theorem iE{env:Env}:∀{names:G (Str×U0)} {x:Str},names.lookup x=M .free->
  (names.map λ(n,k)=>if(k==U0.free&&env.scope.kind==.function&&env.kindOf n==M .cell)then(n,U0.cell)else(n,k)).lookup x=M .cell\/
  (names.map λ(n,k)=>if(k==U0.free&&env.scope.kind==.function&&env.kindOf n==M .cell)then(n,U0.cell)else(n,k)).lookup x=M .free
 |[],_,h=>by ext h
 |(n,k)::r,x,h=>by
  rw[Vr]at h;rw[UU];dsimp only;by_cases a:(k==U0.free&&env.scope.kind==.function&&env.kindOf n==M .cell)=S
  .rw[ax a,Vr]
   cases b:x==n with
   |true=>show .inl W
   |false=>rw[b]at h;show iE h
  .rw[aE a,Vr]
   cases b:x==n with
   |true=>rw[b]at h;show .inr h
   |false=>rw[b]at h;show iE h
def dg(own:G Str)(a:G (Str×Nat)):G Str:=own++a.map (·.1)
def g6(own:G Str)(b:G (Str×Nat))(a:St):St:=own.map (λ_=>P)++b.map λp=>(a[p.2]?).join
def aay(X:Cx)(a:WA):G (Str×Nat)->Prop
 |[]=>True
 |p::r=>(X.N[p.2]?=M p.1/\a.names.lookup p.1=M .free/\(X.env.scope.names.lookup p.1=M .cell\/X.env.scope.names.lookup p.1=M .free))/\aay X a r
theorem aay.mem:∀{a:G (Str×Nat)},aay X scope a->∀p∈a,X.N[p.2]?=M p.1/\scope.names.lookup p.1=M .free/\(X.env.scope.names.lookup p.1=M .cell\/X.env.scope.names.lookup p.1=M .free)
 |[],_,p,b=>by ext b
 |q::r,h,p,b=>by
  rcases U5.mp b with z|b
  .rw[z];show h.1
  .show h.2.mem p b
def tf(X:Cx)(a:WA)(C:I):G (Str×I):=Wu (C+1) a.names (fS X.env a.names [])
theorem qV:∀(names:G (Str×U0)) (n:Nat) (acc:G (Str×I)) (x:Str) (c:I),(Wu n names acc).lookup x=M c->(n<=c/\(x,U0.cell)∈names)\/acc.lookup x=M c
 |[],_,_,_,_,h=>.inr h
 |(y,k)::r,n,acc,x,c,h=>by
  unfold Wu at h;by_cases b:(k==U0.cell)=S
  .rw[ax b]at h
   let e:k=.cell:=by simpa using b
   rcases qV r _ _ x c h with⟨a,d⟩|a
   .show .inl #[Yj a,UM _ d]
   .rw[Vr]at a
    split at a
    .rename_i f;ext a;show .inl #[UG _,by rw[eq_of_beq f,e];show UP]
    .show .inr a
  .rw[aE b]at h
   rcases qV r _ _ x c h with⟨a,d⟩|a
   .show .inl #[a,UM _ d]
   .show .inr a
theorem EZ:∀(names:G (Str×U0)) (n:Nat) (acc:G (Str×I)) (x:Str),(x,U0.cell)∉names->(Wu n names acc).lookup x=acc.lookup x
 |[],_,_,_,_=>rfl
 |(y,k)::r,n,acc,x,h=>by
  let b:=λz=>h (UM _ z);ext Wu;by_cases a:(k==U0.cell)=S
  .let e:k=.cell:=by simpa using a
   rw[ax a,EZ r _ _ x b,Vr];let d:(x==y)=R:=by show beq_eq_false_iff_ne.mpr λz=>h ?_;rw[z,e];show UP
   rw[d]
  .rw[aE a];show EZ r _ _ x b
theorem qM:∀(names:G (Str×U0)) (h:Heap) (acc:G (Str×I)) (x:Str) (c:I),(Wu h.objs.size names acc).lookup x=M c->(h.objs.size<=c/\(pushCells h names).IsCell c P)\/acc.lookup x=M c
 |[],_,_,_,_,e=>.inr e
 |(y,k)::r,h,acc,x,c,e=>by
  unfold Wu at e;ext pushCells;by_cases b:(k==U0.cell)=S
  .rw[ax b]at e⊢
   rw[<-cv h {cls:=.type "cell",data:=.cell P}]at e;rcases qM r _ _ x c e with⟨a,d⟩|a
   .rw[cv]at a;show .inl #[Yj a,d]
   .rw[Vr]at a
    split at a
    .ext a;show .inl #[UG _,_,aaL _ _ _ _ (cc _ W),W]
    .show .inr a
  .rw[aE b]at e⊢;show qM r _ _ x c e
theorem yg:∀(names:G (Str×U0)) (n:Nat) (acc:G (Str×I)),(∀x c,acc.lookup x=M c->c<n)->(∀x y c,acc.lookup x=M c->acc.lookup y=M c->x=y)->∀x y c,(Wu n names acc).lookup x=M c->(Wu n names acc).lookup y=M c->x=y
 |[],_,_,_,i,x,y,c,e1,e2=>i x y c e1 e2
 |(z,k)::r,n,acc,h1,i,x,y,c,e1,e2=>by
  unfold Wu at e1 e2;by_cases g:(k==U0.cell)=S
  .rw[ax g]at e1 e2
   show yg r (n+1) ((z,n)::acc) (λa d q=>?_) (λa b d f e=>?_) x y c e1 e2
   .rw[Vr]at q
    split at q
    .ext q;show XB _
    .show Yk (h1 a d q)
   .rw[Vr]at f e
    split at f
    .rename_i j
     split at e
     .rename_i h;rw[eq_of_beq j,eq_of_beq h]
     .ext f;show a7 (h1 b _ e) (VT _)
    .split at e
     .ext e;show a7 (h1 a _ f) (VT _)
     .show i a b d f e
  .rw[aE g]at e1 e2;show yg r n acc h1 i x y c e1 e2
theorem xi:∀{names:G (Str×U0)} {x:Str} {k a:U0},(names.map (·.1)).Nodup->names.lookup x=M k->(x,a)∈names->k=a
 |[],_,_,_,_,h,_=>by ext h
 |(y,j)::r,x,k,a,d,h,hm=>by
  rw[UU,VU]at d;rw[Vr]at h;rcases U5.mp hm with e|b
  .ext e;rw[eg]at h;show(UT h).symm
  .cases f:x==y with
   |true=>rw[eq_of_beq f]at b;show a7 (U6.mpr #[_,b,W]) d.1
   |false=>rw[f]at h;show xi d.2 h b
def bU(X:Cx)(s:UC)(H:Hp)(a:WA)(C:I)(N:G Str)(b:G I):Cx:=
 {X with N:=N,s₀:=s,H₀:=H,env:=compEnvC a (tf X a C) C X.env,outer:=X.stack,stack:=X.stack,ex:=b,fn:=λx=>((fS X.env a.names []).lookup x).isNone,pn:=[],xe:=λ_ _=>False}
section
variable{X:Cx}{Z:bb (Uz×Obj)}{Y:St}{H:Hp}{s:UC}
def si{a:WA}(I:Inv X Z Y H s)(e:(fS X.env a.names []).lookup x=M c):X.env.cells.lookup x=M c/\c<s.heap.objs.size:=by let h:=jC _ _ (λ_ _ q=>by ext q) x c e;let(v,o,z,_):=I.cell x c h;show#[h,b4 z]
theorem Ar(I:Inv X Z Y H s)(L:scope.kind=.function)(m:(scope.names.map (·.1)).Nodup)
  (u:∀y∈scope.names,y.2=.free->∃c,X.env.cells.lookup y.1=cL c) (f:s.heap.objs.size<=C) (i:∀b∈fp,lA X Z H b) (d:∀b∈fp,b<s.heap.objs.size):(bU X s H scope C N fp).Ok where
 mod:=I.ok.mod
 kind:=L
 glob:=I.ok.glob
 blt:=I.ok.blt
 above:=f
 inj:=yg _ _ _ (λx c e=>Yk (U1 (si I e).2 f)) λx y c A w=>I.ok.inj x y c (si I A).1 (si I w).1
 has:=λx F=>by
  let j:∃k,(relabel scope X.env).names.lookup x=cL k/\(k=.cell\/k=.free):=by
   rcases F with z|z
   .show#[_,z,.inl W]
   .show#[_,z,.inr W]
  let(k,J,n):=j;let(B,hm,t):=vn J;let e:B=.free\/B=.cell:=by
   rcases t with z|⟨z,_⟩
   .subst z
    rcases n with z|z
    .show .inr z
    .show .inl z
   .show .inl z
  let q:((tf X scope C).lookup x).isSome=S:=by
   rcases e with e|e
   .subst e;let(c,K):=u _ hm W;show Xg _ _ _ (.inr (by rw[uZ hm K];rfl))
   .subst e
    show Xg _ _ _ (.inl ?_);cases z:scope.names.lookup x with
    |none=>show a7 hm (λhm=>by
      let:∀{l:bb (Str×U0)},l.lookup x=P->(x,U0.cell)∉l:=λ{l}=>by
       induction l with
       |nil=>show λ_=>by simp
       |cons p r E=>
        intro h q;rw[Vr]at h;rcases U5.mp q with q|q
        .rw[<-q,eg]at h;ext h
        .split at h
         .ext h
         .show E h q
      show this z hm)
    |some M=>rw[xi m z hm]
  show V9.mp q
 cab:=λx c A w=>by
  let g:((fS X.env scope.names []).lookup x).isNone=S:=A;let v:=w;rcases qV _ _ _ x c v with⟨z,_⟩|z
  .show Vk f (Yj z)
  .rw[z]at g;ext g
 hd:=I.ok.hd
 frames:=I.ok.frames
 stk:=.inl W
 exf:=λb a=>#[U3 (U1 (d b a) f),λx c e=>by
  rcases qV _ _ _ x c e with⟨z,_⟩|z
  .show VI (U1 (U1 (d b a) f) (Yj z))
  .show(i b a).2.2.2.2.1 x c (si I z).1]
 bs:=I.bs
 bsz:=Vk I.ok.bsz I.sz
 aaT:=λb o e a=>by
  rcases(i b a).2.2.2.1 with z|z
  .show I.ok.aaT b o e z
  .show a7 (U1 (b4 e) (Vk I.ok.bsz z)) (VT _)
 aaR:=λb a G=>by
  rcases U5.mp (I.Zz b G)with z|z
  .show(i b a).2.1 z
  .show(i b a).2.2.1 z
 Y7:=I.stack
 frf:=I.ZS
def Gc(I:Inv X Z Y H s)(X4:scope.kind=.function)(g:(scope.names.map (·.1)).Nodup)
  (N:∀y∈scope.names,y.2=.free->∃c,X.env.cells.lookup y.1=M c) (L:aay X scope J) (B:s.heap.objs.size<=D) (j:D<C) (T:s.heap.objs.size<=C) (hf:∀b∈fp,lA X Z H b) (O:∀b∈fp,b<s.heap.objs.size)
  (F:h1.Ns C m) (E:∀x c,(tf X scope C).lookup x=M c->C<c->∃v,h1.IsCell c v) (w:∀b o,s.heap.get? b=M o->h1.get? b=M o) (hd:∃n,h1.get? D=M {cls:=.type "list",data:=.seq #v[] n}):
  Inv (bU X s H scope C (dg own J) fp) [] (g6 own J Y) (aX H D (.lst [])) {s with heap:=h1,toks:=t1}:=by
 let hn:=I.VQ.fresh B;let(n,hd):=hd;let Q:=VI j;let h:∀x c,(tf X scope C).lookup x=M c->C<c\/(X.env.cells.lookup x=M c/\c<s.heap.objs.size):=λx c e=>by
  rcases qV _ _ _ x c e with⟨z,_⟩|z
  .show .inl z
  .show .inr (si I z)
 show#[Ar I X4 g N T hf O,W,I.bare,Un.laid w B hn,#[m,F,λi x v e1 e2 e3=>?_],λx c e=>?_,?_,λx c e=>?_,λp hp=>a7 (show p∈([]:G (Uz×Obj))from hp) (by simp),?_,?_]
 .
  let d:(own++J.map (·.1))[i]?=M x:=e1;let a:(own.map (λ_=>(P:bg V))++J.map λp=>(Y[p.2]?).join)[i]?=M (M v):=e2;let A:own.length<=i:=by
   by_cases A:i<own.length
   .rw[UL (by simpa using A),UJ]at a
    cases q:own[i]? with
    |none=>rw[q]at a;ext a
    |some _=>rw[q]at a;ext a
   .omega
  rw[Va A,UJ]at d;rw[Va (by simpa using A),UJ,Uy]at a;cases q:J[i - own.length]? with
  |none=>rw[q]at d;ext d
  |some p=>
   rw[q]at d a;let ex:=UT d;subst ex;let ev:(Y[p.2]?).join=M v:=UT a;let(g1,g2,g3):=L.mem p (UX q);let ev2:Y[p.2]?=M (M v):=by
    cases z:Y[p.2]? with
    |none=>rw[z]at ev;ext ev
    |some y=>rw[z]at ev;show ef M ev
   let(m0,_,hl):=I.loc;let(u,r,l):=hl p.2 p.1 v g1 ev2 (.inr g3);show#[u,r,?_];let l2:∃c,X.env.cells.lookup p.1=M c/\s.heap.IsCell c (M u):=by
    rcases l with⟨k,_⟩|⟨_,c,e,z⟩
    .let t:X.env.scope.names.lookup p.1=M .local:=k
     rcases g3 with z|z
     .rw[z]at t;ext t
     .rw[z]at t;ext t
    .show#[c,e,z]
   let(c,e,o,K,f):=l2;show .inr #[?_,c,?_,o,w c o K,f]
   .show iE g2
   .show(tf X scope C).lookup p.1=M c;ext tf;rw[EZ _ _ _ _ λz=>by cases xi g g2 z];show uZ (Wi g2) e
 .rcases h x c e with z|⟨z,_⟩
  .show E x c e z
  .let(v,o,K,f):=I.cell x c z;show#[v,o,w c o K,f]
 .show aX H D (.lst []) C=P;rw[ay Q];show I.VQ.fresh T
 .show aX H D (.lst []) c=P
  rcases h x c e with z|⟨z1,z2⟩
  .rw[ay (VI (Xs j z))];show I.VQ.fresh (Vk T (Yw z))
  .rw[ay (U3 (U1 z2 B))];show I.XH x c z1
 .show I.VQ.laid w B #[by show 0<=UK;show Vq _,[],n,.nil,hd]
 .show(own.map (λ_=>(P:bg V))++J.map λp=>(Y[p.2]?).join).length=(own++J.map (·.1)).length;simp
end
def xo(X:Cx)(d:G U4)(t:TT):Prop:=
 ∀(a:G (I×Obj)) (s:UC) (b:St) (H:Hp) (Q:Bool->Hp->Prop),Inv X a b H s->t b H Q->
  wpAny (model X.prog X.w) X.A (forIn d S λc r=>if r=S then do let ok<-isTrue c X.env (eval c X.env);pure (ForInStep.yield ok)else pure (ForInStep.yield r)) (TP X a b Q) X.xe s
def D0:TT:=λ_ H Q=>Q S H
theorem vK:xo X [] D0:=λ_ _ _ H _ I h=>wpAny_tests_nil #[H,I,h]
theorem ES(h:PT X c o):xo X [c] o:=λa s b H Q I d=>wpAny_tests_one (h a s b H Q I d)
def DF(J:It)(D:I)(d:St)(g:TG)(j:TT)(h:TE)(n:Hp)(Fin:Hp->Prop):Prop:=
 ∃W:Nat->Nat->St->Hp->Prop,(∃m,W 0 m d (aX n D (.lst [])))/\∀i m σ H,W i m σ H->
  (J.stop i H/\Fin H)\/(J.go i H/\∃N:St->Hp->Prop,(∀o p,N o p->∃q,q<m/\W (i+1) q o p)/\
   ∀x p,J.yld i H x p->g x σ p λa l=>j a l λb f=>if b=S then h a f λy e=>∃ys,e D=M (.lst ys)/\ys.length<UK/\N a (aX e D (.lst (ys++[y])))else N a f)
section
variable{Y:UZ}{w:Vf}{A:Vb}{s:UC}
def BE{g j d:U4}{f:G U4}{b:WA}{i:Pos}{it acc:U}{env:Env}{R:Zr->UC->Prop}{XE:U->UC->Prop}(u:∀x s1,XE x s1->notedBy (model Y w) A env (λe s2=>R (.error e) s2) x s1)(I:Nat->UC->Prop)
  (turn:∀n s,I n s->wpAny (model Y w) A (pyNext it) (λr s1=>match r with
   |none=>R (.ok .next) s1
   |some v=>wpAny (model Y w) A (letOwnedTupleGo j it v) (λ_ s2=>wpAny (model Y w) A (assign j env v) (λ_ s3=>
     wpAny (model Y w) A (forIn f S λc r=>if r=S then do let ok<-isTrue c env (eval c env);pure (ForInStep.yield ok)else pure (ForInStep.yield r)) (λok s4=>
      if ok=S then wpAny (model Y w) A (eval g env) (λx s5=>
       wpAny (model Y w) A (call (.builtin "list.append") [acc,x]) (λ_ k=>∃m,m<n/\I m k) (λ_ _=>False) s5) XE s4
      else∃m,m<n/\I m s4) (λ_ _=>False) s3) (λ_ _=>False) s2) (λ_ _=>False) s1) (λ_ _=>False) s)
  (n:Nat) (h:I n s):codeAny (model Y w) A (.compLoop (.ListComp g [#[j,d,f,0]] b i) 0 it acc env) R s:=by
 show codeAny_loop W I (λn s y=>?_) n h;show wpAny _ A (Sem.onRaise (compTurn (.ListComp g [#[j,d,f,0]] b i) 0 it acc env) (λx=>do noteFrame x env;theTreesLotGoes x)) _ _ s;show wpAny_noted ?_;rw[compTurn_list]
 let no:∀{α:Type} {t:Sem α} {Q q:α->UC->Prop} {E:U->UC->Prop} {s:UC},wpAny (model Y w) A t Q (λ_ _=>False) s->(∀a J,Q a J->q a J)->wpAny (model Y w) A t q E s:=
  λl o=>wpAny_mono l o λ_ _ z=>False.elim z
 show CL (WI (CL (no (turn n s y) λr s1 l=>?_)));cases r with
 |none=>show UD l
 |some v=>
  show CL (no l λ_ s2 o=>CL (no o λ_ s3 F=>CL (no F λok s4 p=>?_)));cases ok with
  |false=>show UD #[W,p]
  |true=>show CL (CL (wpAny_mono p (λx s5 C=>CL (no C λ_ k B=>UD (UD #[W,B]))) u))
end
section
variable{X:Cx}{Z:bb (Uz×Obj)}{Y:St}{H:Hp}{s:UC}
def uh
  (h:Q (newEnv scope s.heap.objs.size globals (Wu (s.heap.objs.size+1) scope.names closure) qual P .none (cL env) builtinsNs) {s with heap:=pushCells (s.heap.push {cls:=.type "dict",data:=.dict #v[]}) scope.names}):
  wpAny e A (newFunctionEnv scope globals closure [] qual P .none (cL env)) Q E s:=by
 simp only[newFunctionEnv,abG,if_true];show CL (wpAny_alloc ?_);show CL (wpAny_layCells _ (λd a b=>by cases f:a==U0.cell<;>simp[f]) _ _ _ _ ?_);rw[show({s with heap:=s.heap.push {cls:=.type "dict",data:=.dict #v[]}}:UC).heap.objs.size=s.heap.objs.size+1 from cv ..];rw[YX];show CL (UD (UD h))
def pB{P tg q:U4}{F:bb U4}{scope:WA}{pos:Pos}{own:bb Str}{h:bb (Str×Nat)}{g:TG}{tc:TT}{te:TE}{E:Ut->UC->Prop}{it:Uz}{k:bb Uz}{tn:Nat->Heap->Prop}{J:It}{Fin:Uz->Hp->Prop}
  {RR:Ut->Uz->Zr->UC->Prop} (I:Inv X Z Y H s) (hc:X.calm=Uv) (X4:scope.kind=.function) (hnd:(scope.names.map (·.1)).Nodup) (hfr:∀y∈scope.names,y.2=.free->∃c,X.env.cells.lookup y.1=cL c) (hfv:aay X scope h)
  (T:Turn X.prog X.w X.K tg J k it tn) (st:tn 0 s.heap) (L:∀b∈k,lA X Z H b)
  (hg:∀C,PG (bU X s H scope C (dg own h) k) tg g) (ht:∀C,xo (bU X s H scope C (dg own h) k) F tc) {W:Uz->Ut->UC->Prop} (he:∀C,PE ((bU X s H scope C (dg own h) k).YH (W C)) P te) (hEE:∀D C x s1,s.heap.objs.size<=C->W C x s1->notedBy (model X.prog X.w) X.A (compEnvC scope (tf X scope C) C X.env) (λe s2=>RR (.ref D) C (.error e) s2) x s1)
  (hR:∀D,H D=Ld->DF J D (g6 own h Y) g tc te H (Fin D))
  (hRR:∀D C V s',Inv X Z Y V s'->Fin D V->(∃m,s'.heap.Ns C m)->s.heap.objs.size<=C->V C=Ld->RR (.ref D) C (.ok .next) s'):
  wpAny (model X.prog X.w) X.A (newList []) (λacc s3=>wpAny (model X.prog X.w) X.A (newFunctionEnv scope X.env.globals (fS X.env scope.names []) [] X.env.qual Ld .none (cL X.env)) (λafT s4=>
   codeAny (model X.prog X.w) X.A (.compStart (.ListComp P [#[tg,q,F,0]] scope pos) 0 (.ref it) acc {afT with scope:=relabel scope X.env}) (RR acc afT.locals) s4) E s3) E s:=by
 show Vw ?_;generalize hH2:s.heap.push {cls:=.type "list",dict:=Ld,data:=.seq ([]:bb Ut).toArray}=h2;let hz:h2.objs.size=s.heap.objs.size+1:=by rw[<-hH2,cv]
 show uh (s:={s with heap:=h2}) ?_;let M:s.heap.objs.size<h2.objs.size:=by rw[hz];show XB _
 let hC:s.heap.objs.size<=h2.objs.size:=Yw M;generalize hH1:pushCells (h2.push {cls:=.type "dict",data:=.dict #v[]}) scope.names=h1;let kp2:∀b o,h2.get? b=cL o->h1.get? b=cL o:=λb o e=>by rw[<-hH1];show aaL _ _ b o (b3 _ e)
 let kp:∀b o,s.heap.get? b=cL o->h1.get? b=cL o:=λb o e=>kp2 b o (by rw[<-hH2];show b3 _ e);let hns:h1.Ns h2.objs.size (λ_=>Ld):=by rw[<-hH1];show(Heap.Ns.new h2 (.type "dict")).keeps (aaL _ _)
 let hoc:∀x c,(tf X scope h2.objs.size).lookup x=cL c->h2.objs.size<c->∃v,h1.IsCell c v:=λx c e XU=>by
  let e':(Wu (h2.push {cls:=.type "dict",data:=.dict #v[]}).objs.size scope.names (fS X.env scope.names [])).lookup x=cL c:=by rw[cv];show e
  rcases qM _ _ _ x c e' with⟨_,z⟩|z
  .show#[Ld,by rw[<-hH1];show z]
  .show a7 (Xs (si I z).2 (Xs M XU)) (VT _)
 let hd:∃n,h1.get? s.heap.objs.size=cL {cls:=.type "list",data:=.seq #v[] n}:=#[0,kp2 _ _ (by rw[<-hH2];show cc _ rfl)];let G:∀b∈k,b<s.heap.objs.size:=λb f=>by let(o,e,_):=T.obj 0 _ st b f;show b4 e
 let hn:H s.heap.objs.size=Ld:=I.VQ.fresh (UG _);let(W,(m0,w0),turn):=hR s.heap.objs.size hn;let O:∀{pl:bb (Uz×Obj)} {V:Hp},(∀b∈k,V b=Ld)->(∀p∈pl,p.1∉k)->∀b∈k,lA (bU X s H scope h2.objs.size (dg own h) k) pl V b:=λ{pl V} hn' ZR b f=>by let ok:=Ar (C:=h2.objs.size) (N:=dg own h) I X4 hnd hfr hC L G;show#[hn' b f,(ok.exf b f).1,ok.aaR b f,.inl f,(ok.exf b f).2,λp hp=>by let hp':p∈([]:bb (Uz×Obj))++pl:=hp;intro z;show ZR p (by simpa using hp') (by rw[z];show f)]
 let l:∀s4:UC,s4={s with heap:=h1}->
   codeAny (model X.prog X.w) X.A (.compLoop (.ListComp P [#[tg,q,F,0]] scope pos) 0 (.ref it) (.ref s.heap.objs.size) (compEnvC scope (tf X scope h2.objs.size) h2.objs.size X.env)) (RR (.ref s.heap.objs.size) h2.objs.size) s4:=by
  rintro s4 rfl
  let I0:Inv (bU X s H scope h2.objs.size (dg own h) k) [] (g6 own h Y) (aX H s.heap.objs.size (.lst [])) {s with heap:=h1}:=
   Gc I X4 hnd hfr hfv (UG _) M hC L G hns hoc kp hd
  let st0:tn 0 h1:=T.keep 0 _ _ st λb _ o e=>kp b o e;let fr0:∀b∈k,(aX H s.heap.objs.size (.lst [])) b=Ld:=λb f=>by rw[ay (U3 (G b f))];show(L b f).1
  show BE (λx s1 z=>hEE _ _ x s1 hC z) (λn s'=>∃i σ' V,Inv (bU X s H scope h2.objs.size (dg own h) k) [] σ' V s'/\tn i s'.heap/\(∀b∈k,V b=Ld)/\W i n σ' V) ?_ m0 #[0,_,_,I0,st0,fr0,w0];rintro n s5 ⟨i,j,H5,I5,st5,fr5,w5⟩;rcases turn i n j H5 w5 with⟨stop,fin⟩|⟨go,N,hN,step⟩
  .show bT (T.done (bU X s H scope h2.objs.size (dg own h) k) rfl rfl rfl hc i [] s5 j H5 (λ_ _=>False) I5 (O fr5 (by simp)) st5 stop) λr s6 #[hr,A]=>?_;subst hr;let(mm,hm,_):=A.loc;show hRR _ _ H5 s6 ?_ fin #[mm,hm] hC A.free;show I.acH (ch:=k) A.os A.base A.VQ A.bare λb f=>#[(L b f).2.2.2.1,(L b f).2.1,(L b f).2.2.2.2.1,(L b f).2.2.2.2.2]
  .show bT (T.item (bU X s H scope h2.objs.size (dg own h) k) rfl rfl rfl hc i [] s5 j H5 (λ_ _=>False) I5 (O fr5 (by simp)) st5 go) λr s6 #[u,hr,h6]=>?_
   subst hr;show bT h6 λ_ s7 a=>?_;let(x,H7,I7,r7,y7,B,fr7):=a;let I7':=I7.pinned (fp:=k) (O fr7 (by simp)) (T.obj _ _ B);let t:∀{a:St} {Q:Hp} {w:UC},Inv (bU X s H scope h2.objs.size (dg own h) k) ([]++qO k s7.heap) a Q w->N a Q->∃m,m<n/\∃i σ' V,Inv (bU X s H scope h2.objs.size (dg own h) k) [] σ' V w/\tn i w.heap/\(∀b∈k,V b=Ld)/\W i m σ' V:=λ{a Q w} I8 n8=>by let(m',hm,w8):=hN a Q n8;show#[m',hm,i+1,a,Q,I8.Zn,T.keep _ _ _ B λb f o e=>(I8.pin (b,o) (Vp _ (Vp _ (iW f e)))).1,λb f=>?_,w8];let(o,e,d):=T.obj _ _ B b f;show(I8.pin (b,o) (Vp _ (Vp _ (iW f e)))).2.1
   show bT (hg _ _ s7 j H7 x u _ I7' r7 (step x H7 y7)) λ_ w a=>?_;let(a,Q,I8,q8):=a;show bT (ht _ _ w a Q _ I8 q8) λok s9 a=>?_;let(H9,I9,q9):=a;cases ok with
   |false=>rw[aE UQ]at q9⊢;show t I9 q9
   |true=>rw[ax rfl]at q9⊢;show bT (he _ _ s9 a H9 _ (I9.YH _) q9) λy s10 a=>?_;let(K,H10,aiD,r10,ys,hy,hl,q10):=a;let I10:=aiD.XT;show bT (mi _ s10 a H10 (.ref s.heap.objs.size) [K] (.ref s.heap.objs.size) [y] (λ_ H11=>N a H11) I10 rfl (.cons r10 .nil) #[_,ys,K,rfl,rfl,hy,hl,q10]) λ_ s11 a=>?_;let(v11,H11,I11,_,q11):=a;show t I11 q11
 show codeAny_compStart_list (l _ rfl) (T.self _ 0 _ _ _ (T.keep 0 _ _ st λb _ o e=>kp b o e) (l _ rfl))
def rC(own:G Str)(f:G (Str×Nat))(b:TI)(g:TG)(e:TT)(d:TE):TE:=λY H Q=>b Y H λJ a=>∀D,a D=P->DF J D (g6 own f Y) g e d a λh=>Q (.ref D) h
theorem oE{a:WA}(ok:X.Ok)(h:∀y∈a.names,y.2=.free->(X.env.scope.names.lookup y.1=M .cell\/X.env.scope.names.lookup y.1=M .free)):∀y∈a.names,y.2=.free->∃c,X.env.cells.lookup y.1=M c:=
 λy b e=>ok.has y.1 (h y b e)
theorem LA{a sc:WA}(h:(a.names.all λy=> !(y.2==U0.free)||(sc.names.lookup y.1==M U0.cell)||(sc.names.lookup y.1==M U0.free))=S):
  ∀y∈a.names,y.2=.free->(sc.names.lookup y.1=M .cell\/sc.names.lookup y.1=M .free):=λy b e=>by
 let q:=VZ.mp h y b;rw[e]at q
 simpa using q
def yH{elt f iter:U4}{ifs:G U4}{scope:WA}{pos:Pos}(own:G Str)(c:G (Str×Nat)){t:TI}{g:TG}{v:TT}{u:TE}(V:X.calm=S)(N:PI X f iter t)
  (O:∀s H C a,PG (bU X s H scope C (dg own c) a) f g) (F:∀s H C a,xo (bU X s H scope C (dg own c) a) ifs v) (he:∀s H C a,PE (bU X s H scope C (dg own c) a) elt u) (l:aay X scope c)
  (n:(scope.names.all λy=> !(y.2==U0.free)||(X.env.scope.names.lookup y.1==M U0.cell)||(X.env.scope.names.lookup y.1==M U0.free))=S)
  (w:scope.kind=.function:=by rfl) (k:(scope.names.map (·.1)).Nodup:=by left)
  (p:∀y∈scope.names,y.2=.local->scope.names.lookup y.1=M .local:=by left) (K:∀x,foldedSetIterable iter X.env x=pure x:=by intro _;rfl):
  PE X (.ListComp elt [#[f,iter,ifs,0]] scope pos) (rC own c t g v u):=by
 intro Z s Y H Q I h;let d:=LA n;rw[eval_ListComp];show abW (use:=P) rfl K (qN (oE I.ok d)) w p (bT (N Z s Y H _ I h) λxv s1 h1=>bT h1 λE s2 h2=>?_);let(it,a,tn,J,H2,e,A,T,i,f2,R):=h2;subst e;show pB A V w k (oE I.ok d) l T i f2 (λC=>O _ _ C _) (λC=>F _ _ C _) (W:=λ_ _ _=>False) (λC=>he _ _ C _) (λ_ _ _ _ _ z=>z.elim) (Fin:=λD r=>Q (.ref D) r) R ?_;intro D C r B I' fin hm hC L;let(m,hm):=hm;show#[m,hm,λh' j=>#[.ref D,r,?_,rfl,fin]];let(f0,f1,_,f3,f4,f5):=A.aaS hC L;show I'.turned (t':=B.toks) (λb o hb q=>(j.2 b hb).trans q) f0 f1 f3 f4 f5
def Ks{elt d iter:U4}{ifs:G U4}{scope:WA}{pos k py:Pos}{i:Nat}{x:Str}(own:G Str)(j:G (Str×Nat)){O:TI}{g:TG}{tc:TT}{V:TE}(hN:X.N.Nodup)(w:X.N[i]?=M x)(hx:X.env.scope.names.lookup x=M .local)
  (hc:X.calm=S) (hi:PI X d iter O)
  (hg:∀s H C c,PG (bU X s H scope C (dg own j) c) d g) (ht:∀s H C c,xo (bU X s H scope C (dg own j) c) ifs tc) (he:∀s H C c,PE (bU X s H scope C (dg own j) c) elt V) (A:aay X scope j)
  (E:(scope.names.all λy=> !(y.2==U0.free)||(X.env.scope.names.lookup y.1==M U0.cell)||(X.env.scope.names.lookup y.1==M U0.free))=S)
  (r:W0 (.ListComp elt [#[d,iter,ifs,0]] scope pos) (M (.Name x py)) k.line X.env=pure S:=by rfl)
  (X4:scope.kind=.function:=by rfl) (u:(scope.names.map (·.1)).Nodup:=by left)
  (F:∀y∈scope.names,y.2=.local->scope.names.lookup y.1=M .local:=by left) (hs:∀x,foldedSetIterable iter X.env x=pure x:=by intro _;rfl):
  PS X (.Assign [.Name x py] (.ListComp elt [#[d,iter,ifs,0]] scope pos) k) (sG (rC own j O g tc V) (lV i)):=by
 intro Z s Y H D I h;let f:=LA E;rw[exec_Assign_Name_used _ _ _ _ r];show CL (WI (CL ?_));show wpAny _ _ (do let _<-comprehension (.ListComp elt [#[d,iter,ifs,0]] scope pos) scope X.env _ (newList []) Ux (eval iter X.env) (M (assign (.Name x py) X.env))) _ _ s;show CL (bT (abW (use:=M (assign (.Name x py) X.env)) (Q:=λ_ l=>SP X Z D .next l) rfl hs (qN (oE I.ok f)) X4 F
  (bT (hi Z s Y H _ I h) λxv s1 h1=>bT h1 λitv s2 h2=>?_)) λ_ l q=>UD (UD q))
 let(it,c,tn,J,H2,e,I2,T,n,f2,R):=h2;subst e;show pB I2 hc X4 u (oE I.ok f) A T n f2 (λC=>hg _ _ C _) (λC=>ht _ _ C _) (W:=λ_ _ _=>False) (λC=>he _ _ C _) (λ_ _ _ _ _ z=>z.elim) (Fin:=λL N=>D.nx (Y.set i (M (.ref L))) N) R ?_;intro L C N l I' fin hm hC hn;let(m,hm):=hm;let(f0,f1,f2',f3,f4,f5):=I2.aaS hC hn;show wpAny _ _ (assign (.Name x py) X.env (.ref L)) _ _ l;show aeJ (rL I' hN w (.inl hx) (v:=.ref L) rfl (λp K #[a,sb,ha]=>?_) (.inr hx));let B:C≠a:=by
  rcases ha with z|z
  .rw[z];show f1
  .show λq=>f4 x a z q.symm
 show#[m,hm.sameBut sb B,λh' t=>#[_,N,?_,fin]];show K.turned (t':=p.toks) (λb o hb q=>(t.2 b hb).trans q) f0 f1 f3 f4 f5
end
def wb(P:UZ)(w:Vf)(K:lD)(c:Str->z U)(base:Heap)(k:Nat)(x:Str)(b:G Str)(sp:Sp):Prop:=
 ∃(f:I) (a:VG),FnOk P w K c base jY k f a b sp/\Binds K a b []/\Wa K (.ref f)=S/\c x=M (.ref f)
def t9(C:wb X.prog X.w X.K X.mg X.base k x J sp)(h:Wr j X.A)(c:PA X (e::es) t)(a:k<=j:=by decide)(i:Gl X x:=by rfl)
  (d:(x==("__debug__":Str))=R:=by decide) (l:UW (e::es) X.env=(R,eval e X.env)::UW es X.env:=by rfl) (n:(backTo pos (UW es X.env)).any (·.1)=R:=by rfl):
  PE X (.Call (.Name x p) (e::es) [] pos) (lY sp [] E0 t):=by
 let(f,o,F,b,g,m):=C;show yM F (h.mono a) i m g b .nil Gn c d l n
section
variable{Z:St}{H:Hp}{Q:VK}{D:Ends}
theorem NQ(h:t {D with nx:=u D} Z H):Fm t u D Z H:=h
theorem Pf(h:o Z H λx H1=>g x Z H1 D.nx):sG o g D Z H:=h
theorem Je{Q:St->Hp->Prop}(h:Q (Z.set i (M v)) H):lV i v Z H Q:=h
theorem ST(h:Q v H):tC v Z H Q:=h
theorem HE(h:o Z H λ_ H1=>D.nx Z H1):vv o D Z H:=h
end
def Np{α:Type}{xs:G α}{i:Int}{v:α}(a:0<=i)(h:xs[i.toNat]?=M v):jV xs i=M v:=by let q:=zR h;rwa [Zf a]at q
def Wj.tup{K:lD}(e:Wj H H')(h:Ya K H a xs):Ya K H' a xs:=by
 rcases h with(h|⟨o,h⟩)|h
 .show .inl (.inl (e _ _ h))
 .show .inl (.inr #[o,e _ _ h])
 .show .inr h
theorem bz(h:H p=P)(o:HO):Wj H (aX H p o):=λb u q=>by rw[ay (bB q h)];show q
def Lh:VF "max"=M (.builtin "max"):=by left
def Qb:VF "len"=M (.builtin "len"):=by left
def vW:VF "sorted"=M (.builtin "sorted"):=by left
def RN:VF "all"=M (.builtin "all"):=by left
def Rn:VF "any"=M (.builtin "any"):=by left
def yu:VF "list"=M (.type "list"):=by left
def JM:VF "tuple"=M (.type "tuple"):=by left
section
variable{X:Cx}
def vI:W3 X (.builtin "sorted") (λxs H Q=>∃(p:Uz) (f:bb Int),xs=[.ref p]/\Yr X.K H p (f.map V.int)/\f.length<64/\∀(l:Uz) (a:bb Int),H l=P->a.Perm f->a.Pairwise (·<=·)->Q (.ref l) (aX H l (.lst (a.map V.int)))):=by
 intro i s C H xs E Q I r h;let(p,f,rfl,t,y,q):=h;let(u,rfl,m):=jj r;ext m;let(B,J,pl,G):=I.list t;let v:=J.length;rw[Uy]at v;show sorted_ints pl.isList (kB J) () λd a K j n=>?_;let(e,w):=sortedAll_at s.heap B d;let g:a.length=f.length:=j.length_eq;let A:d.toList.length=a.length:=K.length;show#[.ref (s.heap.objs.size+1),_,I.laid (t':=s.toks) (o:=.lst (a.map V.int)) (λb F z=>sortedAll_old z) (Z4 _) ?_,W,q _ a (I.VQ.fresh (Z4 _)) j n];show#[?_,d.toList,e,ia K,w];rw[Uy,g];let:(64:Nat)<=UK:=by decide
 ext
end
end L2
namespace L3
open PySem L2
abbrev D:=UB
inductive PV where
 |fz (d:D)
 |ow (ds:G D)
 |pl (i:Nat)
abbrev aQ:=G (z PV)
structure Xc where
 cls:Str
 fs:G (Str×D)
inductive Res(α:Type) where
 |ok (a:α)
 |er (x:Xc)
 |bad
namespace Res
def bind(r:Res α)(f:α->Res β):Res β:=match r with
 |.ok a=>f a
 |.er x=>.er x
 |.bad=>.bad
def VD:z α->Res α
 |some a=>.ok a
 |none=>.bad
theorem bind_ok(a:α)(f:α->Res β):(Res.ok a).bind f=f a:=W
end Res
abbrev eh:=@Res.bind_ok
abbrev bF:=I->Prop
def bK(O:bF)(p:I):bF:=λb=>O b\/b=p
def B7(O:bF)(p:I):bF:=λb=>O b/\b≠p
def noO:bF:=λ_=>False
def Ev(O:bF)(H:Hp)(a:bF)(c:Hp):Prop:=∀b o,H b=M o->¬O b->c b=M o/\¬a b
theorem Ev.refl:Ev O H O H:=λ_ _ h n=>#[h,n]
theorem Ev.trans(a:Ev O H O1 H1)(b:Ev O1 H1 O2 H2):Ev O H O2 H2:=λp o h n=>let#[h1,d]:=a p o h n;b p o h1 d
theorem Ev.grow(s:Wj H H'):Ev O H O H':=λb o h n=>#[s b o h,n]
theorem Ev.add(s:Wj H H')(a:H p=P):Ev O H (bK O p) H':=λb o h n=>#[s b o h,λz=>z.elim n λe=>by simp_all]
theorem Ev.sub(h:∀b,O' b->O b):Ev O H O' H:=λb o e n=>#[e,λz=>n (h b z)]
theorem Ev.mut(a:O p)(u:HO):Ev O H O (aX H p u):=λb o h n=>#[by rw[ay (λe=>n (by simp_all))];show h,n]
def XS(K:lD)(H:Hp)(a:I)(xs:G V):Prop:=Rd H a (.lst xs)\/∃(b:G U) (n:Nat),K.lookup a=M {cls:=.type "list",data:=.seq b.toArray n}/\xs.length<=UK/\Vals xs b
def XS.sq(h:XS K H a xs):Yr K H a xs:=by
 rcases h with h|⟨e,n,h1,d,b⟩
 .show .inl h
 .show .inr #[_,e.toArray,n,h1,W,W,W,by rw[UN,<-b.length];show d,by ext]
theorem XS.of(h:H a=M (.lst xs)):XS K H a xs:=.inl (.inl h)
def XS.same(e:Wj H H')(h:XS K H a xs):XS K H' a xs:=by
 rcases h with(h|⟨o,h⟩)|h
 .show .inl (.inl (e _ _ h))
 .show .inl (.inr #[o,e _ _ h])
 .show .inr h
theorem jN(H:Hp):Wj (λ_=>P) H:=λ_ _ h=>by ext h
def ZM(O:bF)(K:lD)(H:Hp)(a:I)(xs:G V):Prop:=XS K H a xs/\(O a->XS K (λ_=>P) a xs)
def YE(O:bF)(K:lD)(H:Hp)(a:I)(xs:G V):Prop:=Ya K H a xs/\(O a->Ya K (λ_=>P) a xs)
section
variable{O Z:bF}{K:lD}{H Y:Hp}{a:Uz}{X:bb V}
def ZM.ev(h:ZM O K H a X)(e:Ev O H Z Y):ZM Z K Y a X:=by
 let(h,k):=h;by_cases z:O a
 .show#[XS.same (jN Y) (k z),λ_=>k z]
 .rcases h with(h|⟨o,h⟩)|h
  .let(d,b):=e a _ h z;show#[.inl (.inl d),λy=>a7 y b]
  .let(d,b):=e a _ h z;show#[.inl (.inr #[o,d]),λy=>a7 y b]
  .show#[.inr h,λ_=>.inr h]
def YE.ev(h:YE O K H a X)(e:Ev O H Z Y):YE Z K Y a X:=by
 let(h,k):=h;by_cases z:O a
 .show#[(jN Y).tup (k z),λ_=>k z]
 .rcases h with(h|⟨o,h⟩)|h
  .let(d,b):=e a _ h z;show#[.inl (.inl d),λy=>a7 y b]
  .let(d,b):=e a _ h z;show#[.inl (.inr #[o,d]),λy=>a7 y b]
  .show#[.inr h,λ_=>.inr h]
end
mutual
inductive DV(O:bF)(K:lD)(H:Hp):V->D->Prop
 |WL:DV O K H .WL .none
 |bl (b:Bool):DV O K H (.bl b) (.bool b)
 |int (i:Int):DV O K H (.int i) (.int i)
 |str (x:Str):DV O K H (.str x) (.str x)
 |tup {a:Uz} {xs:bb V} {ds:bb D}:YE O K H a xs->Wb O K H xs ds->DV O K H (.ref a) (.tuple ds)
 |lst {a:Uz} {xs:bb V} {ds:bb D}:ZM O K H a xs->Wb O K H xs ds->DV O K H (.ref a) (.list ds)
inductive Wb(O:bF)(K:lD)(H:Hp):bb V->bb D->Prop
 |nil:Wb O K H [] []
 |cons {v:V} {vs:bb V} {d:D} {ds:bb D}:DV O K H v d->Wb O K H vs ds->Wb O K H (v::vs) (d::ds)
end
section
variable{O Z:bF}{K:lD}{H H':Hp}
mutual
theorem DV.ev(e:Ev O H Z H'):∀{v:V} {d:D},DV O K H v d->DV Z K H' v d
 |_,_,.WL=>.WL
 |_,_,.bl b=>.bl b
 |_,_,.int i=>.int i
 |_,_,.str x=>.str x
 |_,_,.tup h hs=>.tup (h.ev e) (Wb.ev e hs)
 |_,_,.lst h hs=>.lst (h.ev e) (Wb.ev e hs)
theorem Wb.ev(e:Ev O H Z H'):∀{vs:bb V} {ds:bb D},Wb O K H vs ds->Wb Z K H' vs ds
 |_,_,.nil=>.nil
 |_,_,.cons h hs=>.cons (DV.ev e h) (Wb.ev e hs)
end
theorem Wb.length:∀{a:G V} {ds:G D},Wb O K H a ds->a.length=ds.length
 |_,_,.nil=>rfl
 |_,_,.cons _ t=>by rw[UO,UO,t.length]
theorem Wb.get:∀{c:G V} {ds:G D} {i:Nat} {d:D},Wb O K H c ds->ds[i]?=M d->∃v,c[i]?=M v/\DV O K H v d
 |_,_,_,_,.nil,e=>by simp at e
 |_,_,0,_,.cons h _,e=>by simp_all
 |_,_,i+1,d,.cons _ t,e=>by let(v,b,a):=Wb.get t (by simpa using e);simp_all
theorem Wb.aer:∀{c:G V} {ds:G D} {i:Nat} {v:V},Wb O K H c ds->c[i]?=M v->∃d,ds[i]?=M d/\DV O K H v d
 |_,_,_,_,.nil,e=>by simp at e
 |_,_,0,_,.cons h _,e=>by simp_all
 |_,_,i+1,v,.cons _ t,e=>by let(d,b,a):=Wb.aer t (by simpa using e);simp_all
theorem Wb.append:∀{a ws:G V} {ds es:G D},Wb O K H a ds->Wb O K H ws es->Wb O K H (a++ws) (ds++es)
 |_,_,_,_,.nil,h=>h
 |_,_,_,_,.cons h t,g=>.cons h (Wb.append t g)
theorem Wb.take:∀{a:G V} {ds:G D} (n:Nat),Wb O K H a ds->Wb O K H (a.take n) (ds.take n)
 |_,_,0,_=>.nil
 |_,_,_+1,.nil=>.nil
 |_,_,n+1,.cons h t=>.cons h (Wb.take n t)
theorem Wb.drop:∀{a:G V} {ds:G D} (n:Nat),Wb O K H a ds->Wb O K H (a.drop n) (ds.drop n)
 |_,_,0,h=>h
 |_,_,_+1,.nil=>.nil
 |_,_,n+1,.cons _ t=>Wb.drop n t
theorem Wb.flat(h:Wb O K H vs ds):∀n:Nat,Wb O K H (UH n vs).flatten (UH n ds).flatten
 |0=>.nil
 |n+1=>by rw[VJ,VJ,Wz,Wz];show h.append (Wb.flat h n)
mutual
theorem DV.plain:∀{v:V} {d:D},DV O K H v d->L2.DV K H v d
 |_,_,.WL=>.WL
 |_,_,.bl b=>.bl b
 |_,_,.int i=>.int i
 |_,_,.str x=>.str x
 |_,_,.tup h hs=>.tup h.1 (Wb.plain hs)
 |_,_,.lst h hs=>.lst h.1.sq (Wb.plain hs)
theorem Wb.plain:∀{vs:bb V} {ds:bb D},Wb O K H vs ds->L2.Wb K H vs ds
 |_,_,.nil=>.nil
 |_,_,.cons h hs=>.cons (DV.plain h) (Wb.plain hs)
end
end
def DX(O:bF)(K:lD)(H:Hp)(v:V):D->Prop
 |.list ds=>∃a xs,v=.ref a/\XS K H a xs/\Wb O K H xs ds
 |d=>DV O K H v d
def DV.x(h:DV O K H v d):DX O K H v d:=by
 cases h with
 |lst h a=>show#[_,_,W,h.1,a]
 |WL=>show .WL
 |bl b=>show .bl b
 |int i=>show .int i
 |str x=>show .str x
 |tup h a=>show .tup h a
def DX.plain(h:DX O K H v d):L2.DV K H v d:=by
 cases d with
 |list ds=>let(a,xs,rfl,f,e):=h;show .lst f.sq e.plain
 |none=>show DV.plain h
 |bool b=>show DV.plain h
 |int i=>show DV.plain h
 |str x=>show DV.plain h
 |tuple ds=>show DV.plain h
 |dict g=>show DV.plain h
def aaA(K:lD)(b:Hp)(O:bF)(H:Hp)(v:V):PV->Prop
 |.fz d=>DV O K H v d
 |.ow ds=>∃a e,v=.ref a/\O a/\b a=P/\H a=M (.lst e)/\Wb O K H e ds
 |.pl _=>False
structure Rl(K:lD)(B:bF)(H0:Hp)(O:bF)(σ:St)(H:Hp)(ρ:aQ):Prop where
 same:Wj H0 H
 bo:∀a,B a->O a
 bd:∀a,B a->H0 a≠P
 od:∀a,H a=P->¬O a
 len:σ.length=ρ.length
 slot:∀(i:Nat) (x:PV),ρ[i]?=M (M x)->∃v,σ[i]?=M (M v)/\aaA K H0 O H v x
 one:∀(i j:Nat) (ds es:G D) (v:V),ρ[i]?=M (M (.ow ds))->ρ[j]?=M (M (.ow es))->σ[i]?=M (M v)->σ[j]?=M (M v)->i=j
def YD(K:lD)(e:Hp)(O:bF)(b:St)(H:Hp)(c:aQ)(v:V):PV->Prop
 |.fz d=>DV O K H v d
 |.ow ds=>∃a f,v=.ref a/\O a/\e a=P/\H a=M (.lst f)/\Wb O K H f ds/\∀(i:Nat) (es:G D),c[i]?=M (M (.ow es))->b[i]?≠M (M (.ref a))
 |.pl i=>b[i]?=M (M v)
def jL:PV->Prop
 |.ow _=>False
 |_=>True
def cV:PV->PV
 |.ow ds=>.fz (.list ds)
 |p=>p
section
variable{K:lD}{B O X:bF}{Z H H':Hp}{Y:St}{ρ ρ':aQ}{v:V}
def aaA.grow(s:Wj H H')(h:aaA K Z O H v x):aaA K Z O H' v x:=by
 cases x with
 |fz d=>show DV.ev (Ev.grow s) h
 |ow ds=>let(a,l,e,j,g,f,b):=h;show#[a,l,e,j,g,s _ _ f,b.ev (Ev.grow s)]
 |pl i=>show h
theorem Rl.grow(R:Rl K B Z O Y H ρ)(s:Wj H H'):Rl K B Z O Y H' ρ:=
 #[R.same.trans s,R.bo,R.bd,λa h=>R.od a (s.free h),R.len,λi x h=>let#[v,h1,b]:=R.slot i x h;#[v,h1,b.grow s],R.one]
theorem Rl.adW(R:Rl K B Z O Y H ρ)(h:H p=P):Z p=P:=R.same.free h
def Rl.add(R:Rl K B Z O Y H ρ)(s:Wj H H')(f:H p=P)(g:H' p≠P):Rl K B Z (bK O p) Y H' ρ:=by
 show#[R.same.trans s,λa h=>.inl (R.bo a h),R.bd,λa h z=>z.elim (R.od a (s.free h)) λe=>g (by simp_all),R.len,λi x h=>?_,R.one];let(v,j,b):=R.slot i x h;show#[v,j,?_];cases x with
 |fz d=>show DV.ev (Ev.add s f) b
 |ow ds=>let(a,q,e,o,n,m,l):=b;show#[a,q,e,.inl o,n,s _ _ m,l.ev (Ev.add s f)]
 |pl i=>show b
theorem Rl.adp(R:Rl K B Z O Y H ρ)(h:Z a=P):¬B a:=λz=>R.bd a z h
def Rl.sub(R:Rl K B Z O Y H ρ){a:I}(m:Z a=P)(h:∀(i:Nat) (es:G D),ρ[i]?=M (M (.ow es))->Y[i]?≠M (M (.ref a))):Rl K B Z (B7 O a) Y H ρ:=by
 show#[R.same,λb f=>#[R.bo b f,λe=>R.adp m (e▸f)],R.bd,λb f z=>R.od b f z.1,R.len,λi x j=>?_,R.one];let(v,l,g):=R.slot i x j;show#[v,l,?_];cases x with
 |fz d=>show DV.ev (Ev.sub λb z=>z.1) g
 |ow ds=>let(b,r,e,q,p,o,n):=g;subst e;show#[b,r,W,#[q,λe=>h i ds j (by rw[l,e])],p,o,n.ev (Ev.sub λb z=>z.1)]
 |pl i=>show g
theorem sM(h:H a=M (.lst o))(n:¬O a)(hd:Wb O K H o ds):DV O K H (.ref a) (.list ds):=.lst #[XS.of h,λz=>a7 z n] hd
def ib{pv:PV}(R:Rl K B Z O Y H ρ)(h:YD K Z O Y H ρ v pv):∃X,Ev O H X H/\Rl K B Z X Y H ρ/\YD K Z X Y H ρ v (cV pv):=by
 cases pv with
 |fz d=>show#[O,.refl,R,h]
 |pl i=>show#[O,.refl,R,h]
 |ow ds=>let(a,m,rfl,l,j,g,f,e):=h;show#[B7 O a,Ev.sub λb z=>z.1,R.sub j e,sM g (λz=>z.2 W) (f.ev (Ev.sub λb z=>z.1))]
def ou(pv:PV):jL (cV pv):=by ext pv<;>trivial
def YD.keep{pv:PV}(a:jL pv)(e:Ev O H X H')(h:YD K Z O Y H ρ v pv):YD K Z X Y H' ρ' v pv:=by
 cases pv with
 |fz d=>show DV.ev e h
 |pl i=>show h
 |ow ds=>show a.elim
def Ti:z (z PV)->z D
 |some (M (.fz d))=>M d
 |some (M (.ow ds))=>M (.list ds)
 |_=>P
def wM(ρ:aQ):PV->z D
 |.fz d=>M d
 |.ow ds=>M (.list ds)
 |.pl i=>Ti ρ[i]?
def nc{pv:PV}(R:Rl K B Z O Y H ρ)(h:YD K Z O Y H ρ v pv)(e:wM ρ pv=M d):DX O K H v d:=by
 cases pv with
 |fz p=>ext e;show DV.x h
 |ow ds=>ext e;let(a,y,rfl,w,t,m,l,r):=h;show#[a,y,W,XS.of m,l]
 |pl i=>
  let b:Ti ρ[i]?=M d:=e;let n:=h;cases q:ρ[i]? with
  |none=>rw[q]at b;ext b
  |some o=>
   cases o with
   |none=>rw[q]at b;ext b
   |some x=>
    let(u,g,f):=R.slot i x q;rw[n]at g;ext g;rw[q]at b;cases x with
    |fz p=>ext b;show DV.x f
    |ow ds=>ext b;let(a,y,rfl,k1,k2,k3,k4):=f;show#[a,y,W,XS.of k3,k4]
    |pl j=>show f.elim
def toS(ρ:aQ)(i:Nat):z (z PV)->z (D×aQ)
 |some (M (.fz d))=>M (d,ρ)
 |some (M (.ow ds))=>M (.list ds,ρ.set i (M (.fz (.list ds))))
 |_=>P
def vV(ρ:aQ):PV->z (D×aQ)
 |.fz d=>M (d,ρ)
 |.ow ds=>M (.list ds,ρ)
 |.pl i=>toS ρ i ρ[i]?
def bQ{l:G α}(h:(l.set i x)[j]?=M y):(j=i/\y=x)\/(j≠i/\l[j]?=M y):=by
 rw[VN]at h;by_cases e:i=j
 .rw[ax e]at h
  split at h
  .ext h;show .inl #[e.symm,W]
  .ext h
 .rw[aE e]at h;show .inr #[λz=>e z.symm,h]
def sr{pv:PV}(R:Rl K B Z O Y H ρ)(h:YD K Z O Y H ρ v pv)(e:vV ρ pv=cL (d,ρ')):∃X,Ev O H X H/\Rl K B Z X Y H ρ'/\DV X K H v d:=by
 cases pv with
 |fz T=>ext e;show#[O,.refl,R,h]
 |ow ds=>ext e;let(a,vs,rfl,h1,S,Q,P,N):=h;show#[B7 O a,Ev.sub λb z=>z.1,R.sub S N,sM Q (λz=>z.2 W) (P.ev (Ev.sub λb z=>z.1))]
 |pl i=>
  let f:toS ρ i ρ[i]?=cL (d,ρ'):=e;let t:=h;cases q:ρ[i]? with
  |none=>rw[q]at f;ext f
  |some o=>
   cases o with
   |none=>rw[q]at f;ext f
   |some x=>
    let(u,C,y):=R.slot i x q;rw[t]at C;ext C;rw[q]at f;cases x with
    |fz T=>ext f;show#[O,.refl,R,y]
    |pl j=>show y.elim
    |ow ds=>
     ext f;let(a,vs,rfl,k1,k2,k3,k4):=y;let es:Ev O H (B7 O a) H:=Ev.sub λb z=>z.1;let E:=sM k3 (λz=>z.2 W) (k4.ev es);show#[B7 O a,es,#[R.same,λb m=>#[R.bo b m,λe=>R.adp k2 (e▸m)],R.bd,λb m z=>R.od b m z.1,by rw[Vz];show R.len,λj x l=>?_,λj k xs F w r p=>?_],E]
     .rcases bQ l with⟨rfl,g⟩|⟨U,l⟩
      .ext g;show#[_,t,E]
      .let(u,A,n):=R.slot j x l
       show#[u,A,?_];cases x with
       |fz d=>show DV.ev es n
       |pl i=>show n
       |ow xs=>let(b,G,rfl,M,L,J,I):=n;show#[b,G,W,#[M,λz=>U (R.one j i xs ds (.ref a) l q (by rw[A,z]) t)],L,J,I.ev es]
     .rcases bQ r with⟨rfl,g⟩|⟨_,r⟩
      .ext g
      .rcases bQ p with⟨rfl,g⟩|⟨_,p⟩
       .ext g
       .show R.one j k xs F w r p
end
def XOk(K:lD)(B:bF)(H:Hp)(c:U)(b:z I)(x:Xc):Prop:=
 (∃a,c=.ref a/\U8 K UY x.cls=M (M (.ref a)))/\∃fs,(∀p,b=M p->H p=M (.xd fs))/\∀f d,x.fs.lookup f=M d->b≠P/\∃v,fs.lookup f=M v/\DV B K H v d
def XE(K:lD)(B:bF)(a:Hp)(E:XK)(x:Xc):Prop:=∀c b H',Wj a H'->XOk K B H' c b x->E c b H'
def WR(K:lD)(E:XK)(B:bF)(b:Hp)(P:α->Prop):Res α->Prop
 |.ok a=>P a
 |.er x=>XE K B b E x
 |.bad=>False
section
variable{K:lD}{E:XK}{B:bF}{Z:Hp}
def WR.bind(h:WR K E B Z b (r.bind k)):WR K E B Z (λa=>WR K E B Z b (k a)) r:=by ext r<;>show h
def WR.VD(h:WR K E B Z b ((Res.VD o).bind k)):∃a,o=M a/\WR K E B Z b (k a):=by
 cases o with
 |none=>show h.elim
 |some a=>show#[a,W,h]
def WR.imp(h:WR K E B Z b r)(g:∀a,b a->P' a):WR K E B Z P' r:=by
 cases r with
 |ok a=>show g a h
 |er x=>show h
 |bad=>show h
end
abbrev FE:=aQ->Res (PV×aQ)
abbrev FT:=aQ->Res (Bool×aQ)
abbrev FA:=aQ->Res (G PV×aQ)
def EO(K:lD)(E:XK)(t:TE)(f:FE):Prop:=
 ∀(B:bF) (b:Hp) (O:bF) (a:St) (H:Hp) (e:aQ) (Q:VK),Rl K B b O a H e->WR K E B b (λr=>∀d v H',Ev O H d H'->Rl K B b d a H' r.2->YD K b d a H' r.2 v r.1->Q v H') (f e)->t a H Q
def TTO(K:lD)(E:XK)(t:TT)(f:FT):Prop:=
 ∀(B:bF) (b:Hp) (O:bF) (a:St) (H:Hp) (d:aQ) (Q:Bool->Hp->Prop),Rl K B b O a H d->WR K E B b (λr=>∀e H',Ev O H e H'->Rl K B b e a H' r.2->Q r.1 H') (f d)->t a H Q
def AO(K:lD)(E:XK)(t:TA)(f:FA):Prop:=
 ∀(B:bF) (b:Hp) (O:bF) (a:St) (H:Hp) (e:aQ) (Q:G V->Hp->Prop),Rl K B b O a H e->WR K E B b (λr=>∀d g H',Ev O H d H'->Rl K B b d a H' r.2->Paired (λv pv=>YD K b d a H' r.2 v pv/\jL pv) g r.1->Q g H') (f e)->t a H Q
inductive RV where
 |fz (d:D)
 |ow (ds:G D)
def RV.pv:RV->PV
 |.fz d=>.fz d
 |.ow ds=>.ow ds
def Fin(O:bF)(K:lD)(H:Hp)(Q:VK):RV->Prop
 |.fz d=>∀v H',Wj H H'->DV O K H' v d->Q v H'
 |.ow ds=>∀p a H',Wj H H'->H p=P->H' p=M (.lst a)->Wb (bK O p) K H' a ds->Q (.ref p) H'
def lg(O:bF)(H:Hp):Prop:=∀a,H a=P->¬O a
section
variable{K:lD}{E:XK}{B O X:bF}{Y H H':Hp}{Z:St}{T ρ':aQ}{v:V}
def kz(R:Rl K B Y O Z H T)(h:∀X v H',Ev O H X H'->Rl K B Y X Z H' T->YD K Y X Z H' T v rv.pv->Q v H'):Fin O K H Q rv:=by
 cases rv with
 |fz d=>show λv H' s f=>h O v H' (Ev.grow s) (R.grow s) f
 |ow ds=>intro p q H' s b e f;show h (bK O p) (.ref p) H' (Ev.add s b) (R.add s b (by rw[e];simp)) #[p,q,W,.inr W,R.adW b,e,f,λi es r z=>?_];let(u,g,a,l,e2,o,n,j,m):=R.slot i _ r;rw[z]at g;ext g;ext e2;rw[b]at j;ext j
theorem Fin.new(hd:Wb O K H vs ds)(h:Fin O K H Q (.ow ds)):∀p,H p=P->Q (.ref p) (aX H p (.lst vs)):=λp a=>
 h p vs _ (bz a _) a aC (hd.ev (Ev.add (bz a _) a))
theorem Fin.ab2(hd:Wb O K H vs ds)(b:lg O H)(h:Fin O K H Q (.fz (.tuple ds))):∀p,H p=P->Q (.ref p) (aX H p (.tup vs)):=λp a=>
 h (.ref p) _ (bz a _) (.tup #[Ya.of aC,λz=>a7 z (b p a)] (hd.ev (Ev.grow (bz a _))))
theorem Fin.at(h:Fin O K H Q (.fz d))(a:DV O K H v d):Q v H:=h v H (Wj.refl H) a
def z8(T:aQ)(i:Nat):z (z PV)->Res (PV×aQ)
 |some (M (.fz d))=>.ok (.fz d,T)
 |some (M (.ow _))=>.ok (.pl i,T)
 |_=>.bad
def aa(i:Nat):FE:=λT=>z8 T i T[i]?
def Od:EO K E (qK i) (aa i):=by
 intro B Y O Z H T Q R w;unfold aa at w;cases q:T[i]? with
 |none=>rw[q]at w;show w.elim
 |some o=>
  cases o with
  |none=>rw[q]at w;show w.elim
  |some x=>
   rw[q]at w;let(v,a,b):=R.slot i x q;cases x with
   |fz d=>show#[v,a,w O v H .refl R b]
   |ow ds=>show#[v,a,w O v H .refl R a]
   |pl j=>show w.elim
def pC(d:D):FE:=λT=>.ok (.fz d,T)
theorem Ay(h:∀O H,DV O K H v d):EO K E (tC v) (pC d):=λB Y O Z H T Q R w=>w O v H .refl R (h O H)
theorem O9:EO K E (tC (.int i)) (pC (.int i)):=Ay λ_ _=>.int i
theorem Rt:EO K E (tC (.bl b)) (pC (.bool b)):=Ay λ_ _=>.bl b
theorem MB:EO K E (tC (.str x)) (pC (.str x)):=Ay λ_ _=>.str x
theorem MZ:EO K E (tC .WL) (pC .none):=Ay λ_ _=>.WL
def iZ(K:lD)(r:R2)(f:D->D->z RV):Prop:=∀(O:bF) (H:Hp) (x y:V) (d a:D) (b:RV) (Q:VK),lg O H->DX O K H x d->DX O K H y a->f d a=M b->Fin O K H Q b->r x y H Q
def aA(f:D->D->z RV)(c fb:FE):FE:=λT=>(c T).bind λa=>(fb a.2).bind λb=>(Res.VD (wM b.2 (cV a.1))).bind λg=>(Res.VD (wM b.2 b.1)).bind λd=>(Res.VD (f g d)).bind λe=>.ok (e.pv,b.2)
def Lw(q:iZ K r f)(c:EO K E ta fa)(t:EO K E tb fb):EO K E (GI r ta tb) (aA f fa fb):=by intro B Y O Z H T Q R w;show c B Y O Z H T _ R (w.bind.imp λa h M x L e1 A p=>?_);let(G,e2,R2,o):=ib A p;show t B Y G Z L a.2 _ R2 (h.bind.imp λb d F y J e3 e n=>?_);let g:=o.keep (ou a.1) e3 (ρ':=b.2);let(dx,j,d):=d.VD;let(u,i,d):=d.VD;let(N,l,d):=d.VD;show q F J x y dx u N Q e.od (nc e g j) (nc e n i) l (kz e λC v I e4 z m=>?_);show d C v I (e1.trans (e2.trans (e3.trans e4))) z m
def Px(f:D->z RV)(c:FE):FE:=λT=>(c T).bind λa=>(Res.VD (wM a.2 a.1)).bind λd=>(Res.VD (f d)).bind λb=>.ok (b.pv,a.2)
def Sz:D->z Bool
 |.bool b=>M b
 |_=>P
def NT(h:DX O K H x d)(e:Sz d=M b):x=.bl b:=by ext d<;>ext e;ext h;rfl
def aB(c:FE):aQ->Res (Bool×aQ):=λT=>(c T).bind λa=>(Res.VD (wM a.2 a.1)).bind λd=>(Res.VD (Sz d)).bind λb=>.ok (b,a.2)
def lK(c:EO K E o C):TTO K E (zn o) (aB C):=by intro B Y O Z H T Q R w;show c B Y O Z H T _ R (w.bind.imp λa e j x l e1 f i=>?_);let(d,g,e):=e.VD;let(b,h,e):=e.VD;show#[b,NT (nc f i g) h,e j l e1 f]
theorem RM(a:EO K E o C):TTO K E (tB o) (aB C):=lK a
def qB(b fb:FT):FT:=λT=>(b T).bind λa=>if a.1=S then fb a.2 else .ok (R,a.2)
def GK(b fb:FT):FT:=λT=>(b T).bind λa=>if a.1=S then .ok (S,a.2)else fb a.2
theorem TTO.next(h:TTO K E t f)(R:Rl K B Y O1 Z H1 T)(e1:Ev O H O1 H1)(w:WR K E B Y (λr=>∀X H',Ev O H X H'->Rl K B Y X Z H' r.2->Q r.1 H') (f T)):t Z H1 Q:=
 h B Y O1 Z H1 T Q R (w.imp λr q X H' a b=>q X H' (e1.trans a) b)
theorem EO.next(h:EO K E t f)(R:Rl K B Y O1 Z H1 T)(e1:Ev O H O1 H1)(w:WR K E B Y (λr=>∀X v H',Ev O H X H'->Rl K B Y X Z H' r.2->YD K Y X Z H' r.2 v r.1->Q v H') (f T)):t Z H1 Q:=
 h B Y O1 Z H1 T Q R (w.imp λr q X v H' b d a=>q X v H' (e1.trans b) d a)
def GY(j:TTO K E t f)(i:TTO K E u g):TTO K E (Ms t u) (qB f g):=by
 intro B Y O Z H T Q R w;show j B Y O Z H T _ R (w.bind.imp λa d l m e1 e=>?_);let(b,h):=a;cases b with
 |true=>show i.next e e1 d
 |false=>show d l m e1 e
def Ox(j:TTO K E t f)(i:TTO K E u g):TTO K E (SG t u) (GK f g):=by
 intro B Y O Z H T Q R w;show j B Y O Z H T _ R (w.bind.imp λa d l m e1 e=>?_);let(b,h):=a;cases b with
 |true=>show d l m e1 e
 |false=>show i.next e e1 d
def dZ:FT:=λT=>.ok (S,T)
theorem Fy:TTO K E D0 dZ:=λB Y O Z H T Q R w=>w O H .refl R
def yB(b fb:FE):FE:=λT=>(aB b T).bind λa=>if a.1=S then fb a.2 else .ok (.fz (.bool R),a.2)
def BK(b:FE):FE:=λT=>(aB b T).bind λa=>.ok (.fz (.bool (!a.1)),a.2)
def Om(j:EO K E C J)(h:EO K E o fb):EO K E (EW C o) (yB J fb):=by
 intro B Y O Z H T Q R w;show lK j B Y O Z H T (λc d=>if c=S then o Z d Q else Q (.bl Ux) d) R (w.bind.imp λa e i d e1 f=>?_);let(b,g):=a;cases b with
 |true=>show h.next f e1 e
 |false=>show e i _ d e1 f (.bl Ux)
def Nq(g:EO K E o C):EO K E (KY o) (BK C):=by intro B Y O Z H T Q R w;show lK g B Y O Z H T (λc b=>Q (.bl (!c)) b) R (w.bind.imp λa d f b e1 e=>d f _ b e1 e (.bl _))
def aq:FA:=λT=>.ok ([],T)
def ae(c:FE)(d:FA):FA:=λT=>(c T).bind λa=>(d a.2).bind λb=>.ok (cV a.1::b.1,b.2)
theorem Op:AO K E jf aq:=λB Y O Z H T Q R w=>w O [] H .refl R .nil
def Iv(c:EO K E C J)(j:AO K E tr fr):AO K E (fZ C tr) (ae J fr):=by intro B Y O Z H T Q R w;show c B Y O Z H T _ R (w.bind.imp λa f r x q e1 m i=>?_);let(o,e2,R2,h):=ib m i;show j B Y o Z q a.2 _ R2 (f.bind.imp λb e n d p e3 l g=>?_);show e n (x::d) p (e1.trans (e2.trans e3)) l (.cons #[h.keep (ou a.1) e3,ou a.1] g)
def vh(T:aQ):G PV->z (G D)
 |[]=>M []
 |p::r=>match wM T p with
  |some d=>(match vh T r with
   |some ds=>M (d::ds)
   |none=>P)
  |none=>P
theorem wS(R:Rl K B Y O Z H T):∀{f:G V} {c:G PV} {ds:G D},Paired (λv pv=>YD K Y O Z H T v pv/\jL pv) f c->vh T c=M ds->Paired (DX O K H) f ds
 |_,_,_,.nil,e=>by ext e;show .nil
 |_,_,_,.cons (l₂:=c) (b:=p) h t,e=>by
  unfold vh at e;cases q:wM T p with
  |none=>simp_all
  |some d=>
   rw[q]at e;dsimp only at e;cases g:vh T c with
   |none=>simp_all
   |some a=>rw[g]at e;ext e;show .cons (nc R h.1 q) (wS R t g)
def nX(T:aQ):G PV->z (G D×aQ)
 |[]=>M ([],T)
 |p::r=>match vV T p with
  |some (d,b)=>(match nX b r with
   |some (ds,a)=>M (d::ds,a)
   |none=>P)
  |none=>P
theorem pX:∀{k:G V} {c:G PV} {ds:G D} {O:bF} {T ρ':aQ},Rl K B Y O Z H T->Paired (λv pv=>YD K Y O Z H T v pv/\jL pv) k c->nX T c=M (ds,ρ')->∃X,Ev O H X H/\Rl K B Y X Z H ρ'/\Wb X K H k ds
 |_,_,_,O,_,_,A,.nil,e=>by ext e;show#[O,.refl,A,.nil]
 |_,_,_,O,T,ρ',A,.cons (l₁:=k) (l₂:=c) (b:=p) h t,e=>by
  unfold nX at e;cases q:vV T p with
  |none=>simp_all
  |some r=>
   let(d,a):=r;rw[q]at e;dsimp only at e;cases C:nX a c with
   |none=>simp_all
   |some j=>let(m,g):=j;rw[C]at e;ext e;let(y,e1,u,o):=sr A h.1 q;let i:Paired (λv pv=>YD K Y y Z H a v pv/\jL pv) k c:=Paired.X9 t λv pv #[l,f]=>#[l.keep f e1,f];let(w,e2,R2,n):=pX u i C;show#[w,e1.trans e2,R2,.cons (o.ev e2) n]
abbrev FN:=G D->Res RV
def zJ(K:lD)(n:Nat)(F:FN):Sp:=λb H Q E=>b.length=n/\∃(B:bF) (ds:G D),(∀a,B a->H a≠P)/\Wb B K H b ds/\WR K E B H (Fin B K H Q) (F ds)
def bj(c:FA):FE:=λT=>(c T).bind λa=>(Res.VD (nX a.2 a.1)).bind λb=>if b.1.length<=1000 then .ok (.fz (.tuple b.1),b.2)else .bad
def cC(c:FA):FE:=λT=>(c T).bind λa=>(Res.VD (nX a.2 a.1)).bind λb=>if b.1.length<=1000 then .ok (.ow b.1,b.2)else .bad
theorem xa(h:n<=1000):n<=UK:=Vk h ()
def Oy(c:AO K E C J):EO K E (IG C) (bj J):=by
 intro B Y O Z H T Q R w;show c B Y O Z H T _ R (w.bind.imp λa f o r p e1 j h=>?_);let((ds,e),q,b):=f.VD;let(n,e2,R2,d):=pX j h q;dsimp only at b;by_cases hn:ds.length<=1000
 .rw[ax hn]at b;show#[by rw[d.length];show xa hn,Fin.ab2 d R2.od (kz R2 λl v m e3 i g=>b l v m (e1.trans (e2.trans e3)) i g)]
 .rw[aE hn]at b;show b.elim
def Ps(c:AO K E C J):EO K E (N9 C) (cC J):=by
 intro B Y O Z H T Q R w;show c B Y O Z H T _ R (w.bind.imp λa f o r p e1 j h=>?_);let((ds,e),q,b):=f.VD;let(n,e2,R2,d):=pX j h q;dsimp only at b;by_cases hn:ds.length<=1000
 .rw[ax hn]at b;show#[by rw[d.length];show xa hn,Fin.new d (kz R2 λl v m e3 i g=>b l v m (e1.trans (e2.trans e3)) i g)]
 .rw[aE hn]at b;show b.elim
def AW(K:lD)(r:G V->Hp->VK->Prop)(f:G D->z RV):Prop:=∀(O:bF) (H:Hp) (xs:G V) (ds:G D) (a:RV) (Q:VK),lg O H->Paired (DX O K H) xs ds->f ds=M a->Fin O K H Q a->r xs H Q
def fY(f:G D->z RV)(c:FA):FE:=λT=>(c T).bind λa=>(Res.VD (vh a.2 a.1)).bind λds=>(Res.VD (f ds)).bind λb=>.ok (b.pv,a.2)
def Lp(j:AW K r f)(c:AO K E C J):EO K E (Ew r C) (fY f J):=by intro B Y O Z H T Q R w;show c B Y O Z H T _ R (w.bind.imp λa e n t p e1 d i=>?_);let(ds,q,b):=e.VD;let(u,g,b):=b.VD;show j n p t ds u Q d.od (wS d i q) g (kz d λm v o e4 l h=>b m v o (e1.trans e4) l h)
def Su:D->z Int
 |.int i=>M i
 |_=>P
def Ou(h:DX O K H x d)(e:Su d=M i):x=.int i:=by ext d<;>ext e;ext h;rfl
abbrev FO:=aQ->Res (z Int×aQ)
def Ro(K:lD)(E:XK)(t:TO)(f:FO):Prop:=
 ∀(B:bF) (Y:Hp) (O:bF) (Z:St) (H:Hp) (T:aQ) (Q:z Int->Hp->Prop),Rl K B Y O Z H T->WR K E B Y (λr=>∀X H',Ev O H X H'->Rl K B Y X Z H' r.2->Q r.1 H') (f T)->t Z H Q
def pK:FO:=λT=>.ok (P,T)
def nu(b:FE):FO:=λT=>(b T).bind λa=>(Res.VD (wM a.2 a.1)).bind λd=>(Res.VD (Su d)).bind λi=>.ok (M i,a.2)
theorem Et:Ro K E zH pK:=λB Y O Z H T Q R w=>w O H .refl R
def Fr(c:EO K E o C):Ro K E (C5 o) (nu C):=by intro B Y O Z H T Q R w;show c B Y O Z H T _ R (w.bind.imp λa f j x l e1 e h=>?_);let(d,q,b):=f.VD;let(i,g,b):=b.VD;show#[i,Ou (nc e h q) g,b j l e1 e]
def R8(K:lD)(r:V->z Int->z Int->Hp->VK->Prop)(f:D->z Int->z Int->z RV):Prop:=∀(O:bF) (H:Hp) (x:V) (lo b:z Int) (d:D) (a:RV) (Q:VK),lg O H->DX O K H x d->f d lo b=M a->Fin O K H Q a->r x lo b H Q
def Lr(f:D->z Int->z Int->z RV)(c:FE)(b d:FO):FE:=λT=>(c T).bind λa=>(b a.2).bind λl=>(d l.2).bind λh=>(Res.VD (wM h.2 (cV a.1))).bind λg=>(Res.VD (f g l.1 h.1)).bind λe=>.ok (e.pv,h.2)
def PY(p:R8 K r f)(c:EO K E ta fa)(q:Ro K E tl fl)(t:Ro K E th fh):EO K E (Te r ta tl th) (Lr f fa fl fh):=by intro B Y O Z H T Q R w;show c B Y O Z H T _ R (w.bind.imp λa g N x M e1 z o=>?_);let(G,e2,R2,n):=ib z o;show q B Y G Z M a.2 _ R2 (g.bind.imp λl e F L e3 y=>?_);show t B Y F Z L l.2 _ y (e.bind.imp λh b C J e4 d=>?_);let(dx,i,b):=b.VD;let(rv,j,b):=b.VD;show p C J x l.1 h.1 dx rv Q d.od (nc d (n.keep (ou a.1) (e3.trans e4)) i) j (kz d λA v I e5 u m=>b A v I (e1.trans (e2.trans (e3.trans (e4.trans e5)))) u m)
end
def ui{l:G α}(h:(l.set i x)[i]?=M y):i<l.length:=by
 rw[VN]at h;rw[ax W]at h;split at h
 .assumption
 .ext h
section
variable{K:lD}{E:XK}{B O U:bF}{Z H H':Hp}{Y:St}{ρ ρ':aQ}{v:V}
def Rl.mut{i:Nat}{ds g:bb D}{a:Uz}{f:bb V}(R:Rl K B Z O Y H ρ)(c:ρ[i]?=cL (cL (.ow ds)))(I:Y[i]?=cL (cL (.ref a)))(J:O a)(L:Z a=Ld)(hd:Wb O K H f g):
  Rl K B Z O Y (aX H a (.lst f)) (ρ.set i (cL (.ow g))):=by
 let ev:Ev O H O (aX H a (.lst f)):=Ev.mut J _;show#[λb o e=>by rw[ay (bB e L)];show R.same b o e,R.bo,R.bd,λb m=>?_,by rw[Vz];show R.len,λj x l=>?_,λj k xs F w X T y r=>?_]
 .by_cases e:b=a
  .rw[e,aC]at m;ext m
  .rw[ay e]at m;show R.od b m
 .rcases bQ l with⟨rfl,ee⟩|⟨YI,l⟩
  .ext ee;show#[_,I,a,f,W,J,L,aC,hd.ev ev]
  .let(u,G,q):=R.slot j x l
   show#[u,G,?_];cases x with
   |fz d=>show DV.ev ev q
   |pl i=>show q
   |ow xs=>let(b,M,rfl,S,Q,P,N):=q;let C:b≠a:=λz=>YI (R.one j i xs ds (.ref a) l c (by rw[G,z]) I);show#[b,M,W,S,Q,by rw[ay C];show P,N.ev ev]
 .let own:∀{j:Nat} {xs:bb D},(ρ.set i (cL (.ow g)))[j]?=cL (cL (.ow xs))->∃F,ρ[j]?=cL (cL (.ow F)):=λ{j xs} h=>by
   rcases bQ h with⟨rfl,_⟩|⟨_,h⟩
   .show#[_,c]
   .show#[_,h]
  let(p,A):=own X;let(n,t):=own T;show R.one j k p n w A t y r
theorem rZ(h:n<1000000):n<UK:=U1 h ()
def Ei:z (z PV)->z (G D)
 |some (M (.ow ds))=>M ds
 |_=>P
def Ae(h:Ei o=M ds):o=M (M (.ow ds)):=by
 unfold Ei at h;split at h
 .ext h;rfl
 .ext h
def wx(i:Nat)(c:FE):FE:=λρ=>(Res.VD (Ei ρ[i]?)).bind λ_=>(c ρ).bind λa=>(Res.VD (vV a.2 a.1)).bind λb=>(Res.VD (Ei b.2[i]?)).bind λds=>
 if ds.length<1000000 then .ok (.fz .none,b.2.set i (M (.ow (ds++[b.1]))))else .bad
def OC(p:EO K E te fe):EO K E (QE K "list" tM (qK i) (fZ te jf)) (wx i fe):=by
 intro B Z O Y H ρ Q R w;let(u,n,w):=w.VD;let(v,j,a,N,rfl,I,G,q,F):=R.slot i _ (Ae n);show#[_,j,.inl #[W,_,Yr.of q],?_];show p B Z O Y H ρ _ R (w.bind.imp λb e L y M e1 z o=>?_);let((d,l),m,e):=e.VD;let(A,e2,R2,t):=sr z o m;let(ds,f,e):=e.VD;let f:=Ae f;let(C,k1,J,g,r,k2,k3,k4,k5):=R2.slot i _ f;subst r;rw[j]at k1;ext k1;dsimp only at e;by_cases h:ds.length<1000000
 .rw[ax h]at e;show#[a,g,y,W,W,k4,rZ (by rw[k5.length];show h),?_];show e A .WL _ (e1.trans (e2.trans (Ev.mut k2 _))) (R2.mut f j k2 k3 (k5.append (.cons t .nil))) .WL
 .rw[aE h]at e;show e.elim
abbrev FG:=PV->aQ->Res aQ
abbrev PL:=G D->aQ->Res aQ
def GO(K:lD)(E:XK)(g:TG)(f:FG):Prop:=
 ∀(B:bF) (Z:Hp) (O:bF) (Y:St) (H:Hp) (ρ:aQ) (v:V) (pv:PV) (Q:St->Hp->Prop),Rl K B Z O Y H ρ->YD K Z O Y H ρ v pv->WR K E B Z (λρ'=>∀U a H',Ev O H U H'->Rl K B Z U a H' ρ'->Q a H') (f pv ρ)->g v Y H Q
def Qm(K:lD)(E:XK)(g:xK)(f:PL):Prop:=
 ∀(B:bF) (Z:Hp) (O:bF) (Y:St) (H:Hp) (ρ:aQ) (b:G V) (ds:G D) (Q:St->Hp->Prop),Rl K B Z O Y H ρ->Wb O K H b ds->WR K E B Z (λρ'=>∀U a H',Ev O H U H'->Rl K B Z U a H' ρ'->Q a H') (f ds ρ)->g b Y H Q
def Rl.agh(R:Rl K B Z O Y H ρ)(h:DV O K H v d):Rl K B Z O (Y.set i (M v)) H (ρ.set i (M (.fz d))):=by
 show#[R.same,R.bo,R.bd,R.od,by rw[Vz,Vz];show R.len,λj x f=>?_,λj k xs n w l g b a=>?_]
 .rcases bQ f with⟨rfl,e⟩|⟨t,f⟩
  .ext e;let:=ui f;show#[v,by rw[VN,ax W,ax (by rw[R.len];show this)],h]
  .let(u,r,q):=R.slot j x f;show#[u,by rw[VN,aE (λz=>t z.symm)];show r,q]
 .rcases bQ l with⟨rfl,m⟩|⟨p,l⟩
  .ext m
  .rcases bQ g with⟨rfl,m⟩|⟨o,g⟩
   .ext m
   .rw[VN,aE (λz=>p z.symm)]at b;rw[VN,aE (λz=>o z.symm)]at a;show R.one j k xs n w l g b a
def Rl.ajb(R:Rl K B Z O Y H ρ)(h:YD K Z O Y H ρ v (.ow ds)):Rl K B Z O (Y.set i (M v)) H (ρ.set i (M (.ow ds))):=by
 let(a,N,rfl,G,F,C,A,o):=h;show#[R.same,R.bo,R.bd,R.od,by rw[Vz,Vz];show R.len,λj x l=>?_,λj k xs n w y g d b=>?_]
 .rcases bQ l with⟨rfl,e⟩|⟨L,l⟩
  .ext e;let:=ui l;show#[.ref a,by rw[VN,ax W,ax (by rw[R.len];show this)],a,N,W,G,F,C,A]
  .let(u,r,q):=R.slot j x l;show#[u,by rw[VN,aE (λz=>L z.symm)];show r,q]
 .rcases bQ y with⟨rfl,J⟩|⟨p,f⟩
  .rcases bQ g with⟨rfl,I⟩|⟨m,g⟩
   .rfl
   .rw[VN,aE (λz=>m z.symm)]at b
    rcases bQ d with⟨_,e⟩|⟨z,_⟩
    .ext e;show a7 b (o k n g)
    .show a7 W z
  .let t:=f
   rw[VN,aE (λz=>p z.symm)]at d;rcases bQ g with⟨rfl,J⟩|⟨m,g⟩
   .rcases bQ b with⟨_,e⟩|⟨z,_⟩
    .ext e;show a7 d (o j xs f)
    .show a7 W z
   .rw[VN,aE (λz=>m z.symm)]at b;show R.one j k xs n w f g d b
def gN(i:Nat):FG:=λpv ρ=>match pv with
 |.ow ds=>.ok (ρ.set i (M (.ow ds)))
 |.fz d=>.ok (ρ.set i (M (.fz d)))
 |.pl j=>(Res.VD (vV ρ (.pl j))).bind λb=>.ok (b.2.set i (M (.fz b.1)))
def uq:GO K E (lV i) (gN i):=by
 intro B Z O Y H ρ v pv Q R p w;cases pv with
 |ow ds=>show w O _ H .refl (R.ajb p)
 |fz d=>show w O _ H .refl (R.agh p)
 |pl j=>let((d,a),q,w):=WR.VD (show WR K E B Z _ ((Res.VD (vV ρ (.pl j))).bind λb=>.ok (b.2.set i (M (.fz b.1))))from w);let(f,e2,R2,e):=sr R p q;show w f _ H e2 (R2.agh e)
def PD:PL:=λds ρ=>match ds with
 |[]=>.ok ρ
 |_=>.bad
def D2(f:FG)(g:PL):PL:=λds ρ=>match ds with
 |[]=>.bad
 |d::r=>(f (.fz d) ρ).bind λa=>g r a
def OT:Qm K E Jf PD:=by
 intro B Z O Y H ρ b ds Q R a w;cases a with
 |nil=>show#[W,w O Y H .refl R]
 |cons _ _=>show w.elim
def Hr(n:GO K E t f)(m:Qm K E u g):Qm K E (zX t u) (D2 f g):=by
 intro B Z O Y H ρ C ds Q R o w;cases o with
 |nil=>show w.elim
 |cons l j=>rename_i v C d ds;show#[_,_,W,n B Z O Y H ρ _ (.fz d) _ R l (WR.imp (WR.bind w) λe i y b A e1 p=>?_)];show m B Z y b A e _ _ Q p (j.ev e1) (i.imp λh q r a z e2 R2=>q r a z (e1.trans e2) R2)
def Tc:D->z (G D)
 |.tuple ds=>M ds
 |_=>P
def E3(h:DX O K H x d)(e:Tc d=M ds):∃a xs,x=.ref a/\YE O K H a xs/\Wb O K H xs ds:=by
 ext d<;>ext e;cases h with
 |tup h b=>show#[_,_,W,h,b]
def gT(n:Nat)(f:PL):FG:=λpv ρ=>(Res.VD (wM ρ pv)).bind λd=>(Res.VD (Tc d)).bind λds=>if ds.length=n then f ds ρ else .bad
def NZ(h:Qm K E t f):GO K E (Hn K n t) (gT n f):=by
 intro B Z O Y H ρ v pv Q R p w;let(d,g,w):=w.VD;let(ds,e,w):=w.VD;let(a,xs,rfl,i,b):=E3 (nc R p g) e;by_cases hn:ds.length=n
 .rw[ax hn]at w;show#[a,xs,W,i.1,b.length.trans hn,h B Z O Y H ρ xs ds Q R b w]
 .rw[aE hn]at w;show w.elim
inductive Fl where
 |nx (ρ:aQ)
 |rt (rv:RV)
 |bk (ρ:aQ)
 |ct (ρ:aQ)
abbrev FS:=aQ->Res Fl
def ab0(K:lD)(B:bF)(Z:Hp)(O:bF)(H:Hp)(D:Ends):Fl->Prop
 |.nx ρ'=>∀U a H',Ev O H U H'->Rl K B Z U a H' ρ'->D.nx a H'
 |.bk ρ'=>∀U a H',Ev O H U H'->Rl K B Z U a H' ρ'->D.bk a H'
 |.ct ρ'=>∀U a H',Ev O H U H'->Rl K B Z U a H' ρ'->D.ct a H'
 |.rt b=>Fin B K Z D.rt b
def SO(K:lD)(E:XK)(t:TS)(g:FS):Prop:=
 ∀(B:bF) (Z:Hp) (O:bF) (Y:St) (H:Hp) (ρ:aQ) (D:Ends),Rl K B Z O Y H ρ->WR K E B Z (ab0 K B Z O H D) (g ρ)->t D Y H
def ab0.ev{D:Ends}(e:Ev O H O1 H1)(h:ab0 K B Z O H D fl):ab0 K B Z O1 H1 D fl:=by
 cases fl with
 |nx ρ'=>show λU a H' b d=>h U a H' (e.trans b) d
 |bk ρ'=>show λU a H' b d=>h U a H' (e.trans b) d
 |ct ρ'=>show λU a H' b d=>h U a H' (e.trans b) d
 |rt f=>show h
def cG:FS:=λρ=>.ok (.nx ρ)
def aZ(f g:FS):FS:=λρ=>(f ρ).bind λa=>match a with
 |.nx b=>g b
 |a=>.ok a
def lU(f:FE):FS:=λρ=>(f ρ).bind λa=>.ok (.nx a.2)
def dL(f:FE)(g:FG):FS:=λρ=>(f ρ).bind λa=>(g a.1 a.2).bind λb=>.ok (.nx b)
def ja(c:FT)(f g:FS):FS:=λρ=>(c ρ).bind λa=>if a.1=S then f a.2 else g a.2
def Bu(ρ:aQ):PV->z RV
 |.fz d=>M (.fz d)
 |.ow ds=>M (.ow ds)
 |.pl i=>match ρ[i]? with
  |some (M (.fz d))=>M (.fz d)
  |some (M (.ow ds))=>M (.ow ds)
  |_=>P
def cb(f:FE):FS:=λρ=>(f ρ).bind λa=>(Res.VD (Bu a.2 a.1)).bind λb=>.ok (.rt b)
theorem Iz:SO K E Ep cG:=λB Z O Y H ρ D R w=>w O Y H .refl R
def Nz(i:SO K E t f)(h:SO K E u g):SO K E (Fm t u) (aZ f g):=by
 intro B Z O Y H ρ D R w;show i B Z O Y H ρ {D with nx:=u D} R (WR.imp (WR.bind w) λe b=>?_);cases e with
 |nx a=>show λl d m e1 j=>h B Z l d m a D j (WR.imp b λe q=>q.ev e1)
 |rt n=>show b
 |bk a=>show b
 |ct a=>show b
def Hl(h:EO K E t f):SO K E (vv t) (lU f):=by intro B Z O Y H ρ D R w;show h B Z O Y H ρ _ R (w.bind.imp λa b e x g e1 d i=>b e Y g e1 d)
def xc(h:EO K E t f)(l:GO K E g C):SO K E (sG t g) (dL f C):=by intro B Z O Y H ρ D R w;show h B Z O Y H ρ _ R (w.bind.imp λa i o x q e1 m j=>?_);show l B Z o Y q a.2 x a.1 _ m j (i.bind.imp λd e n b p e2 R2=>e n b p (e1.trans e2) R2)
def QC(l:TTO K E c C)(n:SO K E t f)(m:SO K E u g):SO K E (Hd c t u) (ja C f g):=by
 intro B Z O Y H ρ D R w;show l B Z O Y H ρ _ R (w.bind.imp λa e i j e1 h=>?_);let(b,d):=a;cases b with
 |true=>show n B Z i Y j d D h (WR.imp e λo q=>q.ev e1)
 |false=>show m B Z i Y j d D h (WR.imp e λo q=>q.ev e1)
def M5{pv:PV}(R:Rl K B Z O Y H ρ)(p:YD K Z O Y H ρ v pv)(e:Bu ρ pv=M C)(w:Fin B K Z Q C):Q v H:=by
 let ow:∀{a:I} {A:G V} {ds:G D},O a->Z a=P->H a=M (.lst A)->Wb O K H A ds->Fin B K Z Q (.ow ds)->Q (.ref a) H:=λ{a A ds} m l g f w=>
  w a A H R.same l g (f.ev (Ev.sub λb z=>z.elim (R.bo b) λe=>by simp_all))
 let fz:∀{d:D},DV O K H v d->Fin B K Z Q (.fz d)->Q v H:=λ{d} h w=>w v H R.same (h.ev (Ev.sub R.bo));cases pv with
 |fz d=>ext e;show fz p w
 |ow ds=>ext e;let(a,A,rfl,m,l,g,f,y):=p;show ow m l g f w
 |pl i=>
  let t:=p;unfold Bu at e;dsimp only at e;cases q:ρ[i]? with
  |none=>simp_all
  |some o=>
   cases o with
   |none=>simp_all
   |some x=>
    let(u,r,n):=R.slot i x q;rw[t]at r;ext r;rw[q]at e;cases x with
    |fz d=>ext e;show fz n w
    |ow ds=>ext e;let(a,A,rfl,m,l,g,f):=n;show ow m l g f w
    |pl j=>show n.elim
def NH(h:EO K E t f):SO K E (JK t) (cb f):=by intro B Z O Y H ρ D R w;show h B Z O Y H ρ _ R (w.bind.imp λa b g x i e1 e d=>?_);let(j,q,b):=b.VD;show M5 e d q b
def wT(K:lD)(J:It)(O:bF)(H:Hp)(ds:G D):Prop:=∀U H',Ev O H U H'->lg U H'->
 (∀i,i<ds.length->J.go i H'/\∀x a,J.yld i H' x a->Wj H' a/\∃d,ds[i]?=M d/\DV U K a x d)/\J.stop ds.length H'
abbrev FI:=aQ->Res (G D×aQ)
def IO(K:lD)(E:XK)(b:TI)(d:FI):Prop:=
 ∀(B:bF) (Z:Hp) (O:bF) (Y:St) (H:Hp) (ρ:aQ) (a:It->Hp->Prop),Rl K B Z O Y H ρ->WR K E B Z (λr=>∀U J H',Ev O H U H'->Rl K B Z U Y H' r.2->wT K J U H' r.1->a J H') (d ρ)->b Y H a
def nU(gt:FG)(b:FS):G D->FS
 |[],ρ=>.ok (.nx ρ)
 |d::r,ρ=>(gt (.fz d) ρ).bind λa=>(b a).bind λe=>match e with
  |.nx f=>nU gt b r f
  |.ct f=>nU gt b r f
  |.bk f=>.ok (.nx f)
  |.rt g=>.ok (.rt g)
def kY(d:FI)(gt:FG)(b:FS):FS:=λρ=>(d ρ).bind λa=>nU gt b a.1 a.2
def N8(c:IO K E wi fi)(X:GO K E g gt)(k:SO K E tb b):SO K E (Iw wi g tb) (kY fi gt b):=by
 intro B Z O Y H ρ D R w;show c B Z O Y H ρ _ R (w.bind.imp λa M F J S e1 Q P=>?_);let(ds,C):=a;dsimp only at M P Q;show#[λi m f H'=>m=ds.length - i/\i<=ds.length/\∃O2 ρ2,Ev F S O2 H'/\Rl K B Z O2 f H' ρ2/\WR K E B Z (ab0 K B Z O H D) (nU gt b (ds.drop i) ρ2),#[_,W,Vq _,F,C,.refl,Q,M],?_];rintro i m n L ⟨rfl,c,O2,ρ2,e2,R2,w2⟩;let(go,o):=P O2 L e2 R2.od;by_cases u:i<ds.length
 .let(g1,g2):=go i u
  show .inr #[g1,λf H'=>i+1<=ds.length/\∃O2 ρ2,Ev F S O2 H'/\Rl K B Z O2 f H' ρ2/\WR K E B Z (ab0 K B Z O H D) (nU gt b (ds.drop (i+1)) ρ2),λf H' #[h1,h2]=>#[ds.length - (i+1),by ext,W,h1,h2],λx I y=>?_];let(N,d,hd,dv):=g2 x I y;let ed:ds.drop i=d::ds.drop (i+1):=by let(_,q):=Uw.mp hd;rw[W6 u,q]
  rw[ed]at w2;let e3:Ev O2 L O2 I:=Ev.grow N;show X B Z O2 n I ρ2 x (.fz d) _ (R2.grow N) dv (WR.imp (WR.bind w2) λA T O4 z H4 e4 R4=>?_);let l:=e2.trans (e3.trans e4);show k B Z O4 z H4 A _ R4 (WR.imp (WR.bind T) λfl t=>?_);cases fl with
  |nx h=>show λr j G e5 p=>#[u,r,h,l.trans e5,p,t]
  |ct h=>show λr j G e5 p=>#[u,r,h,l.trans e5,p,t]
  |bk h=>show λr j G e5 p=>t r j G (e1.trans (l.trans e5)) p
  |rt rv=>show t
 .let e:i=ds.length:=by ext
  subst e;rw[Xm (UG _)]at w2;show .inl #[o,w2 O2 n L (e1.trans e2) R2]
def dY:D->z (G D)
 |.tuple ds=>M ds
 |.list ds=>M ds
 |_=>P
def EL(K:lD)(d:TE):TI:=λY H R=>d Y H λx b=>∃a,x=.ref a/\(((∃xs,Yr K b a xs)/\R (Sx K a) b)\/((∃xs,Ya K b a xs)/\R (S5 K a) b))
def Dr(w:PE X l C):PI X J l (EL X.K C):=by
 intro g s Y H R I h;show bT (w g s Y H _ I h) λv f a=>?_;let(x,n,d,r,t):=a;let(a,e,q):=t;subst e;ext r;rcases q with⟨⟨xs,i⟩,q⟩|⟨⟨xs,i⟩,q⟩
 .let(m,y,p,u):=d.list i
  show Xj p.isList ?_;show#[f.heap.objs.size,[f.heap.objs.size],_,_,n,W,d.kept λb o e=>b3 _ e,AL a _,#[_,cc _ W,W,W],λb j=>?_,q];let e:b=f.heap.objs.size:=by simpa using j
  subst e;show d.aaS (UG _) (d.VQ.fresh (UG _))
 .let(m,y,p,u):=d.tuple i
  show Zg (show f.heap.IsTuple a m.toArray from p) ?_;show#[f.heap.objs.size,[f.heap.objs.size],_,_,n,W,d.kept λb o e=>b3 _ e,xS a _,#[_,cc _ W,W,W],λb j=>?_,q];let e:b=f.heap.objs.size:=by simpa using j
  subst e;show d.aaS (UG _) (d.VQ.fresh (UG _))
def Ao(h:ZM O K H a xs)(hd:Wb O K H xs ds):wT K (Sx K a) O H ds:=by intro U H' e n;let f:=h.ev e;let b:=hd.ev e;show#[λi p=>?_,#[xs,f.1.sq,by rw[hd.length];show UG _]];let(x,l,_):=b.get (UI p);show#[#[xs,x,f.1.sq,l],?_];rintro y m ⟨rfl,o⟩;let(d,j,g):=b.aer (o xs f.1.sq);show#[Wj.refl _,d,j,g]
def EH(h:YE O K H a xs)(hd:Wb O K H xs ds):wT K (S5 K a) O H ds:=by intro U H' e n;let f:=h.ev e;let b:=hd.ev e;show#[λi p=>?_,#[xs,f.1,by rw[hd.length];show UG _]];let(x,l,_):=b.get (UI p);show#[#[xs,x,f.1,l],?_];rintro y m ⟨rfl,o⟩;let(d,j,g):=b.aer (o xs f.1);show#[Wj.refl _,d,j,g]
def im(c:FE):FI:=λρ=>(c ρ).bind λa=>(Res.VD (vV a.2 a.1)).bind λb=>(Res.VD (dY b.1)).bind λds=>.ok (ds,b.2)
def Ov(h:EO K E C J):IO K E (EL K C) (im J):=by
 intro B Z O Y H ρ o R w;show h B Z O Y H ρ _ R (w.bind.imp λa b p x i e1 n l=>?_);let((d,j),q,b):=b.VD;let(g,e2,R2,m):=sr n l q;let(ds,e,b):=b.VD;dsimp only at e;cases m with
 |tup h f=>ext e;show#[_,W,.inr #[#[_,h.1],b g _ i (e1.trans e2) R2 (EH h f)]]
 |lst h f=>ext e;show#[_,W,.inl #[#[_,h.1.sq],b g _ i (e1.trans e2) R2 (Ao h f)]]
 |_=>ext e
def fL(lo:Int)(n:Nat):G D:=(UR n).map λ(k:Nat)=>.int (lo+(k:Int))
def Fs:wT K (RU lo n) O H (fL lo n):=by
 intro U H' e d;let a:(fL lo n).length=n:=by ext fL;simp_all
 show#[λi f=>?_,by show n<=_;rw[a];show UG _];rw[a]at f;show#[f,?_];rintro x b ⟨rfl,rfl⟩;show#[Wj.refl _,.int (lo+i),by ext fL;simp_all,.int _]
def jS(i:Int):Prop:= -(2^62)<=i/\i<2^62
noncomputable instance(i:Int):Decidable (jS i):=by ext jS;infer_instance
def iO:G D->z (G D)
 |[.int j]=>if jS j then M (fL 0 j.toNat)else P
 |_=>P
def mr(f:G D->z (G D))(b:FA):FI:=λρ=>(b ρ).bind λa=>(Res.VD (vh a.2 a.1)).bind λds=>(Res.VD (f ds)).bind λxs=>.ok (xs,a.2)
def JS(h:AO K E C J):IO K E (Ly C) (mr iO J):=by
 intro B Z O Y H ρ p R w;show h B Z O Y H ρ _ R (w.bind.imp λa d n r o e1 f i=>?_);let(ds,q,d):=d.VD;let(xs,b,d):=d.VD;let g:=wS f i q;unfold iO at b;split at b
 .rename_i j
  split at b
  .rename_i e
   ext b;cases g with
   |cons m l=>ext l;ext m;show#[j,W,e.1,e.2,d n _ o e1 f Fs]
  .ext b
 .ext b
end
section
variable{K:lD}{E:XK}{B O Y:bF}{X H H':Hp}{Z:St}{ρ ρ':aQ}{v:V}
def Ga:z PV->z PV
 |some (.fz d)=>M (.fz d)
 |_=>P
def cP(ρ:aQ):aQ:=ρ.map Ga
def xx{i:Nat}(h:(cP ρ)[i]?=M (M x)):∃d,x=.fz d/\ρ[i]?=M (M (.fz d)):=by
 unfold cP at h;rw[UJ]at h;cases q:ρ[i]? with
 |none=>simp_all
 |some o=>
  rw[q]at h;let a:=UT h;unfold Ga at a;split at a
  .ext a;show#[_,W,W]
  .ext a
def rR(ρ:aQ):G Nat->z (G D×aQ)
 |[]=>M ([],ρ)
 |j::r=>match vV ρ (.pl j)with
  |some (d,b)=>(match rR b r with
   |some (c,a)=>M (d::c,a)
   |none=>P)
  |none=>P
def Br(R:Rl K B X O Z H ρ)(h:vV ρ (.pl i)=M (d,ρ')):∃v,Z[i]?=M (M v):=by
 let a:toS ρ i ρ[i]?=M (d,ρ'):=h;cases q:ρ[i]? with
 |none=>rw[q]at a;ext a
 |some o=>
  cases o with
  |none=>rw[q]at a;ext a
  |some x=>let(v,b,_):=R.slot i x q;show#[v,b]
theorem u0:∀{b:G Nat} {ds:G D} {O:bF} {ρ ρ':aQ},Rl K B X O Z H ρ->rR ρ b=M (ds,ρ')->∃Y k,Ev O H Y H/\Rl K B X Y Z H ρ'/\Wb Y K H k ds/\b.map (λj=>(Z[j]?).join)=k.map M
 |[],_,O,_,_,u,e=>by ext e;show#[O,[],.refl,u,.nil,W]
 |j::r,_,O,ρ,ρ',u,e=>by
  unfold rR at e;cases q:vV ρ (.pl j)with
  |none=>simp_all
  |some p=>
   let(d,a):=p;rw[q]at e;dsimp only at e;cases w:rR a r with
   |none=>simp_all
   |some g=>let(c,f):=g;rw[w]at e;ext e;let(v,h):=Br u q;let(t,e1,m,l):=sr (pv:=.pl j) u h q;let(n,k,e2,R2,i,o):=u0 m w;show#[n,v::k,e1.trans e2,R2,.cons (l.ev e2) i,by simp_all]
def dj(gt:FG)(c:FT)(f:FE):G D->aQ->G D->Res (G D)
 |[],_,acc=>.ok acc
 |d::r,ρ,acc=>(gt (.fz d) ρ).bind λe=>(c e).bind λb=>if b.1=S then(f b.2).bind λa=>(Res.VD (vV a.2 a.1)).bind λx=>
   if acc.length<1000000 then dj gt c f r (cP x.2) (acc++[x.1])else .bad
  else dj gt c f r (cP b.2) acc
def j7:Res α->Res α
 |.er _=>.bad
 |r=>r
def eS(n:Nat)(b:G Nat)(e:FI)(gt:FG)(f:FT)(g:FE):FE:=λρ=>(e ρ).bind λa=>(Res.VD (rR a.2 b)).bind λc=>
 (j7 (dj gt f g a.1 (UH n P++c.1.map λd=>M (.fz d)) [])).bind λxs=>.ok (.ow xs,c.2)
def z0{own:G Str}(h:own.length=n):own.map (λ_=>(P:z V))=UH n P:=by
 subst h
 induction own with
 |nil=>rfl
 |cons x r a=>grind
def yJ(h:WR K E B X b (j7 r)):∃a,r=.ok a/\b a:=by
 cases r with
 |ok a=>show#[a,W,h]
 |er x=>show h.elim
 |bad=>show h.elim
def Qw(K:lD)(J:It)(O:bF)(H:Hp)(ds:G D):Prop:=∀Y H',Ev O H Y H'->Wj H H'->lg Y H'->
 (∀i,i<ds.length->J.go i H'/\∀x a,J.yld i H' x a->Wj H' a/\∃d,ds[i]?=M d/\DV Y K a x d)/\J.stop ds.length H'
def SC(K:lD)(E:XK)(b:TI)(d:FI):Prop:=
 ∀(B:bF) (X:Hp) (O:bF) (Z:St) (H:Hp) (ρ:aQ) (a:It->Hp->Prop),Rl K B X O Z H ρ->WR K E B X (λr=>∀Y J H',Ev O H Y H'->Rl K B X Y Z H' r.2->Qw K J Y H' r.1->a J H') (d ρ)->b Z H a
theorem IO.s(h:IO K E wi fi):SC K E wi fi:=λB X O Z H ρ b R w=>h B X O Z H ρ b R (w.imp λr q Y J H' e R a=>q Y J H' e R λd f e2 _ n=>a d f e2 n)
def wo(c:own.length=n)(hf:fv.map (·.2)=fj)
  (hi:SC K E wi fi) (hg:GO K E0 g gt) (ht:TTO K E0 tc ft) (he:EO K E0 te fe):EO K E (rC own fv wi g tc te) (eS n fj fi gt ft fe):=by
 intro B X O Z H ρ Q R w;show hi B X O Z H ρ _ R (w.bind.imp λa w1 O1 J H1 e1 R1 it=>?_);let(ds,ρ1):=a;let((cs,ρ2),qc,w1):=w1.VD;dsimp only at qc it;let(I,vs,e2,R2,YM,hvs):=u0 R1 qc;let(xs,qx,w1):=yJ (WR.bind w1);intro l F;let hB:∀{H':Hp},Wj H1 H'->H' l≠Ld->∀a,bK I l a->H' a≠Ld:=λ{H'} s nd a h z=>h.elim (λq=>R2.od a (s.free z) q) λe=>nd (by rw[<-e];show z);show#[λi m L H'=>m=ds.length - i/\i<=ds.length/\∃(A:bb D) (G:bb V) (t:aQ),Wj H1 H'/\H' l=cL (.lst G)/\Wb (bK I l) K H' G A/\L.length=t.length/\(∀(j:Nat) (x:PV),t[j]?=cL (cL x)->∃d u,x=PV.fz d/\L[j]?=cL (cL u)/\DV (bK I l) K H' u d)/\dj gt ft fe (ds.drop i) t A=.ok xs,
  #[_,W,Vq _,[],[],_,bz F _,aC,.nil,?_,λj x M=>?_,qx],?_]
 .ext g6
  rw[UE,UE,Uy,Uy,VR,Uy,c,<-YM.length];let:=ef Yd hvs
  grind
 .let hm:fv.map (λp=>(Z[p.2]?).join)=vs.map cL:=by rw[<-hvs,<-hf,Vn];rfl
  ext g6;rw[z0 c,hm];by_cases hj:j<n
  .rw[UL (by rw[VR];show hj),WG,ax hj]at M;ext M
  .rw[Va (by rw[VR];ext),VR,UJ]at M⊢
   cases qd:cs[j - n]? with
   |none=>rw[qd]at M;ext M
   |some d=>rw[qd]at M;ext M;let(u,hu,du):=YM.get qd;show#[d,u,W,by rw[hu];rfl,du.ev (Ev.add (bz F _) F)]
 .rintro i m L H' ⟨rfl,hi,A,G,t,s,hD,dys,hl,hsl,f⟩
  let nD:H' l≠Ld:=by rw[hD];simp
  let no':=λa z h=>hB s nD a h z;let ev1:=e2.trans (Ev.add s F);let(go,stop):=it (bK I l) H' ev1 s no';by_cases XU:i<ds.length
  .let(g1,g2):=go i XU
   show .inr #[g1,λC N=>i+1<=ds.length/\∃(A:bb D) (G:bb V) (t:aQ),Wj H1 N/\N l=cL (.lst G)/\Wb (bK I l) K N G A/\C.length=t.length/\(∀(j:Nat) (x:PV),t[j]?=cL (cL x)->∃d u,x=PV.fz d/\C[j]?=cL (cL u)/\DV (bK I l) K N u d)/\dj gt ft fe (ds.drop (i+1)) t A=.ok xs,
    λC N #[U2,h2]=>#[ds.length - (i+1),by ext,W,U2,h2],λx H3 y=>?_]
   let(s3,d,hd,dv):=g2 x H3 y;let ed:ds.drop i=d::ds.drop (i+1):=by let(_,q):=Uw.mp hd;rw[W6 XU,q]
   rw[ed]at f;let hD3:=s3 _ _ hD;let nD3:H3 l≠Ld:=by rw[hD3];simp
   let sv:=s.trans s3;let RC:Rl K (bK I l) H3 (bK I l) L H3 t:=#[Wj.refl _,λ_ h=>h,hB sv nD3,λa z h=>hB sv nD3 a h z,hl,λj x M=>by let(d,u,rfl,U2,h2):=hsl j x M;show#[u,U2,h2.ev (Ev.grow s3)],λj k xs G w hj=>by let(d,u,e,_):=hsl j _ hj;ext e];unfold dj at f;let back:∀{O5:bF} {C:St} {N:Hp} {Pz0:aQ} {H6:Hp},Rl K (bK I l) H3 O5 C N Pz0->(∀b o,b≠l->N b=cL o->H6 b=cL o)->C.length=(cP Pz0).length/\∀(j:Nat) (x:PV),(cP Pz0)[j]?=cL (cL x)->∃d u,x=PV.fz d/\C[j]?=cL (cL u)/\DV (bK I l) K H6 u d:=λ{O5 C N Pz0 H6} T k=>by show#[by ext cP;rw[Uy];show T.len,λj x M=>?_];let(d,rfl,hxx):=xx M;let(u,U2,h2):=T.slot j _ hxx;show#[d,u,W,U2,DV.ev (λb o h n=>#[k b o (λe=>n (.inr e)) h,n]) (DV.ev (Ev.sub T.bo) h2)]
   show hg _ _ _ L H3 t x (.fz d) _ RC dv ?_;cases qg:gt (.fz d) t with
   |er z=>rw[qg]at f;ext f
   |bad=>rw[qg]at f;ext f
   |ok ρ3=>
    rw[qg,eh]at f;intro O4 σ4 H4 e4 R4;show ht _ _ _ σ4 H4 ρ3 _ R4 ?_;cases qt:ft ρ3 with
    |er z=>rw[qt]at f;ext f
    |bad=>rw[qt]at f;ext f
    |ok b=>
     let(b,ρ4):=b;rw[qt,eh]at f;intro O5 N e5 T;cases b with
     |false=>rw[aE UQ]at f⊢;let(l5,k5):=back T λb o _ h=>h;show#[XU,A,G,cP ρ4,sv.trans T.same,T.same _ _ hD3,?_,l5,k5,f];show dys.ev (Ev.grow (s3.trans T.same))
     |true=>
      rw[ax W]at f⊢;show he _ _ _ σ4 N ρ4 _ T ?_;cases qe:fe ρ4 with
      |er z=>rw[qe]at f;ext f
      |bad=>rw[qe]at f;ext f
      |ok r=>
       rw[qe,eh]at f;intro O6 yv H6 e6 R6 p6;cases q7:vV r.2 r.1 with
       |none=>rw[q7]at f;ext f
       |some xr=>
        let(xd,ρ7):=xr;rw[q7]at f;let(O7,e7,R7,dv7):=sr R6 p6 q7;let hD7:=R7.same _ _ hD3;let S:(if A.length<1000000 then dj gt ft fe (ds.drop (i+1)) (cP ρ7) (A++[xd])else .bad)=.ok xs:=f;by_cases hl6:A.length<1000000
        .rw[ax hl6]at S
         let up:∀b o,b≠l->H6 b=cL o->aX H6 l (.lst (G++[yv])) b=cL o:=λb o hb h=>by rw[ay hb];show h
         let dQ:Ev (bK I l) H6 (bK I l) (aX H6 l (.lst (G++[yv]))):=λb o h n=>#[up b o (λe=>n (.inr e)) h,n];let aiv:=dys.ev (Ev.grow (s3.trans R7.same));let(l5,k5):=back R7 up;show#[G,hD7,rZ (by rw[dys.length];show hl6),XU,A++[xd],G++[yv],cP ρ7,λb o h=>?_,aC,?_,l5,k5,S]
         .rw[ay (bB h F)];show R7.same _ _ (sv _ _ h)
         .show(aiv.append (.cons (DV.ev (Ev.sub R7.bo) dv7) .nil)).ev dQ
        .rw[aE hl6]at S;ext S
  .let e:i=ds.length:=by ext
   subst e;rw[Xm (UG _)]at f;let f:=f;ext f;show .inl #[stop,?_];show w1 (bK I l) (.ref l) H' (e1.trans ev1) (R2.add s F nD) #[l,G,W,.inr W,R2.adW F,hD,dys,λk es hk z=>?_];let(u,U2,b,us,e2,g1,g2,g3,g4):=R2.slot k _ hk;rw[z]at U2;ext U2;ext e2;rw[F]at g3;ext g3
def b6(F:FN)(n:Nat)(c:FA):FE:=λρ=>(c ρ).bind λa=>(Res.VD (nX a.2 a.1)).bind λb=>if b.1.length=n then(j7 (F b.1)).bind λd=>.ok (d.pv,b.2)else .bad
def MY(c:AO K E C J):EO K E (lY (zJ K n F) [] E0 C) (b6 F n J):=by
 intro B X O Z H ρ Q R w;show c B X O Z H ρ _ R (w.bind.imp λa f t y u e1 m i=>?_);let((ds,e),q,b):=f.VD;let(p,e2,R2,d):=pX m i q;dsimp only at b;by_cases hn:ds.length=n
 .rw[ax hn]at b;let(A,g,b):=yJ (WR.bind b);rw[Vh];show#[d.length.trans hn,p,ds,λa z j=>R2.od a j z,d,?_];rw[g];show kz R2 λo v r e3 l h=>b o v r (e1.trans (e2.trans e3)) l h
 .rw[aE hn]at b;show b.elim
end
def eD(N:Nat)(g:FS):FN:=λds=>(g (ds.map (λd=>M (.fz d))++UH (N - ds.length) P)).bind λa=>match a with
 |.rt b=>.ok b
 |.nx _=>.ok (.fz .none)
 |_=>.bad
def Ef(g:∀a,B a->H a≠P)(l:Wb B K H C ds):Rl K B H B (L2.start N C) H (ds.map (λd=>M (.fz d))++UH (N.length - ds.length) P):=by
 let r:=l.length;show#[Wj.refl _,λ_ h=>h,g,λa z h=>g a h z,?_,λi x m=>?_,λi j xs p w t=>?_]
 .ext L2.start;simp_all
 all_goals
  let b:∀{i:Nat} {x:PV},(ds.map (λd=>M (PV.fz d))++UH (N.length - ds.length) P)[i]?=M (M x)->∃d,x=.fz d/\ds[i]?=M d:=λ{i x} h=>by
   by_cases t:i<ds.length
   .rw[UL (by rw[Uy];show t),UJ]at h
    cases q:ds[i]? with
    |none=>rw[q]at h;ext h
    |some d=>rw[q]at h;ext h;show#[d,W,W]
   .rw[Va (by rw[Uy];ext),WG]at h;split at h<;>ext h
 .let(d,rfl,n):=b m;let(v,f,o):=l.get n;show#[v,?_,o];let t:=(Uw.mp f).1;ext L2.start;rw[UL (by rw[Uy];show t),UJ,f];rfl
 .let(d,e,_):=b t;ext e
def TZ(F:ZL K x qual st f fd)(S:WK N J (az st))(c:J.length=n)
  (p:∀(a:U) (A:Vb) (outer:G Env) (s:UC) (H:Hp) (E:XK),Wr k (A.deeper (Vi qual (az st) s.heap.objs.size f a))->
   ∃t,Z2 (eP jY y w K mg base N qual (az st) f a A outer s H E).nox (bO st) t/\SO K E t g):FnOk y w K mg base jY (k+1) f fd J (zJ K n (eD N.length g)):=by
 show F.ok S (λL H Q E h=>h.1.trans c.symm) (λa A outer s H L Q E j h=>?_);let(t,d,i):=p a A outer s H E j;let(u,B,ds,l,o,h):=h;show#[t,d,i B H B _ H _ _ (Ef l o) (WR.imp (WR.bind h) λm q=>?_)];cases m with
 |rt T=>show q
 |nx C=>show λv b r e R=>q .WL r R.same .WL
 |bk C=>show q.elim
 |ct C=>show q.elim
end L3
namespace L3
open PySem PySem.Spec PyProof.Rows L2
def OpR.or(h:OpR X f r)(c:OpR X f r'):OpR X f (λx y H Q=>r x y H Q\/r' x y H Q):=by
 intro a s b H x y v u Q I e d q;rcases q with q|q
 .show h a s b H x y v u Q I e d q
 .show c a s b H x y v u Q I e d q
def Nm(I:Inv X pins σ H s)(h:XS X.K H l xs):xs.length<=UK/\∃(a:G U) (n:Nat),Vals xs a/\xs.length=a.length/\s.heap.get? l=M {cls:=.type "list",data:=.seq a.toArray n}:=by
 rcases h with(h|⟨o,h⟩)|⟨a,n,h1,d,b⟩
 .show I.af1 h
 .let(_,z,a,n,r,e):=I.VQ l _ h;show#[z,a,n,r,r.length,e]
 .show#[d,a,n,b,b.length,I.ZJ _ _ h1]
def K7(K:lD):R2:=λx y H Q=>∃l b xs zs,x=.ref l/\y=.ref b/\XS K H l xs/\XS K H b zs/\xs.length+zs.length<=UK/\∀p,H p=P->Q (.ref p) (aX H p (.lst (xs++zs)))
def HX:OpR X (V8 .Add) (K7 X.K):=by
 intro a s w H x y v u Q I i g h;let(l,b,xs,A,rfl,rfl,o,p,E,q):=h;ext i;ext g;let(z,f,n,r,F,e):=Nm I o;let(B,d,C,j,m,e2):=Nm I p;show PySem.P.add_list e e2 ?_ (by simp_all);let t:f.toArray++d.toArray=(f++d).toArray:=by simp
 rw[t];show#[.ref _,_,I.afv (r.append j) (by simp_all),W,q _ I.fresh]
def Lu(K:lD):R2:=λx y H Q=>∃l k xs,x=.ref l/\y=.int k/\XS K H l xs/\ -(2^63)<=k/\k<2^63/\xs.length*k.toNat<=UK/\
 ∀p,H p=P->Q (.ref p) (aX H p (.lst (UH k.toNat xs).flatten))
def HC:OpR X (V8 .Mult) (Lu X.K):=by
 intro o s N H x y v u Q I C B h;let(l,k,xs,rfl,rfl,G,L,J,E,q):=h;ext C;let(t,rfl):=B;let(z,b,n,r,P,e):=Nm I G;let d:b.toArray.size*k.toNat<=UK:=by simp_all
 let f:¬b.toArray.size*k.toNat>(2^63 - 1)/8:=by
  let:(UK:Nat)<=(2^63 - 1)/8:=by decide
  ext
 let g:¬(!Builtin.List.listFitsIndex k)=S:=by rw[fitsIndex_both L J];simp_all
 let i:¬Builtin.List.listTooLong (b.toArray.size*k.toNat)=S:=by rw[Gd d];simp_all
 let j:Yv (λw p=>w++p) #v[] (UH (if b.toArray.isEmpty=S then 0 else k.toNat) b.toArray)=(UH k.toNat b).flatten.toArray:=by
  let M:=λm=>by let:=mP b m [];rw[YB]at this;show this
  rw[M];cases b with
  |nil=>simp
  |cons a O=>rfl
 show abH () #[_,e,W] (λA=>ZU A k t) noFill_list_mul F.fills_int_mul F.slot_int_rmul repeat_list F.slot_int_index.lookup
  (Y3 F.slot_int_rmul (ZU s k t) F.entry_int_rmul (F.args_int_rmul_2 _ _) (int___rmul___int_list k t l b.toArray n)
   #[e,W,#[_,e,W],Y3 F.slot_list_mul #[_,e,W] F.entry_list_mul (F.args_list_mul_2 _ _) (AutoListH.list___mul___list_int_3 l b.toArray n k t g f i) #[e,?_]])
 rw[j];show#[.ref _,_,I.afv (r.rep k.toNat) (by rw[zw,Nat.mul_comm];show E),W,q _ I.fresh]
section
variable{K:lD}
def fI(g:Int->Int->Int):D->D->z RV
 |.int i,.int j=>M (.fz (.int (g i j)))
 |_,_=>P
def fB(g:Int->Int->Bool):D->D->z RV
 |.int i,.int j=>M (.fz (.bool (g i j)))
 |_,_=>P
def OX(C:Int->Int->Bool)(g:Int->Int->Int):D->D->z RV
 |.int i,.int j=>if C i j=S then M (.fz (.int (g i j)))else P
 |_,_=>P
def uK(h:fI g J C=M o):∃i j,J=.int i/\C=.int j/\o=.fz (.int (g i j)):=by
 unfold fI at h;split at h
 .ext h;show#[_,_,W,W,W]
 .ext h
def K3:iZ K (uE λi j=>.int (g i j)) (fI g):=by intro O H x y h d f Q n b a e q;let(i,j,rfl,rfl,rfl):=uK e;ext b;ext a;show#[i,j,W,W,q.at (.int _)]
def zx:iZ K (uE λi j=>.bl (g i j)) (fB g):=by
 intro O H x y h d f Q n b a e q;unfold fB at e;split at e
 .ext e;ext b;ext a;show#[_,_,W,W,q.at (.bl _)]
 .ext e
def pL(f:∀i j,C i j=S->o i j):iZ K (rI o λi j=>.int (g i j)) (OX C g):=by
 intro O H x y m h l Q n b a e q;unfold OX at e;split at e
 .split at e
  .rename_i d;ext e;ext b;ext a;show#[_,_,W,W,f _ _ d,q.at (.int _)]
  .ext e
 .ext e
theorem BM(h:DX O K H x (.list ds)):∃a xs,x=.ref a/\XS K H a xs/\Wb O K H xs ds:=h
theorem Al(h:DX O K H x (.tuple ds)):∃a xs,x=.ref a/\YE O K H a xs/\Wb O K H xs ds:=E3 h W
def Ee(K:lD):R2:=λx y H Q=>uE (λi j=>.int (i+j)) x y H Q\/K7 K x y H Q\/KK K x y H Q
theorem yI:OpR X (V8 .Add) (Ee X.K):=OpR.or No (OpR.or HX Ha)
def cz:D->D->z RV
 |.int i,.int j=>M (.fz (.int (i+j)))
 |.list xs,.list ys=>if xs.length+ys.length<=1000000 then M (.ow (xs++ys))else P
 |.tuple xs,.tuple ys=>if xs≠[]/\xs.length+ys.length<=1000000 then M (.fz (.tuple (xs++ys)))else P
 |_,_=>P
theorem Ad(h:n<=1000000):n<=UK:=Vk h ()
def Wb.ne(h:Wb O K H vs ds):vs=[]↔ds=[]:=by ext h<;>simp
def zO:iZ K (Ee K) cz:=by
 intro O H x y t p r Q n l j e q;unfold cz at e;split at e
 .ext e;ext l;ext j;show .inl #[_,_,W,W,q.at (.int _)]
 .split at e
  .rename_i g;ext e;let(a,xs,rfl,h,d):=BM l;let(b,i,rfl,m,f):=BM j;show .inr (.inl #[a,b,xs,i,W,W,h,m,Ad (by rw[d.length,f.length];show g),Fin.new (d.append f) q])
  .ext e
 .split at e
  .rename_i g;ext e;let(a,xs,rfl,h,d):=Al l;let(b,i,rfl,m,f):=Al j;show .inr (.inr #[a,b,xs,i,W,W,h.1,m.1,λz=>g.1 (d.ne.mp z),Ad (by rw[d.length,f.length];show g.2),λz=>?_,λ_=>Fin.ab2 (d.append f) n q]);let o:=f.ne.mp z;subst o;rw[Vh]at q;show q.at (.tup h d)
  .ext e
 .ext e
def Ej(K:lD):R2:=λx y H Q=>rI adm (λi j=>.int (i*j)) x y H Q\/Lu K x y H Q
theorem GX:OpR X (V8 .Mult) (Ej X.K):=OpR.or Nk HC
def gr(i:Int):Bool:=decide (-(2^64)<i/\i<2^64)
theorem pH(h:gr i=S): -(2^64)<i/\i<2^64:=a6 h
def yo:D->D->z RV
 |.int i,.int j=>if(gr i||gr j)=S then M (.fz (.int (i*j)))else P
 |.list xs,.int k=>if xs.length*k.toNat<=1000000/\ -(2^63)<=k/\k<2^63 then M (.ow (UH k.toNat xs).flatten)else P
 |_,_=>P
def Hj:iZ K (Ej K) yo:=by
 intro O H x y l i j Q n f d e q;unfold yo at e;split at e
 .split at e
  .rename_i b
   ext e;ext f;ext d;show .inl #[_,_,W,W,?_,q.at (.int _)];rcases(VV _ _).mp b with z|z
   .show .inl (pH z)
   .show .inr (pH z)
  .ext e
 .split at e
  .rename_i b;ext e;ext d;let(a,xs,rfl,h,g):=BM f;show .inr #[a,_,xs,W,W,h,b.2.1,b.2.2,Ad (by rw[g.length];show b.1),Fin.new (g.flat _) q]
  .ext e
 .ext e
def mw:=fI λi j=>i - j
theorem Hg:iZ K (uE λi j=>.int (i - j)) mw:=K3
def OI(_ j:Int):Bool:=decide (0<j)
def l6:=OX OI λi j=>i % j
theorem Jb:iZ K (rI (λ_ j=>0<j) λi j=>.int (i % j)) l6:=pL λi j h=>a6 h
def OL(_ j:Int):Bool:=decide (0<j/\j<2^128)
def xj:=OX OL λi j=>i/j
theorem IB:iZ K (rI (λ_ j=>0<j/\j.natAbs.log2<9000) λi j=>.int (i/j)) xj:=pL λi j h=>by
 let b:=a6 h;show#[b.1,?_];let a:j.natAbs<2^128:=by ext
 let d:=(Nat.log2_lt ()).mpr a;ext
def vQ(i j:Int):Bool:=decide (0<=j/\j<=1000000/\i.natAbs<2^64)
def zN(i j:Int)(h:vQ i j=S):E1 i j:=by unfold vQ at h;show(show 0<=j/\j<=1000000/\i.natAbs<2^64 from a6 h)
def Ec:=OX vQ λi j=>i^j.toNat
theorem Jl:iZ K (rI E1 λi j=>.int (i^j.toNat)) Ec:=pL zN
def J8:=OX vQ λi j=>i*2^j.toNat
theorem Ji:iZ K (rI E1 λi j=>.int (i*2^j.toNat)) J8:=pL zN
def SQ(_ j:Int):Bool:=decide (0<=j)
def FD:=OX SQ λi j=>i/2^j.toNat
theorem JX:iZ K (rI (λ_ j=>0<=j) λi j=>.int (i/2^j.toNat)) FD:=pL λi j h=>a6 h
def wB:=fI λi j=>Builtin.bitAnd i j
theorem JI:iZ K (uE λi j=>.int (Builtin.bitAnd i j)) wB:=K3
def GD:=fB λi j=>decide (i<j)
def R9:=fB λi j=>decide (i<=j)
def GB:=fB λi j=>decide (j<i)
def QW:=fB λi j=>decide (j<=i)
theorem MQ:iZ K (uE λi j=>.bl (decide (i<j))) GD:=zx
theorem M9:iZ K (uE λi j=>.bl (decide (i<=j))) R9:=zx
theorem Pd:iZ K (uE λi j=>.bl (decide (j<i))) GB:=zx
theorem OB:iZ K (uE λi j=>.bl (decide (j<=i))) QW:=zx
def j8(d:D):Bool:=d.canLay0&&decide (d.depth<=64)
def cj(d e:D):z RV:=if(j8 d&&e.canLay0)=S then M (.fz (.bool (UB.eqv d e)))else P
def kQ(d e:D):z RV:=if(j8 d&&e.canLay0)=S then M (.fz (.bool (!UB.eqv d e)))else P
def NP:iZ K (Kk K R) cj:=by
 intro O H x y g f h Q n d b e q;unfold cj at e;split at e
 .rename_i a;ext e;unfold j8 at a;simp only[Uu,decide_eq_true_eq]at a;show#[g,f,d.plain,b.plain,a.1.1,a.2,a.1.2,q.at (.bl _)]
 .ext e
def Nh:iZ K (Kk K S) kQ:=by
 intro O H x y g f h Q n d b e q;unfold kQ at e;split at e
 .rename_i a;ext e;unfold j8 at a;simp only[Uu,decide_eq_true_eq]at a;show#[g,f,d.plain,b.plain,a.1.1,a.2,a.1.2,q.at (.bl _)]
 .ext e
def lZ:D->D->z RV
 |.none,.none=>M (.fz (.bool S))
 |_,.none=>M (.fz (.bool R))
 |_,_=>P
def ko:D->D->z RV
 |.none,.none=>M (.fz (.bool R))
 |_,.none=>M (.fz (.bool S))
 |_,_=>P
def Cm(h:DX O K H x d)(hd:d≠.none):x≠.WL:=by
 cases d with
 |none=>simp_all
 |list ds=>let(a,xs,rfl,_):=BM h;simp
 |tuple ds=>let(a,xs,rfl,_):=Al h;simp
 |bool b=>ext h;simp
 |int b=>ext h;simp
 |str b=>ext h;simp
 |dict b=>ext h
def G1:iZ K (λx y H Q=>y=.WL/\Q (.bl (decide (x=.WL))) H) lZ:=by
 intro O H x y h f g Q n b a e q;unfold lZ at e;split at e
 .ext e;ext b;ext a;show#[W,q.at (.bl _)]
 .rename_i d;ext e;ext a;show#[W,?_];rw[a5 (Cm b d)];show q.at (.bl _)
 .ext e
def HF:iZ K (λx y H Q=>y=.WL/\Q (.bl (!decide (x=.WL))) H) ko:=by
 intro O H x y h f g Q n b a e q;unfold ko at e;split at e
 .ext e;ext b;ext a;show#[W,q.at (.bl _)]
 .rename_i d;ext e;ext a;show#[W,?_];rw[a5 (Cm b d)];show q.at (.bl _)
 .ext e
def IL(K:lD)(neg:Bool):R2:=λx y H Q=>∃d ds,L2.DV K H x d/\(L2.DV K H y (.list ds)\/L2.DV K H y (.tuple ds))/\d.canLay0=S/\UB.canLayAll0 ds=S/\d.depth<=64/\Q (.bl (if neg then !(ds.any λe=>UB.eqv e d)else ds.any λe=>UB.eqv e d)) H
def NV(p:X.A.units+65<cLine):OpR X (We .In) (IL X.K R):=by
 intro g s o H x y v u Q I l e h;let(d,ds,n,a,j,i,m,q):=h;let(as,f):=n.reads I l;let hm:min (UB.depthAll ds) d.depth<=64:=Vk (ZT _ _) m;rcases a with a|a
 .let(bs,b):=a.reads I e;show ahy b f i j () #[.bl _,H,I,W,q]
 .let(bs,b):=a.reads I e;show ahz b f i j () #[.bl _,H,I,W,q]
def Kd(p:X.A.units+65<cLine):OpR X (We .NotIn) (IL X.K S):=by
 intro g s o H x y v u Q I l e h;let(d,ds,n,a,j,i,m,q):=h;let(as,f):=n.reads I l;let hm:min (UB.depthAll ds) d.depth<=64:=Vk (ZT _ _) m;rcases a with a|a
 .let(bs,b):=a.reads I e;show ahA b f i j () #[.bl _,H,I,W,q]
 .let(bs,b):=a.reads I e;show ahB b f i j () #[.bl _,H,I,W,q]
def GJ(d e:D):z RV:=match dY e with
 |some ds=>if(j8 d&&UB.canLayAll0 ds)=S then M (.fz (.bool (ds.any λe=>UB.eqv e d)))else P
 |none=>P
def uN(d e:D):z RV:=match dY e with
 |some ds=>if(j8 d&&UB.canLayAll0 ds)=S then M (.fz (.bool (!ds.any λe=>UB.eqv e d)))else P
 |none=>P
def Dg(a:DX O K H y e)(h:dY e=M ds):L2.DV K H y (.list ds)\/L2.DV K H y (.tuple ds):=by
 unfold dY at h;split at h
 .ext h;show .inr a.plain
 .ext h;show .inl a.plain
 .ext h
def Mz:iZ K (IL K R) GJ:=by
 intro O H x y h g i Q n d b e q;unfold GJ at e;split at e
 .rename_i ds f
  split at e
  .rename_i a;ext e;unfold j8 at a;simp only[Uu,decide_eq_true_eq]at a;show#[h,ds,d.plain,Dg b f,a.1.1,a.2,a.1.2,q.at (.bl _)]
  .ext e
 .ext e
def IC:iZ K (IL K S) uN:=by
 intro O H x y h g i Q n d b e q;unfold uN at e;split at e
 .rename_i ds f
  split at e
  .rename_i a;ext e;unfold j8 at a;simp only[Uu,decide_eq_true_eq]at a;show#[h,ds,d.plain,Dg b f,a.1.1,a.2,a.1.2,q.at (.bl _)]
  .ext e
 .ext e
def aO(d e:D):z RV:=match dY d,e with
 |some ds,.int i=>(jV ds i).map .fz
 |_,_=>P
def Es(h:Wb O K H xs ds)(e:jV ds i=M d):∃v,jV xs i=M v/\DV O K H v d:=by
 unfold jV at e⊢;rw[h.length];cases q:LL ds.length i with
 |none=>simp_all
 |some j=>rw[q]at e;show h.get e
def B4:iZ K (Q2 K) aO:=by
 intro O H x y t o r Q n l m e q;unfold aO at e;split at e
 .rename_i ds i b
  ext m;cases p:jV ds i with
  |none=>simp_all
  |some d=>
   rw[p]at e;ext e;unfold dY at b;split at b
   .ext b;let(a,xs,rfl,h,g):=Al l;let(v,f,j):=Es g p;show .inr (.inl #[a,xs,i,v,W,W,h.1,f,q.at j])
   .ext b;let(a,xs,rfl,h,g):=BM l;let(v,f,j):=Es g p;show .inl #[a,xs,i,v,W,W,h.sq,f,q.at j]
   .ext b
 .ext e
def kM(xs:G D)(lo a:z Int):G D:=(xs.drop (HT.sIx xs.length 0 lo)).take (HT.sIx xs.length xs.length a - HT.sIx xs.length 0 lo)
def EC{lo a:z Int}(h:Wb O K H xs ds):Wb O K H (A1 xs lo a) (kM ds lo a):=by unfold A1 kM;rw[h.length];show(h.drop _).take _
def eE(n:Nat)(lo a:z Int):Bool:=decide (HT.sIx n 0 lo=0/\HT.sIx n n a=n)
def Nw(K:lD):V->z Int->z Int->Hp->VK->Prop:=λx lo a H Q=>Ri K x lo a H Q\/QM K x lo a H Q
def C4:MK X (Nw X.K):=by
 intro a s b H x v e d lo l f Q I g j pl i h;rcases h with h|h
 .show Kw a s b H x v e d lo l f Q I g j pl i h
 .show NA a s b H x v e d lo l f Q I g j pl i h
def ML:D->z Int->z Int->z RV
 |.list ds,lo,a=>M (.ow (kM ds lo a))
 |.tuple ds,lo,a=>if eE ds.length lo a=S then P else M (.fz (.tuple (kM ds lo a)))
 |_,_,_=>P
def tt:R8 K (Nw K) ML:=by
 intro O H x lo i j h Q n f e q;unfold ML at e;split at e
 .ext e;let(a,xs,rfl,d,b):=BM f;show .inl #[a,xs,W,d.sq,Fin.new (EC b) q]
 .split at e
  .ext e
  .rename_i g;ext e;let(a,xs,rfl,d,b):=Al f;show .inr #[a,xs,W,d.1,λz=>g ?_,Fin.ab2 (EC b) n q];ext eE;rw[<-b.length];show a4 z
 .ext e
def cI:G D->z RV
 |[d]=>(match dY d with
  |some ds=>M (.fz (.int ds.length))
  |none=>P)
 |_=>P
def Mr:AW K (λxs H Q=>∃x n,xs=[x]/\Qu K x H n/\Q (.int n) H) cI:=by
 intro O H xs ds h Q n g e q;unfold cI at e;split at e
 .split at e
  .rename_i es d
   ext e;cases g with
   |cons b f=>
    ext f;unfold dY at d;split at d
    .ext d;let(a,xs,rfl,b,f):=Al b;show#[_,xs.length,W,.inr #[xs,b.1,W],by rw[f.length];show q.at (.int _)]
    .ext d;let(a,xs,rfl,b,f):=BM b;show#[_,xs.length,W,.inl #[xs,b.sq,W],by rw[f.length];show q.at (.int _)]
    .ext d
  .ext e
 .ext e
def nF:G D->z RV
 |[.tuple ds]=>M (.fz (.tuple ds))
 |[.list ds]=>M (.fz (.tuple ds))
 |_=>P
def D7:AW K (λxs H Q=>∃p ys,xs=[.ref p]/\((Yr K H p ys/\∀l,H l=P->Q (.ref l) (aX H l (.tup ys)))\/(Ya K H p ys/\Q (.ref p) H))) nF:=by
 intro O H xs ds g Q n f e q;unfold nF at e;split at e
 .ext e
  cases f with
  |cons b d=>ext d;let(a,xs,rfl,b,d):=Al b;show#[a,xs,W,.inr #[b.1,q.at (.tup b d)]]
 .ext e
  cases f with
  |cons b d=>ext d;let(a,xs,rfl,b,d):=BM b;show#[a,xs,W,.inl #[b.sq,Fin.ab2 d n q]]
 .ext e
def rc:G D->z RV
 |[d]=>(dY d).map .ow
 |_=>P
def HB:AW K (λxs H Q=>∃p ys,xs=[.ref p]/\(Yr K H p ys\/Ya K H p ys)/\∀l,H l=P->Q (.ref l) (aX H l (.lst ys))) rc:=by
 intro O H xs ds i Q n g e q;unfold rc at e;split at e
 .rename_i d
  cases g with
  |cons b f=>
   ext f;cases h:dY d with
   |none=>simp_all
   |some es=>
    rw[h]at e;ext e;unfold dY at h;split at h
    .ext h;let(a,xs,rfl,b,f):=Al b;show#[a,xs,W,.inr b.1,Fin.new f q]
    .ext h;let(a,xs,rfl,b,f):=BM b;show#[a,xs,W,.inl b.sq,Fin.new f q]
    .ext h
 .ext e
def v4:G D->z RV
 |[.int i,.int j]=>M (.fz (.int (if j>i then j else i)))
 |_=>P
def JJ:AW K (λxs H Q=>∃i j,xs=[.int i,.int j]/\Q (.int (if j>i then j else i)) H) v4:=by
 intro O H xs ds g Q n b e q;unfold v4 at e;split at e
 .ext e
  cases b with
  |cons f a=>
   cases a with
   |cons a d=>ext d;ext f;ext a;show#[_,_,W,q.at (.int _)]
 .ext e
end
end L3
namespace PySem
open Sem (wp)
open AutoSeq1 (wpAny_loadPart')
open Builtin Builtin.Str
section
variable{Y:UZ}{w:Vf}{A:Vb}{E:Ut->UC->Prop}{s:UC}
def kW(a:s.heap.IsTupleIter it t i)(h:s.heap.IsTuple t items)(g:items[i]?=M x)
  (l:∀c,c.IsTupleIter it t (i+1)->Heap.SameBut it s.heap c->Q x {s with heap:=c}):wpAny (model Y w) A (Builtin.SmallTypes.nextOf (.ref it)) Q E s:=by
 let(o,d,j,b):=id a;let(m,e,_,n,f):=h;ext Builtin.SmallTypes.nextOf;show CL (V4 a.typeIs F.slot_tuple_iterator_next
  (Wf F.slot_tuple_iterator_next a.typeIs F.entry_tuple_iterator_next ?_ (F.args_tuple_iterator_next_1 _)))
 show wpAny _ _ (field (.ref it) 0>>=_) _ _ s;show CL (Vo d b W ?_);show wpAny _ _ (if(Ut.ref t==Ut.none)=S then _ else _) _ _ s;rw[aE (show¬((Ut.ref t==Ut.none)=S)from UQ)];show CL (Vo d b W ?_);show CL (VX e f ?_);simp only[VO,g];show CL (WN d b (by simp) (UD #[x,W,UD (l _ ?_ (Heap.SameBut.update ..))]));show#[_,cn _ d (dt (da b _)),(Obj.cls_mapFields ..).trans j,by rw[da b];simp[rawInt]]
def mY(h:A.handled=P)(a:s.heap.IsTupleIter it t i)(l:s.heap.IsTuple t items)(j:items[i]?=P)
  (m:∀c e,Heap.ExtBut it s.heap c->(∃o,c.get? e=M o/\o.cls=.type "StopIteration")->E (.ref e) {s with heap:=c}):wpAny (model Y w) A (Builtin.SmallTypes.nextOf (.ref it)) Q E s:=by
 let(o,d,q,g):=id a;let(n,b,_,p,f):=l;ext Builtin.SmallTypes.nextOf;show CL (V4 a.typeIs F.slot_tuple_iterator_next
  (Wf F.slot_tuple_iterator_next a.typeIs F.entry_tuple_iterator_next ?_ (F.args_tuple_iterator_next_1 _)))
 show wpAny _ _ (field (.ref it) 0>>=_) _ _ s;show CL (Vo d g W ?_);show wpAny _ _ (if(Ut.ref t==Ut.none)=S then _ else _) _ _ s;rw[aE (show¬((Ut.ref t==Ut.none)=S)from UQ)];show CL (Vo d g W ?_);show CL (VX b f ?_);simp only[VO,j];show CL (Y4 (CL (WN d g (by simp) ?_)));show CL ?_;simp only[newExc,newTuple];show CL (Vw ?_ (by size_fits));show CL (aaD (by first|rfl|(simp only[firstArgMember];rfl)) ?_);show Vw ?_ (by size_fits);simp only[raiseNew];show CL (wpAny_handled ?_)
 first|rw[show A.in1.handled=P from h]|rw[h]
 show CL (UD (wpAny_throw ?_));show m _ _ (((Heap.SameBut.update ..).extBut.push _).push _) #[_,cc _ W,W]
end
end PySem
namespace L3
open PySem PySem.Spec PyProof.Rows L2
def IA(I:Inv X pins σ H s)(i:Ya X.K H a xs)(h:Ya X.K H a ys):xs=ys:=by
 let(e,g,(o,e1,_,n,j),_):=I.tuple i;let(d,f,(l,e2,_,m,b),_):=I.tuple h;rw[e1]at e2;ext e2;rw[j]at b;let:e=d:=by
  let q:e.toArray=d.toArray:=by injection b
  simpa using q
 subst this;show g.inj f
def r9{bs:G Bool}(r:Vals (bs.map V.bl) o){i:Nat}(h:o[i]?=M v):∃b,bs[i]?=M b/\v=.bool b:=by
 let d:=r.length;rw[Uy]at d;let f:i<bs.length:=by rw[d];show(Uw.mp h).1
 let(u,a,e):=r.get (by rw[UJ,UI f];rfl);rw[h]at a;ext a;show#[bs[i],UI f,e]
def xD(bs:G Bool):((UR bs.length).all λi=>(bs[i]?).getD S)=bs.all id:=by
 rw[Z5,VZ,VZ];constructor
 .intro h b a;let(i,d,e):=abI.mp a;let:=h i (V5.mpr d);rw[UI d,e]at this;show this
 .intro h i d;let d:=V5.mp d;rw[UI d];show h _ (ZN d)
def yw(bs:G Bool):((UR bs.length).any λi=>(bs[i]?).getD R)=bs.any id:=by
 rw[Z5,Xz,Xz];constructor
 .rintro⟨i,d,h⟩;let d:=V5.mp d;rw[UI d]at h;show#[_,ZN d,h]
 .rintro⟨b,a,h⟩;let(i,d,e):=abI.mp a;show#[i,V5.mpr d,by rw[UI d,e];show h]
section
variable{X:Cx}
def F0(t:X.calm=S):W3 X (.builtin "all") (λxs H Q=>∃(p:Uz) (bs:bb Bool),xs=[.ref p]/\Yr X.K H p (bs.map V.bl)/\Q (.bl (bs.all id)) H):=by
 intro d s z H xs B Q I r h;let(l,bs,rfl,m,q):=h;let(u,rfl,j):=jj r;ext j;let(g,N,pl,F):=I.list m;let a:=N.length;rw[Uy]at a;let y:l<s.heap.objs.size:=by let(_,_,e,_):=pl;show b4 e
 show call_all_walk (Xj pl.isList ?_);show#[s.heap.objs.size,[s.heap.objs.size,l],[s.heap.objs.size],g.toArray.size,_,_,λi=>(bs[i]?).getD S,W,aeK.list (A:=X.A.in1) (I.ok.hd t) _ l (U3 y) g.toArray,
  #[#[_,cc _ W,W,W],pl.isList.push _],λi v E J L w f=>?_,λG C n=>?_]
 .let(b,e,rfl):=r9 N (by simpa using w);simp only[e,ZA]at f;show Wl f
 .rw[UN,<-a,xD];show#[.bl _,H,I.kept λb o e=>n b o (λhm=>?_) (b3 _ e),W,q];rw[US.mp hm]at e;show VT _ (b4 e)
def EB(t:X.calm=S):W3 X (.builtin "any") (λxs H Q=>∃(p:Uz) (bs:bb Bool),xs=[.ref p]/\Yr X.K H p (bs.map V.bl)/\Q (.bl (bs.any id)) H):=by
 intro d s z H xs B Q I r h;let(l,bs,rfl,m,q):=h;let(u,rfl,j):=jj r;ext j;let(g,N,pl,F):=I.list m;let a:=N.length;rw[Uy]at a;let y:l<s.heap.objs.size:=by let(_,_,e,_):=pl;show b4 e
 show call_any_walk (Xj pl.isList ?_);show#[s.heap.objs.size,[s.heap.objs.size,l],[s.heap.objs.size],g.toArray.size,_,_,λi=>(bs[i]?).getD R,W,aeK.list (A:=X.A.in1) (I.ok.hd t) _ l (U3 y) g.toArray,
  #[#[_,cc _ W,W,W],pl.isList.push _],λi v E J L w f=>?_,λG C n=>?_]
 .let(b,e,rfl):=r9 N (by simpa using w);simp only[e,ZA]at f;show Wl f
 .rw[UN,<-a,yw];show#[.bl _,H,I.kept λb o e=>n b o (λhm=>?_) (b3 _ e),W,q];rw[US.mp hm]at e;show VT _ (b4 e)
end
section
variable{K:lD}
def kL:G D->z (G Bool)
 |[]=>M []
 |.bool b::r=>(kL r).map (b::·)
 |_=>P
theorem sK:∀{xs:G V} {ds:G D} {bs:G Bool},Wb O K H xs ds->kL ds=M bs->xs=bs.map V.bl
 |_,_,_,.nil,e=>by ext e;rfl
 |_,_,bs,.cons (ds:=r) h t,e=>by
  cases h with
  |bl b=>
   let a:(kL r).map (b::·)=M bs:=e;cases q:kL r with
   |none=>rw[q]at a;ext a
   |some d=>rw[q]at a;ext a;rw[sK t q];rfl
  |_=>ext e
def vX:G D->z RV
 |[.list ds]=>(kL ds).map λbs=>.fz (.bool (bs.all id))
 |_=>P
def EF:G D->z RV
 |[.list ds]=>(kL ds).map λbs=>.fz (.bool (bs.any id))
 |_=>P
def Pp:AW K (λxs H Q=>∃(p:I) (bs:G Bool),xs=[.ref p]/\Yr K H p (bs.map V.bl)/\Q (.bl (bs.all id)) H) vX:=by
 intro O H xs ds i Q n f e q;unfold vX at e;split at e
 .rename_i es
  cases h:kL es with
  |none=>rw[h]at e;ext e
  |some bs=>
   rw[h]at e;ext e;cases f with
   |cons d b=>ext b;let(a,g,rfl,d,b):=BM d;let:=sK b h;subst this;show#[a,bs,W,d.sq,q.at (.bl _)]
 .ext e
def LZ:AW K (λxs H Q=>∃(p:I) (bs:G Bool),xs=[.ref p]/\Yr K H p (bs.map V.bl)/\Q (.bl (bs.any id)) H) EF:=by
 intro O H xs ds i Q n f e q;unfold EF at e;split at e
 .rename_i es
  cases h:kL es with
  |none=>rw[h]at e;ext e
  |some bs=>
   rw[h]at e;ext e;cases f with
   |cons d b=>ext b;let(a,g,rfl,d,b):=BM d;let:=sK b h;subst this;show#[a,bs,W,d.sq,q.at (.bl _)]
 .ext e
def l8:G D->z (G Int)
 |[]=>M []
 |.int b::r=>(l8 r).map (b::·)
 |_=>P
theorem nY:∀{xs:G V} {ds:G D} {bs:G Int},Wb O K H xs ds->l8 ds=M bs->xs=bs.map V.int
 |_,_,_,.nil,e=>by ext e;rfl
 |_,_,bs,.cons (ds:=r) h t,e=>by
  cases h with
  |int b=>
   let a:(l8 r).map (b::·)=M bs:=e;cases q:l8 r with
   |none=>rw[q]at a;ext a
   |some d=>rw[q]at a;ext a;rw[nY t q];rfl
  |_=>ext e
def xC(x:Int):G Int->G Int
 |[]=>[x]
 |y::r=>if x<=y then x::y::r else y::xC x r
def jx:G Int->G Int
 |[]=>[]
 |x::r=>xC x (jx r)
theorem mW(x:Int):∀l,(xC x l).Perm (x::l)
 |[]=>ZG _
 |y::r=>by
  ext xC;split
  .show ZG _
  .show((mW x r).cons y).trans (alh x y r)
theorem dX:∀l,(jx l).Perm l
 |[]=>ZG _
 |x::r=>(mW x _).trans ((dX r).cons x)
theorem nk(x:Int):∀l:G Int,l.Pairwise (·<=·)->(xC x l).Pairwise (·<=·)
 |[],_=>by simp[xC]
 |y::r,h=>by
  ext xC;let(d,f):=X3.mp h;split
  .rename_i a
   show X3.mpr #[λz b=>?_,h];rcases U5.mp b with e|e
   .rw[e];show a
   .let:=d z e;ext
  .rename_i a
   show X3.mpr #[λz b=>?_,nk x r f];rcases U5.mp ((mW x r).mem_iff.mp b)with e|e
   .rw[e];ext
   .show d z e
theorem dC:∀l,(jx l).Pairwise (·<=·)
 |[]=>YA
 |x::r=>nk x _ (dC r)
theorem jQ{l m:G Int}(d:l.Perm m)(e:l.Pairwise (·<=·))(hm:m.Pairwise (·<=·)):l=m:=d.eq_of_pairwise (λa b _ _ g f=>Int.le_antisymm g f) e hm
def uA:G D->z RV
 |[.list ds]=>(match l8 ds with
  |some a=>if a.length<64 then M (.ow ((jx a).map .int))else P
  |none=>P)
 |_=>P
def oY(a:G Int):Wb O K H (a.map V.int) (a.map .int):=by
 induction a with
 |nil=>show .nil
 |cons n r b=>show .cons (.int n) b
def A6:AW K (λxs H Q=>∃(p:I) (b:G Int),xs=[.ref p]/\Yr K H p (b.map V.int)/\b.length<64/\∀(l:I) (d:G Int),H l=P->d.Perm b->d.Pairwise (·<=·)->Q (.ref l) (aX H l (.lst (d.map V.int)))) uA:=by
 intro O H xs ds t Q n f e q;unfold uA at e;split at e
 .rename_i es
  cases r:l8 es with
  |none=>rw[r]at e;ext e
  |some b=>
   rw[r]at e;dsimp only at e;split at e
   .rename_i g
    ext e;cases f with
    |cons i h=>ext h;let(a,o,rfl,i,h):=BM i;let:=nY h r;subst this;show#[a,b,W,i.sq,g,λl d g f j=>?_];let m:=jQ (f.trans (dX b).symm) j (dC b);subst m;show Fin.new (oY _) q l g
   .ext e
 .ext e
end
def BL{P:UZ}{w:Vf}{K:lD}{L l:Str->bg U}{k:Nat}{T a:Uz}{fd:VG}{x:Str}{F:FN}{b:UC}{c:bb U}{d:bb Int}
  (p:K.In b.heap) (f:b.heap.Ns UY L) (y:b.heap.Ns builtinsNs l) (g:∀x:Str,x≠ "__name__"->l x=VF x) (i:b.heap.NoLimit) (t:b.gens= #v[])
  (N:b.heap.get? a=M {cls:=.type "list",data:=.seq c.toArray}) (V:IntsAre c d) (m:d.length<=UK) (q:Wr k callerA)
  (G:∀base:Heap,K.In base->base.Ns UY L->FnOk P w K L base jY k T fd [x] (zJ K 1 F)) (j:∀(s:UC) (u:U),YZ s fd #[[u],[]] [(x,u)])
  (B:F [.list (d.map .int)]=.ok (.fz (.bool S))):
  codeAny (model P w) callerA (.call (.ref T) #[[.ref a],[]]) (λr D=>r=.ok (.ret (.bool S))/\OldK b.heap D.heap/\D.os=b.os/\AllBare D.gens) b:=by
 show Gs (sp:=λc H Q E=>zJ K 1 F c H Q E\/(c.length=1/\False)) p f y g i t N V m q (λbase k1 k2=>(G base k1 k2).imp λc H Q E h=>?_) j (λH I A=>?_) λ_ _ _ h=>h
 .rcases h with h|h
  .show h
  .show h.2.elim
 .show .inl #[W,noO,[.list (d.map .int)],λa z=>z.elim,.cons (.lst #[?_,λz=>z.elim] (oY d)) .nil,?_]
  .rcases A with h|⟨o,Vm,n,h1,h2,h3,Y,h5,X⟩
   .show .inl h
   .let e:=p a o h1;rw[N]at e;ext e;ext Y;show .inr #[c,0,h1,by rw[Uy];show m,by simpa using X]
  .rw[B];show λv J s C=>by ext C;rfl
def QA{l:ach}{n k:Nat}{q:UZ}{i:bb Str}{N:(Str->bg Ut)->Heap->Prop}{A:Vf->Heap->Prop}{d:DefRec}{K:Params->lD}{F:FN}{x:Str}
  (D:l.most=cL n) (m:n<=UK) (r:d.params.defaults=[]) (C:Wr k callerA)
  (J:∀(w:Vf) (h:Heap),A w h->(K w.params).In h)
  (O:∀(w:Vf) (b:Str->bg Ut) (c:Uz) (h:Heap),(K w.params).In h->h.Ns UY b->b d.name=cL (.ref c)->
   ∃fd:VG,(∀(s:UC) (u:Ut),YZ s fd #[[u],[]] [(x,u)])/\∀base:Heap,(K w.params).In base->base.Ns UY b->FnOk l.prog w (K w.params) b base jY k c fd [x] (zJ (K w.params) 1 F))
  (L:∀ns:bb Int,ns.length<=n->F [.list (ns.map .int)]=.ok (.fz (.bool Uv))):
  PySem.W.WalkO q i N A l.row.toRowW d [] (λf g=>afn f g):=by
 show Att.attach_call D r λw z y b Q c o P U M a g ns G Y R S H p v j e E=>?_;let B:=J w _ Y;let(fd,I,t):=O w b c _ B G.T.g p;show BL B G.T.g G.T.b G.T.builtins G.T.nolimit E v j (Vk e m) C t I (L ns e)
def Tw{P:UZ}{w:Vf}{K:lD}{j:Str->z U}{base:Heap}{x a:Str}{b:Wk}{f:I}{fd:VG}{N c:G Str}{k n m:Nat}{g:FS}{e:FN}(F:ZL K x a b f fd)(S:WK N c (az b))(l:c.length=n)(hm:N.length=m)(h:e=eD m g)
  (i:∀(d:U) (A:Vb) (outer:G Env) (s:UC) (H:Hp) (E:XK),Wr k (A.deeper (Vi a (az b) s.heap.objs.size f d))->
   ∃t,Z2 (eP jY P w K j base N a (az b) f d A outer s H E).nox (bO b) t/\SO K E t g):FnOk P w K j base jY (k+1) f fd c (zJ K n e):=by
 subst h hm;show TZ F S l i
abbrev S4(P:UZ)(w:Vf)(K:lD)(b:Str->z U)(base:Heap)(k:Nat)(x:Str)(a:G Str)(n:Nat)(F:FN):Prop:=wb P w K b base k x a (zJ K n F)
end L3
namespace L3
open PySem L2
abbrev nd(n:Nat):D:=.int (n:Int)
def bt(a:G Nat):G D:=a.map nd
def fG(a:G Nat):(bt a).length=a.length:=by ext bt;rw[Uy]
def JG(xs a:G Nat):bt (xs++a)=bt xs++bt a:=by ext bt;rw[U9]
def og{i:Nat}(h:(bt ns)[i]?=M d):∃n,ns[i]?=M n/\d=nd n:=by
 unfold bt at h;rw[UJ]at h;cases e:ns[i]? with
 |none=>rw[e]at h;ext h
 |some n=>rw[e]at h;show#[n,W,(UT h).symm]
theorem aP(a:α):Res.VD (M a)=.ok a:=W
theorem wI(a:α):j7 (Res.ok a)=.ok a:=W
theorem yp(i:Nat)(a:aQ):aa i a=z8 a i a[i]? :=W
theorem Cu(a:aQ)(i:Nat)(d:D):z8 a i (M (M (.fz d)))=.ok (.fz d,a):=W
theorem Ey(a:aQ)(i:Nat)(ds:G D):z8 a i (M (M (.ow ds)))=.ok (.pl i,a):=W
theorem my(ds:G D):Ei (M (M (.ow ds)))=M ds:=W
theorem Gb(i:Nat)(d:D)(a:aQ):gN i (.fz d) a=.ok (a.set i (M (.fz d))):=W
theorem y8(i:Int):Su (.int i)=M i:=W
theorem vx(b:Bool):Sz (.bool b)=M b:=W
theorem hW(ds:G D):cI [.tuple ds]=M (.fz (nd ds.length)):=W
theorem dS(ds:G D):cI [.list ds]=M (.fz (nd ds.length)):=W
theorem ju(i j:Int):GD (.int i) (.int j)=M (.fz (.bool (decide (i<j)))):=W
theorem FL(i j:Int):R9 (.int i) (.int j)=M (.fz (.bool (decide (i<=j)))):=W
theorem vo(i j:Int):GB (.int i) (.int j)=M (.fz (.bool (decide (j<i)))):=W
theorem vj(i j:Int):QW (.int i) (.int j)=M (.fz (.bool (decide (j<=i)))):=W
theorem eK(i j:Int):cz (.int i) (.int j)=M (.fz (.int (i+j))):=W
theorem mM(i j:Int):mw (.int i) (.int j)=M (.fz (.int (i - j))):=W
def pZ(h:0<j):l6 (.int i) (.int j)=M (.fz (.int (i % j))):=by show(if OI i j=S then _ else _)=_;rw[ax (show OI i j=S from a4 h)]
def Fh(h:0<j/\j<2^128):xj (.int i) (.int j)=M (.fz (.int (i/j))):=by show(if OL i j=S then _ else _)=_;rw[ax (show OL i j=S from a4 h)]
def HU(h: -(2^64)<i/\i<2^64):yo (.int i) (.int j)=M (.fz (.int (i*j))):=by show(if(gr i||gr j)=S then _ else _)=_;rw[ax (by rw[show gr i=S from a4 h,Xn])]
def Js(h: -(2^64)<j/\j<2^64):yo (.int i) (.int j)=M (.fz (.int (i*j))):=by show(if(gr i||gr j)=S then _ else _)=_;rw[ax (by rw[show gr j=S from a4 h,ZC])]
def IS(h:jS j):iO [.int j]=M (fL 0 j.toNat):=by show(if jS j then _ else _)=_;rw[ax h]
def EU(n:Nat):fL 0 n=bt (UR n):=by unfold fL bt;apply XQ;intro k _;rw[Int.zero_add]
def iQ(h:n<=1000000):iO [nd n]=M (bt (UR n)):=by rw[IS (by ext jS;ext),EU,VO]
def D4(h:f C=.ok (.nx o)):aZ f g C=g o:=by ext aZ;rw[h];rfl
def C7(h:f o=.ok (.rt C)):aZ f g o=.ok (.rt C):=by ext aZ;rw[h];rfl
def Sv(h:c C=.ok (S,o)):ja c f g C=f o:=by ext ja;rw[h];rfl
def SL(h:c C=.ok (R,o)):ja c f g C=g o:=by ext ja;rw[h];rfl
def x4(h:J C=.ok (ds,o)):kY J gt b C=nU gt b ds o:=by ext kY;rw[h];rfl
def MM(h:j<=1000000/\i.natAbs<2^64):Ec (.int i) (nd j)=M (.fz (.int (i^j))):=by show(if vQ i (j:Int)=S then M (RV.fz (.int (i^((j:Nat):Int).toNat)))else P)=_;rw[ax (by ext vQ;show a4 #[by ext,by ext,h.2]),VO]
theorem Lk:Ec (.int 10) (.int 18)=M (.fz (.int (10^18))):=MM #[by decide,by decide]
def jv(gt:FG)(f:FT)(g:FE)(d:D)(c:aQ):Res (z D×aQ):=(gt (.fz d) c).bind λe=>(f e).bind λb=>if b.1=S then(g b.2).bind λa=>(Res.VD (vV a.2 a.1)).bind λx=>.ok (M x.1,cP x.2)else .ok (P,cP b.2)
def pU(h:jv gt ft fe d J=.ok (o,C))(g:acc.length<1000000):dj gt ft fe (d::r) J acc=dj gt ft fe r C (acc++o.toList):=by
 unfold jv at h;show(gt (.fz d) J).bind _=_;cases l:gt (.fz d) J with
 |er x=>rw[l]at h;ext h
 |bad=>rw[l]at h;ext h
 |ok f=>
  rw[l,eh]at h;rw[eh];cases j:ft f with
  |er x=>rw[j]at h;ext h
  |bad=>rw[j]at h;ext h
  |ok b=>
   let(b,e):=b;rw[j,eh]at h;rw[eh];cases b with
   |false=>rw[aE UQ]at h⊢;ext h;rw[abJ,Vh]
   |true=>
    rw[ax W]at h⊢;cases i:fe e with
    |er x=>rw[i]at h;ext h
    |bad=>rw[i]at h;ext h
    |ok a=>
     rw[i,eh]at h;rw[eh];cases m:vV a.2 a.1 with
     |none=>rw[m]at h;ext h
     |some x=>rw[m]at h;ext h;show(if acc.length<1000000 then _ else _)=_;rw[ax g];rfl
def JY(c:Nat)(h:c<=1000):J8 (.int 1) (nd c)=M (.fz (nd (2^c))):=by show(if vQ 1 (c:Int)=S then M (RV.fz (.int (1*2^((c:Nat):Int).toNat)))else P)=_;rw[ax (by ext vQ;show a4 #[by ext,by ext,by decide]),Int.one_mul,VO];congr 3
def Nb(a b:Nat):decide ((a:Int)=(b:Int))=decide (a=b):=by
 by_cases h:a=b
 .rw[a4 h,a4 (by rw[h])]
 .rw[a5 h,a5 ()]
theorem Fc(a b:Nat):UB.eqv (nd a) (nd b)=decide (a=b):=Nb a b
def gj(a b:Int):cj (.int a) (.int b)=M (.fz (.bool (decide (a=b)))):=by rfl
def tU(a b:Int):kQ (.int a) (.int b)=M (.fz (.bool (!decide (a=b)))):=by rfl
theorem kR:∀ns:G Nat,UB.canLayAll0 (bt ns)=S
 |[]=>rfl
 |n::r=>by show(UB.canLay0 (nd n)&&UB.canLayAll0 (bt r))=S;rw[kR r];rfl
theorem n6:∀ns:G Nat,UB.depthAll (bt ns)=0
 |[]=>rfl
 |n::r=>by show max (UB.depth (nd n)) (UB.depthAll (bt r))=0;rw[n6 r];rfl
theorem Au:∀xs ys:G Nat,UB.eqvAll (bt xs) (bt ys)=decide (xs=ys)
 |[],[]=>rfl
 |[],_::_=>rfl
 |_::_,[]=>rfl
 |n::r,m::t=>by show(UB.eqv (nd n) (nd m)&&UB.eqvAll (bt r) (bt t))=_;rw[Au r t,Fc];rw[Z5];simp
def Mq(a:G Nat):j8 (.list (bt a))=S:=by show(UB.canLayAll0 (bt a)&&decide (UB.depthAll (bt a)+1<=64))=S;rw[kR,n6];rfl
def sV(xs a:G Nat):cj (.list (bt xs)) (.list (bt a))=M (.fz (.bool (decide (xs=a)))):=by ext cj;rw[Mq,show UB.canLay0 (.list (bt a))=S from kR a,Wn,ax W,show UB.eqv (.list (bt xs)) (.list (bt a))=_ from Au xs a]
def IT(x:Nat)(xs:G Nat):((bt xs).any λe=>UB.eqv e (nd x))=decide (x∈xs):=by
 induction xs with
 |nil=>rfl
 |cons y r a=>
  show(UB.eqv (nd y) (nd x)||(bt r).any λe=>UB.eqv e (nd x))=_;rw[a,Fc];by_cases h:y=x
  .rw[a4 h,a4 (show x∈y::r by rw[h];show UP),Xn]
  .rw[a5 h,Yl]
   by_cases g:x∈r
   .rw[a4 g,a4 (UM _ g)]
   .rw[a5 g,a5 (λz=>(U5.mp z).elim (λe=>h e.symm) g)]
def uy(x:Nat)(xs:G Nat):GJ (nd x) (.tuple (bt xs))=M (.fz (.bool (decide (x∈xs)))):=by show(if(j8 (nd x)&&UB.canLayAll0 (bt xs))=S then _ else _)=_;rw[kR,show j8 (nd x)=S from rfl,Wn,ax W,IT]
theorem E6{i:Nat}(h:xs[i]?=M v):jV xs (i:Int)=M v:=zR h
def Cy(h:ds[i]?=M d):aO (.tuple ds) (nd i)=M (.fz d):=by show(jV ds (i:Int)).map RV.fz=_;rw[E6 h];rfl
def yW(h:ds[i]?=M d):aO (.list ds) (nd i)=M (.fz d):=by show(jV ds (i:Int)).map RV.fz=_;rw[E6 h];rfl
section
variable{Y ρ1 X Q:aQ}{T J B N:FE}{pa E pv:PV}{dx C d:D}{rv:RV}{L:bb PV}{ds:bb D}
def af(h:Y[i]?=M (M (.fz d))):aa i Y=.ok (.fz d,Y):=by rw[yp,h,Cu]
def iM(h:Y[i]?=M (M (.ow ds))):aa i Y=.ok (.pl i,Y):=by rw[yp,h,Ey]
theorem av:pC d Y=.ok (.fz d,Y):=W
def au(c:T Y=.ok (pa,ρ1))(g:J ρ1=.ok (E,X))(b:wM X (cV pa)=M dx)(a:wM X E=M C)(e:f dx C=M rv):aA f T J Y=.ok (rv.pv,X):=by ext aA;rw[c,eh,g,eh,b,aP,eh,a,aP,eh,e,aP,eh]
def LC(c:T Y=.ok (pa,ρ1))(a:wM ρ1 pa=M dx)(b:f dx=M rv):Px f T Y=.ok (rv.pv,ρ1):=by ext Px;rw[c,eh,a,aP,eh,b,aP,eh]
def aK(c:T Y=.ok (pa,ρ1))(a:wM ρ1 pa=M (.bool b)):aB T Y=.ok (b,ρ1):=by ext aB;rw[c,eh,a,aP,eh,vx,aP,eh]
def iT(c:f Y=.ok (a,ρ1))(e:a=S->g ρ1=.ok (b,ρ1)):qB f g Y=.ok (a&&b,ρ1):=by
 ext qB;rw[c,eh];cases a with
 |true=>rw[ax W,e W,Ym]
 |false=>rw[aE UQ,X0]
def kN(c:f Y=.ok (a,ρ1))(e:a=R->g ρ1=.ok (b,ρ1)):GK f g Y=.ok (a||b,ρ1):=by
 ext GK;rw[c,eh];cases a with
 |true=>rw[ax W,Xn]
 |false=>rw[aE UQ,e W,Yl]
def nZ(c:aB T Y=.ok (a,ρ1))(e:a=S->J ρ1=.ok (.fz (.bool b),ρ1)):yB T J Y=.ok (.fz (.bool (a&&b)),ρ1):=by
 ext yB;rw[c,eh];cases a with
 |true=>rw[ax W,e W,Ym]
 |false=>rw[aE UQ,X0]
def zk(b:aB T Y=.ok (a,ρ1)):BK T Y=.ok (.fz (.bool (!a)),ρ1):=by ext BK;rw[b,eh]
theorem aw:aq Y=.ok ([],Y):=W
def ah(b:T Y=.ok (pa,ρ1))(a:fr ρ1=.ok (L,X)):ae T fr Y=.ok (cV pa::L,X):=by ext ae;rw[b,eh,a,eh]
def dh(b:fr Y=.ok (L,ρ1))(hd:vh ρ1 L=M ds)(a:f ds=M rv):fY f fr Y=.ok (rv.pv,ρ1):=by ext fY;rw[b,eh,hd,aP,eh,a,aP,eh]
def bf(c:fr Y=.ok (L,ρ1))(hd:nX ρ1 L=M (ds,X))(b:ds.length=n)(a:F ds=.ok rv):b6 F n fr Y=.ok (rv.pv,X):=by ext b6;rw[c,eh,hd,aP,eh];dsimp only;rw[ax b,a,wI,eh]
def bW(b:fr Y=.ok (L,ρ1))(hd:nX ρ1 L=M (ds,X))(a:ds.length<=1000):bj fr Y=.ok (.fz (.tuple ds),X):=by ext bj;rw[b,eh,hd,aP,eh];dsimp only;rw[ax a]
def mJ(b:fr Y=.ok (L,ρ1))(hd:nX ρ1 L=M (ds,X))(a:ds.length<=1000):cC fr Y=.ok (.ow ds,X):=by ext cC;rw[b,eh,hd,aP,eh];dsimp only;rw[ax a]
theorem lB:pK Y=.ok (P,Y):=W
def lP(b:T Y=.ok (pa,ρ1))(a:wM ρ1 pa=M (.int i)):nu T Y=.ok (M i,ρ1):=by ext nu;rw[b,eh,a,aP,eh,y8,aP,eh]
def yT(c:T Y=.ok (pa,ρ1))(b:fl ρ1=.ok (lo,X))(e:fh X=.ok (o,Q))(a:wM Q (cV pa)=M dx)(g:f dx lo o=M rv):Lr f T fl fh Y=.ok (rv.pv,Q):=by ext Lr;rw[c,eh,b,eh,e,eh,a,aP,eh,g,aP,eh]
def sH(g:Y[i]?=M (M (.ow es)))(c:N Y=.ok (pa,ρ1))(b:vV ρ1 pa=M (d,X))(f:X[i]?=M (M (.ow ds)))(e:ds.length<1000000)(a:X.set i (M (.ow (ds++[d])))=x):wx i N Y=.ok (.fz .none,x):=by ext wx;rw[g,my,aP,eh,c,eh,b,aP,eh];dsimp only;rw[f,my,aP,eh,ax e,a]
def d9(c:fi Y=.ok (ds,ρ1))(b:rR ρ1 o=M (cs,X))(a:j7 (dj gt ft N ds (UH n P++cs.map λd=>M (.fz d)) [])=.ok xs):eS n o fi gt ft N Y=.ok (.ow xs,X):=by ext eS;rw[c,eh];dsimp only;rw[b,aP,eh];dsimp only;rw[a,eh]
theorem dI:aO (.tuple (a::r)) (.int 0)=M (.fz a):=Cy W
theorem eU:aO (.tuple (a::b::r)) (.int 1)=M (.fz b):=Cy W
theorem pN:aO (.tuple (a::b::c::r)) (.int 2)=M (.fz c):=Cy W
def NG(b:k<=1000)(a:xs.length<=1000):yo (.list xs) (nd k)=M (.ow (UH k xs).flatten):=by show(if xs.length*((k:Nat):Int).toNat<=1000000/\ -(2^63)<=(k:Int)/\(k:Int)<2^63 then M (RV.ow (UH ((k:Nat):Int).toNat xs).flatten)else P)=_;rw[VO,ax #[Vk (Y5 a b) (),by ext,by ext]]
def iP(c:N Y=.ok (pa,ρ1))(a:vV ρ1 pa=M (d,X))(b:dY d=M es):im N Y=.ok (es,X):=by ext im;rw[c,eh,a,aP,eh];dsimp only;rw[b,aP,eh]
def GS(b:fr Y=.ok (L,ρ1))(hd:vh ρ1 L=M ds)(a:f ds=M es):mr f fr Y=.ok (es,ρ1):=by ext mr;rw[b,eh,hd,aP,eh,a,aP,eh]
def yt(b:N Y=.ok (pv,ρ1))(a:g pv ρ1=.ok X)(c:X=Q):dL N g Y=.ok (.nx Q):=by ext dL;rw[b,eh];dsimp only;rw[a,eh,c]
def zG(a:N Y=.ok (pv,ρ1)):lU N Y=.ok (.nx ρ1):=by ext lU;rw[a,eh]
def tY(b:N Y=.ok (pv,ρ1))(a:Bu ρ1 pv=M rv):cb N Y=.ok (.rt rv):=by ext cb;rw[b,eh];dsimp only;rw[a,aP,eh]
def HD(e:gt (.fz d) Y=.ok ρ1)(b:ft ρ1=.ok (S,X))(g:N X=.ok (pv,Q))(a:vV Q pv=M (x,ρ4))(f:cP ρ4=o):jv gt ft N d Y=.ok (M x,o):=by ext jv;rw[e,eh,b,eh,ax W,g,eh,a,aP,eh,f]
def Qh(b:gt (.fz d) Y=.ok ρ1)(a:ft ρ1=.ok (R,X))(e:cP X=o):jv gt ft N d Y=.ok (P,o):=by ext jv;rw[b,eh,a,eh,aE UQ,e]
end
end L3
namespace PySem
open Sem (wp)
open Builtin
open AutoSeq1 (wpAny_loadPart')
theorem mx:fillsNumberSlot (.type "tuple") "mul"=pure R:=
 fillsNumberSlot_seq F.slot_tuple_mul.lookup (by left) F.slot_tuple_rmul.lookup (by left)
def sP:seqRepeat? (.type "tuple")=pure (M (.builtin "tuple.__mul__")):=by unfold seqRepeat?;rw[seqSlot_of (name:= "__mul__") F.slot_tuple_mul.lookup (by left),seqSlot_of (name:= "__rmul__") F.slot_tuple_rmul.lookup (by left)];rfl
theorem qC(a:Int)(t:Tok)(l:I)(items:Array U)(n:Nat)(Zm:z I)(e:Array (z U)):
  Meets (Builtin.«int.__rmul__» #[[.int a t,.ref l],[]]) (λ_ R s=>s.heap.get? l=M {cls:=.type "tuple",dict:=Zm,data:=.seq items n,slots:=e}/\R (.ok (.ret Ut.notImplemented)) s):=
 .of_wp λb w A R s h=>by let(j,g,d,f,i):=s;let(m,h):=h;wp_walk;show#[_,W,h]
theorem vt(l:I)(items:Array U)(n:Nat)(Zm:z I)(b:Array (z U))(u:Tok):
  Meets (Builtin.«tuple.__mul__» #[[.ref l,.int 1 u],[]]) (λ_ R s=>s.heap.get? l=M {cls:=.type "tuple",dict:=Zm,data:=.seq items n,slots:=b}/\R (.ok (.ret (Ut.ref l))) s):=
 .of_wp λa w A R s h=>by
  let(i,g,d,e,f):=s;let(j,h):=h
  wp_walk
  show#[_,W,h]
theorem wl(l:Uz)(items:Array U)(n:Nat)(Zm:bg Uz)(i:Array (bg U))(x:Int)(u:Tok)(H:2<=x)(q:x<=1000)(f:items.isEmpty=Ux)(D:items.size<=1000):
  Meets (Builtin.«tuple.__mul__» #[[.ref l,.int x u],[]]) (λ_ R s=>s.heap.get? l=M {cls:=.type "tuple",dict:=Zm,data:=.seq items n,slots:=i}/\R (.ok (.ret (Ut.ref s.heap.objs.size))) {s with heap:=s.heap.push {cls:=Ut.type "tuple",data:=Data.seq (Yv (λk c=>k++c) #v[] (UH x.toNat items))},toks:=s.toks}):=
 .of_wp λa w A R s h=>by
  let(F,g,d,C,E):=s;let(p,h):=h;let B:¬(decide (x< -(2^63))||decide (x≥2^63))=S:=by simp;ext
  let z:(x==1)=Ux:=by simp;ext
  let y:decide (x<=0)=Ux:=by simp;ext
  let J:(items.isEmpty||x==1)=Ux:=by rw[f,z];rfl
  let I:(decide (x<=0)||items.isEmpty)=Ux:=by rw[f,y];rfl
  let e:(items.size:Int)*x<=1000000:=by let:(items.size:Int)*x<=1000*1000:=Int.mul_le_mul () q () ();ext
  let v:¬(items.size:Int)*x>(2^63 - 1)/8:=by ext
  let t:¬Tuple.tupleTooMany ((items.size:Int)*x)=S:=by
   ext Tuple.tupleTooMany;simp;let:(UK:Nat)=16777216:=by decide
   ext
  wp_walk
  rw[aE B]
  wp_walk using wpAny_loadPart' p
  rw[aE v];dsimp only;rw[aE t];let o:(Yv (λk c=>k++c) #v[] (UH x.toNat items)).size<=UK:=by
   let r:∀(m:Nat) (b:Array U),(Yv (λk c=>k++c) b (UH m items)).size=b.size+m*items.size:=by
    intro m
    induction m with
    |zero=>intro b;simp
    |succ m j=>intro b;rw[VJ,Yz,j,Array.size_append,afm];ext
   rw[r];let G:x.toNat*items.size<=1000*1000:=Y5 () D;let:(UK:Nat)=16777216:=by decide
   simp;ext
  wp_walk
  show#[_,W,h]
end PySem
namespace L3
open PySem PySem.Spec PyProof.Rows L2
def KG(K:lD):R2:=λx y H Q=>∃(a:I) (k:Nat) (xs:G V),x=.ref a/\y=.int (k:Int)/\Ya K H a xs/\xs≠[]/\1<=k/\k<=1000/\xs.length<=1000/\
 (k=1->Q (.ref a) H)/\(2<=k->∀p,H p=P->Q (.ref p) (aX H p (.tup (UH k xs).flatten)))
def GV:OpR X (V8 .Mult) (KG X.K):=by
 intro g s P H x y v u Q I A z h;let(a,k,xs,rfl,rfl,E,O,U,M,J,C,B):=h;ext A;let(t,rfl):=z;let(e,r,G,T):=I.tuple E;let((cls,dd,m,f),d,l,n,j):=id G;simp only at l j;subst l j;let i:=r.length;show abH () #[_,d,W] (λw=>ZU w k t) mx F.fills_int_mul F.slot_int_rmul sP F.slot_int_index.lookup
  (Y3 F.slot_int_rmul (ZU s k t) F.entry_int_rmul (F.args_int_rmul_2 _ _) (qC k t a e.toArray n dd f) #[d,W,#[_,d,W],?_])
 by_cases L:k=1
 .subst L;show Y3 F.slot_tuple_mul #[_,d,W] F.entry_tuple_mul (F.args_tuple_mul_2 _ _) (vt a e.toArray n dd f t) #[d,#[.ref a,H,I,W,C W]]
 .show Y3 F.slot_tuple_mul #[_,d,W] F.entry_tuple_mul (F.args_tuple_mul_2 _ _) (wl a e.toArray n dd f k t () () ?_ (by rw[UN];ext)) #[d,?_]
  .cases e with
   |nil=>ext r;show a7 W O
   |cons y R=>rfl
  .let N:Yv (λp o=>p++o) #v[] (UH ((k:Nat):Int).toNat e.toArray)=(UH k e).flatten.toArray:=by
    let:=mP e k [];rw[YB]at this;rw[VO];show this
   rw[N];show#[.ref s.heap.objs.size,_,I.laid (λb S q=>b3 _ q) (UG _) ?_,W,B () _ (I.VQ.fresh (UG _))];show#[?_,_,r.rep k,Zw.new _ _];rw[zw];show Vk (Y5 M J) ()
def K2(K:lD):R2:=λx y H Q=>Ej K x y H Q\/KG K x y H Q
theorem HK:OpR X (V8 .Mult) (K2 X.K):=OpR.or GX GV
def gp:D->D->z RV
 |.tuple xs,.int k=>if xs≠[]/\1<=k/\k<=1000/\xs.length<=1000 then M (.fz (.tuple (UH k.toNat xs).flatten))else P
 |d,e=>yo d e
def B6{K:lD}:iZ K (K2 K) gp:=by
 intro O H x y l i j Q n f d e q;unfold gp at e;split at e
 .rename_i ds k
  split at e
  .rename_i g
   ext e;ext d;let(a,xs,rfl,h,b):=Al f;obtain⟨m,rfl⟩:∃m:Nat,k=(m:Int):=#[k.toNat,by ext];rw[VO]at q;show .inr #[a,m,xs,W,W,h.1,λz=>g.1 (b.ne.mp z),by ext,by ext,by rw[b.length];show g.2.2.2,λe=>?_,λ_=>Fin.ab2 (b.flat m) n q];subst e;let e1:(UH 1 ds).flatten=ds:=by simp
   rw[e1]at q;show q.at (.tup h b)
  .ext e
 .show .inl (Hj O H x y l i j Q n f d e q)
theorem vH(i j:Int):gp (.int i) (.int j)=yo (.int i) (.int j):=W
theorem lf(h: -(2^64)<i/\i<2^64):gp (.int i) (.int j)=M (.fz (.int (i*j))):=(vH i j).trans (HU h)
theorem Gq(h: -(2^64)<j/\j<2^64):gp (.int i) (.int j)=M (.fz (.int (i*j))):=(vH i j).trans (Js h)
end L3
namespace PySem
open Sem (wp)
open Builtin Builtin.Str
def itAt:Bool->Heap->I->I->Nat->Prop
 |true,h,it,a,i=>h.IsTupleIter it a i
 |false,h,it,a,i=>h.IsListIter it a i
def sqAt:Bool->Heap->I->Array U->Prop
 |true,h,a,xs=>h.IsTuple a xs
 |false,h,a,xs=>h.IsList a xs
def uR:Bool->String
 |true=> "tuple_iterator"
 |false=> "list_iterator"
def itAt.ext(x:itAt b h it a i)(e:Heap.ExtBut c h h')(n:it≠c):itAt b h' it a i:=by
 cases b with
 |true=>show Heap.IsTupleIter.extBut x e n
 |false=>show Heap.IsListIter.extBut x e n
def itAt.to(x:itAt b h it a i)(e:∀o,h.get? it=M o->h'.get? it=M o):itAt b h' it a i:=by
 cases b with
 |true=>show Heap.IsTupleIter.at x e
 |false=>show Heap.IsListIter.at x e
def itAt.live(x:itAt b h it a i):∃o,h.get? it=M o/\∀v,o.data≠.cell v:=by
 cases b with
 |true=>let(o,e,_,d):=(show h.IsTupleIter it a i from x);show#[o,e,λv z=>by rw[d]at z;ext z]
 |false=>let(o,e,_,d):=(show h.IsListIter it a i from x);show#[o,e,λv z=>by rw[d]at z;ext z]
def sqAt.ext(x:sqAt b h a xs)(e:Heap.ExtBut c h h')(n:a≠c):sqAt b h' a xs:=by
 cases b with
 |true=>show Heap.IsTuple.extBut x e n
 |false=>show Heap.IsList.extBut x e n
def sqAt.psh(x:sqAt b h a xs)(o:Obj):sqAt b (h.push o) a xs:=by
 cases b with
 |true=>show Heap.IsTuple.push x o
 |false=>show Heap.IsList.push x o
def sqAt.lt(x:sqAt b h a xs):a<h.objs.size:=by
 cases b with
 |true=>let(o,e,_):=(show h.IsTuple a xs from x);show b4 e
 |false=>let(o,e,_):=(show h.IsList a xs from x);show b4 e
section
variable{prog:UZ}{w:Vf}{A:Vb}{E:Ut->UC->Prop}{s:UC}
def uz(e:itAt b s.heap it l i)(d:sqAt b s.heap l xs)(a:xs[i]?=M x)
  (q:∀c,itAt b c it l (i+1)->Heap.SameBut it s.heap c->Q x {s with heap:=c}):wpAny (model prog w) A (SmallTypes.nextOf (.ref it)) Q E s:=by
 cases b with
 |true=>show kW e d a q
 |false=>show wpAny_nextOf_list_item e d a q
def y1(f:A.handled=P)(g:itAt b s.heap it l i)(d:sqAt b s.heap l xs)(a:xs[i]?=P)
  (q:∀c e,Heap.ExtBut it s.heap c->(∃o,c.get? e=M o/\o.cls=.type "StopIteration")->E (.ref e) {s with heap:=c}):wpAny (model prog w) A (SmallTypes.nextOf (.ref it)) Q E s:=by
 cases b with
 |true=>show mY f g d a q
 |false=>show wpAny_nextOf_list_end f g d a q
def zc(a:sqAt b s.heap l xs)
  (q:Q (.ref s.heap.objs.size) {s with heap:=s.heap.push {cls:=.type (uR b),data:=.fields #v[.ref l,.int 0 0]}}):wpAny (model prog w) A (pyIter (.ref l)) Q E s:=by
 cases b with
 |true=>show Zg a q
 |false=>show Xj a q
def BJ{Q:Ut->UC->Prop}(D:Z8 z1 TI TO i1 i2 l1 l2)(V:abe s.heap z1 TI TO .none)
  (hTI:IsPair s.heap TI (.ref i1) (.ref i2)) (hTO:IsPair s.heap TO a b) (h1:itAt b1 s.heap i1 l1 n) (h2:itAt b2 s.heap i2 l2 n) (hl1:sqAt b1 s.heap l1 xs) (Z:sqAt b2 s.heap l2 ys) (hx:xs[n]?=cL x) (hy:ys[n]?=cL y)
  (q:∀k,abe k z1 TI TO (rawInt s.heap.objs.size)->IsPair k TO x y->itAt b1 k i1 l1 (n+1)->itAt b2 k i2 l2 (n+1)->IsPair k s.heap.objs.size x y->k.objs.size=s.heap.objs.size+1->
   (∀c o,c≠z1->c≠TO->c≠i1->c≠i2->s.heap.get? c=cL o->k.get? c=cL o)->Q (.ref s.heap.objs.size) {s with heap:=k}):
  wpAny (model prog w) A (Builtin.«zip.__next__» #[[.ref z1],[]]) (λfin s'=>∃v,fin=.done (.ret v)/\Q v s') E s:=by
 show wpAny _ _ (field (.ref z1) 2>>=_) _ _ _;show CL (Vo V W W ?_);show wpAny _ _ (field (.ref z1) 3>>=_) _ _ _;show CL (Vo V W W ?_);show CL (VX hTI W ?_);show wpAny _ _ (SmallTypes.ownedTupleIsFree (.ref z1)>>=_) _ _ _;show CL ?_;ext SmallTypes.ownedTupleIsFree;show CL (Vo V W W (UD ?_));simp only[if_true];show CL (Y4 ?_);show CL (Vo V W W ?_);show CL (WT V (by simp) λk₁ r f=>?_);let adJ:=r;clear r;show CL ?_;simp only[ac0,adk,XM,YX];show CL (CL (ZO ?_));show wpAny _ _ (SmallTypes.nextOf (.ref i1)>>=_) _ _ _;show CL (uz (h1.ext f.extBut D.i1z) (hl1.ext f.extBut D.l1z) hx λk₂ X h=>UD ?_);let I:=h.extBut _ _ D.TOi1 (f.extBut _ _ D.TOz hTO);show CL (VX I W ?_);show CL (Zt I λk₃ H g=>?_);let L:=H;clear H;show CL (W9 (UD ?_));show CL (CL (ZO ?_));show wpAny _ _ (SmallTypes.nextOf (.ref i2)>>=_) _ _ _;show CL (uz (((h2.ext f.extBut D.i2z).ext h.extBut D.i12.symm).ext g.extBut D.TOi2.symm) (((Z.ext f.extBut D.l2z).ext h.extBut D.l2i1).ext g.extBut D.l2TO) hy λk₄ U j=>UD ?_);let G:=j.extBut _ _ D.TOi2 L;show CL (VX G W ?_);show CL (Zt G λd F i=>?_);let m:IsPair d TO x y:=F;clear F;show CL (W9 (UD (UD ?_)));show CL (VX m W ?_);show CL (wpAny_newTuple ?_);let T:d.objs.size=s.heap.objs.size:=by rw[i.1,j.1,g.1,h.1,f.1]
 let B:=i.extBut _ _ D.TOz.symm (j.extBut _ _ D.i2z.symm (g.extBut _ _ D.TOz.symm (h.extBut _ _ D.i1z.symm adJ)));let kp:∀c o,c≠z1->c≠TO->c≠i1->c≠i2->s.heap.get? c=cL o->d.get? c=cL o:=λc o M Y c3 c4 e=>
  i.extBut _ _ Y (j.extBut _ _ c4 (g.extBut _ _ Y (h.extBut _ _ c3 (f.extBut _ _ M e))))
 let S:=((X.ext g.extBut D.TOi1.symm).ext j.extBut D.i12).ext i.extBut D.TOi1.symm;let R:=U.ext i.extBut D.TOi2.symm;let XU:=b4 B;show wpAny _ _ (SmallTypes.ownedTupleHandOut (.ref z1) (.ref d.objs.size)>>=_) _ _ _;show CL ?_;ext SmallTypes.ownedTupleHandOut;let P:abe (d.push {cls:=.type "tuple",data:=.seq #v[x,y]}) z1 TI TO .ellipsis:=b3 _ B;show CL (WT P (by simp) λk₇ O u=>?_);let K:=O;show WT K (by simp) λp N t=>?_;let l:=N;let up:∀c o,c≠z1->d.get? c=cL o->p.get? c=cL o:=λc o M e=>t.extBut _ _ M (u.extBut _ _ M (b3 _ e));let C:=t.extBut _ _ (VI XU) (u.extBut _ _ (VI XU) (cc _ W));let J:p.objs.size=d.objs.size+1:=by rw[t.1,u.1,cv]
 rw[T]at l C J;show UD #[_,W,?_];rw[T];show q p l (up _ _ D.TOz m) (S.to λo e=>up _ o D.i1z e) (R.to λo e=>up _ o D.i2z e) C J λc o M Y c3 c4 e=>up c o M (kp c o M Y c3 c4 e)
def C8(S:A.handled=Ld)(D:Z8 z1 TI TO i1 i2 l1 l2)(k:abe s.heap z1 TI TO .none)
  (L:IsPair s.heap TI (.ref i1) (.ref i2)) (K:IsPair s.heap TO a b) (T:itAt b1 s.heap i1 l1 n) (Y:itAt b2 s.heap i2 l2 n) (C:sqAt b1 s.heap l1 xs) (I:sqAt b2 s.heap l2 ys) (N:xs[n]?=Ld\/ys[n]?=Ld)
  (q:∀V e,(∀c o,c≠z1->c≠TO->c≠i1->c≠i2->s.heap.get? c=cL o->V.get? c=cL o)->(∃o,V.get? e=cL o/\o.cls=.type "StopIteration")->E (.ref e) {s with heap:=V}):
  wpAny (model prog w) A (Builtin.«zip.__next__» #[[.ref z1],[]]) Q E s:=by
 show wpAny _ _ (field (.ref z1) 2>>=_) _ _ _;show CL (Vo k W W ?_);show wpAny _ _ (field (.ref z1) 3>>=_) _ _ _;show CL (Vo k W W ?_);show CL (VX L W ?_);show wpAny _ _ (SmallTypes.ownedTupleIsFree (.ref z1)>>=_) _ _ _;show CL ?_;ext SmallTypes.ownedTupleIsFree;show CL (Vo k W W (UD ?_));simp only[if_true];show CL (Y4 ?_);show CL (Vo k W W ?_);show CL (WT k (by simp) λR v d=>?_);let G:=v;show CL ?_;simp only[ac0,adk,XM,YX];show CL (CL (ZO ?_));show wpAny _ _ (SmallTypes.nextOf (.ref i1)>>=_) _ _ _;cases hx:xs[n]? with
 |none=>
  show CL (y1 S (T.ext d.extBut D.i1z) (C.ext d.extBut D.l1z) hx λB e f J=>?_);let(H,h,i):=J;let l:=f _ _ D.i1z.symm G;let ne:e≠z1:=λt=>by subst t;rw[l]at h;ext h;simp at i
  show WT l (by simp) λp _ g=>q p e (λc o F _ M _ t=>g.extBut _ _ F (f _ _ M (d.extBut _ _ F t))) #[H,g.extBut _ _ ne h,i]
 |some x=>
  let X:ys[n]?=Ld:=by
   rcases N with t|t
   .rw[hx]at t;ext t
   .show t
  show CL (uz (T.ext d.extBut D.i1z) (C.ext d.extBut D.l1z) hx λB U f=>UD ?_);let m:=f.extBut _ _ D.TOi1 (d.extBut _ _ D.TOz K);show CL (VX m W ?_);show CL (Zt m λp O g=>?_);show CL (W9 (UD ?_));show CL (CL (ZO ?_));show wpAny _ _ (SmallTypes.nextOf (.ref i2)>>=_) _ _ _;show CL (y1 S (((Y.ext d.extBut D.i2z).ext f.extBut D.i12.symm).ext g.extBut D.TOi2.symm) (((I.ext d.extBut D.l2z).ext f.extBut D.l2i1).ext g.extBut D.l2TO) X λP e u J=>?_);let(H,h,i):=J;let j:=u _ _ D.i2z.symm (g.extBut _ _ D.TOz.symm (f.extBut _ _ D.i1z.symm G));let ne:e≠z1:=λt=>by subst t;rw[j]at h;ext h;simp at i
  show WT j (by simp) λy _ r=>q y e (λc o F c2 M Z t=>r.extBut _ _ F (u _ _ Z (g.extBut _ _ c2 (f.extBut _ _ M (d.extBut _ _ F t))))) #[H,r.extBut _ _ ne h,i]
end
section
variable{Y:UZ}{w:Vf}{A:Vb}{E:Ut->UC->Prop}{s:UC}
def wG(D:Z8 J TI TO i1 i2 l1 l2)(L:abe s.heap J TI TO .none)
  (g:IsPair s.heap TI (.ref i1) (.ref i2)) (f:IsPair s.heap TO a b) (m:itAt b1 s.heap i1 l1 n) (l:itAt b2 s.heap i2 l2 n) (e:sqAt b1 s.heap l1 xs) (d:sqAt b2 s.heap l2 ys) (j:xs[n]?=M x) (i:ys[n]?=M y)
  (q:∀k,abe k J TI TO (rawInt s.heap.objs.size)->IsPair k TO x y->itAt b1 k i1 l1 (n+1)->itAt b2 k i2 l2 (n+1)->IsPair k s.heap.objs.size x y->k.objs.size=s.heap.objs.size+1->
   (∀c o,c≠J->c≠TO->c≠i1->c≠i2->s.heap.get? c=M o->k.get? c=M o)->Q (M (.ref s.heap.objs.size)) {s with heap:=k}):
  wpAny (model Y w) A (pyNext (.ref J)) Q E s:=by
 let h:s.TypeIs (.ref J) "zip":=#[_,L,W];ext pyNext;show CL (ajw (V4 h F.slot_zip_next ?_));show Wf F.slot_zip_next h F.entry_zip_next (BJ D L g f m l e d j i λk C B v u t r p=>UD (q k C B v u t r p)) (F.args_zip_next_1 _)
def uQ(p:A.handled=P)(D:Z8 y TI TO J C l1 l2)(x:abe s.heap y TI TO .none)
  (h:IsPair s.heap TI (.ref J) (.ref C)) (g:IsPair s.heap TO a b) (v:itAt b1 s.heap J l1 n) (u:itAt b2 s.heap C l2 n) (f:sqAt b1 s.heap l1 xs) (d:sqAt b2 s.heap l2 ys) (i:xs[n]?=P\/ys[n]?=P)
  (q:∀k,(∀c o,c≠y->c≠TO->c≠J->c≠C->s.heap.get? c=M o->k.get? c=M o)->Q P {s with heap:=k}):wpAny (model Y w) A (pyNext (.ref y)) Q E s:=by
 let j:s.TypeIs (.ref y) "zip":=#[_,x,W];ext pyNext;show CL (ajw (V4 j F.slot_zip_next ?_));show Wf F.slot_zip_next j F.entry_zip_next (C8 p D x h g v u f d i λk e m r=>?_) (F.args_zip_next_1 _);let(o,l,t):=r;show CL (YT #[o,l,t] isSubtype_stop (UD (q _ m)))
end
abbrev RF(h:Heap)(b:Bool)(a:I):Heap:=h.push {cls:=.type (uR b),data:=.fields #v[.ref a,.int 0 0]}
abbrev RG(h:Heap)(e d:Bool)(b a:I):Heap:=(RF h e b).push {cls:=.type (uR d),data:=.fields #v[.ref a,.int 0 0]}
abbrev Qy(h:Heap)(b e:Bool)(a d:I):Heap:=(RG h b e a d).push {cls:=.type "tuple",data:=.seq #v[.ref h.objs.size,.ref (RF h b a).objs.size]}
abbrev Pz(h:Heap)(e d:Bool)(b a:I):Heap:=(Qy h e d b a).push {cls:=.type "tuple",data:=.seq #v[.none,.none]}
abbrev SB(h:Heap)(e d:Bool)(b a:I):Heap:=(Pz h e d b a).push {cls:=.type "zip",data:=.fields #v[.none,.bool R,.bool R,.ref (RG h e d b a).objs.size,.ref (Qy h e d b a).objs.size]}
theorem pE(e f:Bool)(a b:I)(xs n:Array U):
  Meets (Builtin.«zip.__new__» #[[.type "zip",.ref a,.ref b],[]]) (λ_ R s=>sqAt e s.heap a xs/\sqAt f s.heap b n/\R (.ok (.ret (.ref (Pz s.heap e f a b).objs.size))) {s with heap:=SB s.heap e f a b}):=
 .of_wp λp w A R s h=>by
  let(r,g,d,o,q):=s;let(j,i,h):=h;let t:=sub_zip;let m:sqAt e (UC.heap #[r,g,d,o,q]) a xs:=j;let l:sqAt f (UC.heap #[r.push {cls:=.type (uR e),data:=.fields #v[.ref a,.int 0 0]},g,d,o,q]) b n:=sqAt.psh i _
  wp_walk using zc m,zc l
  show#[_,W,h]
section
variable{Y:UZ}{w:Vf}{A:Vb}{E:Ut->UC->Prop}{s:UC}
def DE(e:h.get? it=M {cls:=.type (uR b),data:=.fields #v[.ref l,.int 0 0]}):itAt b h it l 0:=by
 cases b with
 |true=>show#[_,e,W,W]
 |false=>show#[_,e,W,W]
def BN(j:sqAt b1 s.heap l1 xs)(i:sqAt J s.heap C ys)
  (q:∀k,abe k (s.heap.objs.size+4) (s.heap.objs.size+2) (s.heap.objs.size+3) .none->IsPair k (s.heap.objs.size+2) (.ref s.heap.objs.size) (.ref (s.heap.objs.size+1))->
   IsPair k (s.heap.objs.size+3) .none .none->itAt b1 k s.heap.objs.size l1 0->itAt J k (s.heap.objs.size+1) C 0->(∀c o,s.heap.get? c=M o->k.get? c=M o)->Q (.ref (s.heap.objs.size+4)) {s with heap:=k}):
  wpAny (model Y w) A (call (.type "zip") [.ref l1,.ref C]) Q E s:=by
 show callType_new F.called_zip () (F.typeCall_zip_2 _ _) (F.newCall_zip_2 _ _) (λobj=>F.args_object_init_3 obj _ _) F.entry_zip_new (pE b1 J l1 C xs ys) #[j,i,?_];let h:(RF s.heap b1 l1).objs.size=s.heap.objs.size+1:=cv ..;let g:(RG s.heap b1 J l1 C).objs.size=s.heap.objs.size+2:=by rw[cv,h]
 let f:(Qy s.heap b1 J l1 C).objs.size=s.heap.objs.size+3:=by rw[cv,g]
 let n:(Pz s.heap b1 J l1 C).objs.size=s.heap.objs.size+4:=by rw[cv,f]
 let u:∀c o,s.heap.get? c=M o->(RF s.heap b1 l1).get? c=M o:=λc o e=>b3 _ e;let m:∀c o,(RF s.heap b1 l1).get? c=M o->(RG s.heap b1 J l1 C).get? c=M o:=λc o e=>b3 _ e;let d:∀c o,(RG s.heap b1 J l1 C).get? c=M o->(Qy s.heap b1 J l1 C).get? c=M o:=λc o e=>b3 _ e;let b:∀c o,(Qy s.heap b1 J l1 C).get? c=M o->(Pz s.heap b1 J l1 C).get? c=M o:=λc o e=>b3 _ e;let a:∀c o,(Pz s.heap b1 J l1 C).get? c=M o->(SB s.heap b1 J l1 C).get? c=M o:=λc o e=>b3 _ e;let l:(SB s.heap b1 J l1 C).get? (Pz s.heap b1 J l1 C).objs.size=M _:=cc _ W;let p:=a _ _ (cc _ W);let r:=a _ _ (b _ _ (cc _ W));let t:=a _ _ (b _ _ (d _ _ (cc _ W)));let v:=a _ _ (b _ _ (d _ _ (m _ _ (cc _ W))));rw[g,f,n]at l;rw[h,g]at r;rw[f]at p;rw[h]at t;rw[n];show#[#[_,l,W],q _ l r p (DE v) (DE t) λc o e=>a _ _ (b _ _ (d _ _ (m _ _ (u _ _ e))))]
end
end PySem
namespace L3
open PySem PySem.Spec PyProof.Rows L2
def BW(b:Bool)(K:lD)(H:Hp)(a:I)(xs:G V):Prop:=match b with
 |true=>Ya K H a xs
 |false=>Yr K H a xs
def Sr(K:lD)(d b:Bool)(a c:I):It:=
 #[λi H=>∃xs ys x y,BW d K H a xs/\BW b K H c ys/\xs[i]?=M x/\ys[i]?=M y,
  λi H v e=>∃p x y,H p=P/\v=.ref p/\(∀xs,BW d K H a xs->xs[i]?=M x)/\(∀ys,BW b K H c ys->ys[i]?=M y)/\e=aX H p (.tup [x,y]),
  λi H=>∃xs ys,BW d K H a xs/\BW b K H c ys/\(xs.length<=i\/ys.length<=i)]
def GP(I:Inv X pins σ H s)(h:Yr X.K H a xs)(g:Yr X.K H a ys):xs=ys:=by
 let(d,f,(o,k,e1,_,n,j),_):=I.list h;let(b,e,(l,k2,e2,_,m,i),_):=I.list g;rw[e1]at e2;ext e2;let:d=b:=by
  let q:d.toArray=b.toArray:=by injection j.symm.trans i
  simpa using q
 subst this;show f.inj e
def mn(I:Inv X pins σ H s)(h:BW b X.K H a xs):∃c,Vals xs c/\sqAt b s.heap a c.toArray:=by
 cases b with
 |true=>let(c,e,p,d):=I.tuple h;show#[c,e,p]
 |false=>let(c,e,p,d):=I.list h;show#[c,e,p.isList]
def zj(I:Inv X pins σ H s)(e:BW b X.K H a xs)(d:BW b X.K H a ys):xs=ys:=by
 cases b with
 |true=>show IA I e d
 |false=>show GP I e d
def Az{ch:G Uz}(I:Inv X pins σ H s)(f:∀b∈ch,lA X pins H b)
  (k:∀b u,b∉ch->s.heap.get? b=M u->C.get? b=M u):Inv X pins σ H {s with heap:=C,toks:=J}:=by
 let d:∀b u,H b=M u->b∉ch:=λb u e z=>by rw[(f b z).1]at e;ext e
 show I.step (λb i=>?_) (λb u _ _ a e _=>k b u a e) (λb u _ _ a e _=>#[u.slots,k b u a e]) (λ_ _ _ _ n=>n)
  (λb u a e=>#[u,k b u a e]) (λ_ _ e=>e) (λ_ _ _ e=>e) (λb w e=>#[#v[],by rw[e];simp]) (λm hm=>?_) (λb u e=>?_) I.bare
 .let(_,p,_,o,l,j):=f b i;show#[o,p,l,j]
 .let(g,es,t,h,r):=hm;show#[g,es,t,k _ g (λz=>(f _ z).2.1 W) h,r]
 .show(I.VQ b u e).YF (λc v a q=>k c v ?_ q) (λ_ q=>q) λ_ _ q=>q
  rcases a with z|z
  .rw[z];show d b u e
  .show d c _ z
theorem BZ{K:lD}{V}(b1 b2:Bool)(z TI TO A r T S:Uz)(D:Z8 z TI TO A r T S):
  Turn Pz0 w K (.Tuple elts V tp) (Sr K b1 b2 T S) [z,TI,TO,A,r] z (λi h=>abe h z TI TO .none/\IsPair h TI (.ref A) (.ref r)/\(∃a b,IsPair h TO a b)/\itAt b1 h A T i/\itAt b2 h r S i) where
 mem:=by simp
 obj:=λi h e b d=>by
  let(j,f,(a,c,l),p,m):=e;simp only[U5,V0,or_false]at d;rcases d with rfl|rfl|rfl|rfl|rfl
  .show#[_,j,λv q=>by cases(show Data.fields _=Data.cell v from q)]
  .show#[_,f,λv q=>by cases(show Data.seq _ _=Data.cell v from q)]
  .show#[_,l,λv q=>by cases(show Data.seq _ _=Data.cell v from q)]
  .show p.live
  .show m.live
 keep:=λi h h' e k=>by let(j,f,(a,c,l),p,m):=e;show#[k z (by simp) _ j,k TI (by simp) _ f,#[a,c,k TO (by simp) _ l],p.to λo q=>k A (by simp) o q,m.to λo q=>k r (by simp) o q]
 item:=by
  intro X hP Z hK hc i g s σ H E I L e hg;subst hP Z hK;let(j,f,(a,c,l),p,m):=e;let(xs,ys,x,y,G,F,hx,hy):=hg;let(Vm,O,R):=mn I G;let(C,N,Q):=mn I F;let(u,hu,ru):=O.get hx;let(t,ht,rt):=N.get hy;show wG D j f l p m R Q (by simpa using hu) (by simpa using ht) λk z1 o1 g1 g2 pr sz J=>#[_,W,?_];show wpAny_letOwnedTupleGo_zip z1 λB z2 e2=>?_;let U:=b4 j;let hIl:=b4 f;let hOl:=b4 l;let h1l:A<s.heap.objs.size:=by let(_,q,_):=p.live;show b4 q
  let h2l:r<s.heap.objs.size:=by let(_,q,_):=m.live;show b4 q
  let hn:=I.VQ.fresh (UG _);let V:∀b o,b∉[z,TI,TO,A,r]->s.heap.get? b=cL o->B.get? b=cL o:=λb o d q=>by simp only[U5,V0,or_false,not_or]at d;show(e2.2 b d.1).trans (J b o d.1 d.2.2.1 d.2.2.2.1 d.2.2.2.2 q)
  let hT2:=(e2.2 _ (VI U)).trans pr
  let I2:Inv X g σ (aX H s.heap.objs.size (.tup [x,y])) {s with heap:=B}:=
   I.abw L V (UG _) #[by show 2<=UK;decide,[u,t],.cons ru (.cons rt .nil),#[_,hT2,#[W,_,W],W]]
  let M:∀b o,b≠z->k.get? b=cL o->B.get? b=cL o:=λb o n q=>(e2.2 b n).trans q;show#[.ref s.heap.objs.size,_,I2,W,#[_,x,y,hn,W,λzs hs=>by rw[zj I hs G];show hx,λzs hs=>by rw[zj I hs F];show hy,W],
   #[z2,M _ _ D.TIz (J _ _ D.TIz D.TITO D.TIi1 D.TIi2 f),#[_,_,M _ _ D.TOz o1],g1.to λo q=>M _ _ D.i1z q,g2.to λo q=>M _ _ D.i2z q],λb d=>?_]
  let hb2:b<s.heap.objs.size:=by simp only[U5,V0,or_false]at d;rcases d with rfl|rfl|rfl|rfl|rfl<;>assumption
  rw[ay (U3 hb2)];show(L b d).1
 done:=by
  intro X hP Z hK hc i g s σ H E I L e hg;subst hP Z hK;let(j,f,(a,c,l),p,m):=e;let(xs,ys,G,F,Y):=hg;let(Vm,O,R):=mn I G;let(C,N,Q):=mn I F;let hl1:=O.length;let hl2:=N.length;let hd:Vm.toArray[i]?=Ld\/C.toArray[i]?=Ld:=by
   rcases Y with q|q
   .show .inl (by simp;ext)
   .show .inr (by simp;ext)
  show uQ (I.ok.hd hc) D j f l p m R Q hd λk J=>#[W,?_];show Az I L λb o d q=>by simp only[U5,V0,or_false,not_or]at d;show J b o d.1 d.2.2.1 d.2.2.2.1 d.2.2.2.2 q
 self:=λ_ _ _ _ _ e h=>afo e.1 h
def AC(n b a:Nat)(e:b<n)(d:a<n):Z8 (n+4) (n+2) (n+3) n (n+1) b a:=by constructor<;>(show(_:Nat)≠_;ext)
def KM(K:lD)(g:TA):TI:=λd H R=>g d H λf b=>∃a c b1 e,f=[.ref a,.ref c]/\(∃xs,BW b1 K b a xs)/\(∃ys,BW e K b c ys)/\R (Sr K b1 e a c) b
def Gv:VF "zip"=M (.type "zip"):=by left
def Pn{k}(P:Gl X "zip")(hm:X.mg "zip"=Ld)(x:PA X [l,m] ta)(M:UW [l,m] X.env=(Ux,eval l X.env)::UW [m] X.env:=by rfl)(N:(backTo pos (UW [m] X.env)).any (·.1)=Ux:=by rfl):
  PI X (.Tuple elts k tp) (.Call (.Name "zip" p) [l,m] [] pos) (KM X.K ta):=by
 intro d s w H R I h;show Call_ (kI I P hm Gv (Wd (bT (x pos d s w H _ I h) λZ f #[vs,v,i,E,F]=>?_) M N));let(a,c,U,T,e,(xs,B),(Y,A),q):=F;subst e;let(u,t,rfl,C,rt):=Fq E;ext C;ext rt;let(Vm,rx,o):=mn i B;let(L,ry,n):=mn i A;let S:∀b∈[f.heap.objs.size+4,f.heap.objs.size+2,f.heap.objs.size+3,f.heap.objs.size,f.heap.objs.size+1],lA X d v b:=λb r=>by
  let g:f.heap.objs.size<=b:=by simp only[U5,V0,or_false]at r;let Q:=r;ext
  show i.aaS g (i.VQ.fresh g)
 show BN o n λh1 j J G z y O=>?_;show afo j ?_;show#[f.heap.objs.size+4,_,_,_,v,W,i.kept O,BZ U T _ _ _ _ _ a c (AC _ _ _ o.lt n.lt),#[j,J,#[_,_,G],z,y],S,q]
def OG:U4->Bool
 |.Starred _ _=>S
 |_=>R
def rE(e:U4)(es:G U4)(env:Env)(h:OG e=R):UW (e::es) env=(R,eval e env)::UW es env:=by ext e<;>first|rfl|ext h
def kr:G D->G D->G D
 |x::r,y::q=>.tuple [x,y]::kr r q
 |_,_=>[]
theorem wa:∀(xs a:G D),(kr xs a).length=min xs.length a.length
 |[],_=>by simp[kr]
 |_::_,[]=>by simp[kr]
 |_::r,_::q=>by simp only[kr,UO,wa r q];ext
theorem uY:∀(xs a:G D) (i:Nat),(kr xs a)[i]?=(xs[i]?).bind λx=>(a[i]?).map λy=>.tuple [x,y]
 |[],_,_=>by simp[kr]
 |x::r,[],i=>by ext i<;>simp[kr]
 |x::r,y::q,0=>by simp[kr]
 |x::r,y::q,i+1=>by simp only[kr,aaM];show uY r q i
section
variable{K:lD}{E:XK}{B O Z:bF}{T H X:Hp}{N:L2.St}{Y L:aQ}{v:V}
def aaU(b:Bool)(O:bF)(K:lD)(H:Hp)(a:I)(xs:G V):Prop:=match b with
 |true=>YE O K H a xs
 |false=>ZM O K H a xs
def aaU.ev(h:aaU b O K H a xs)(e:Ev O H Z X):aaU b Z K X a xs:=by
 cases b with
 |true=>show YE.ev h e
 |false=>show ZM.ev h e
def aaU.at(h:aaU b O K H a xs):BW b K H a xs:=by
 cases b with
 |true=>show(show YE O K H a xs from h).1
 |false=>show(show ZM O K H a xs from h).1.sq
def Nd(h:aaU b1 O K H a xs)(hd:Wb O K H xs ds)(g:aaU b2 O K H c ys)(A:Wb O K H ys es):wT K (Sr K b1 b2 a c) O H (kr ds es):=by
 intro Z X e n;let f:=h.ev e;let d:=hd.ev e;let l:=g.ev e;let j:=A.ev e;rw[wa];show#[λi hi=>?_,#[xs,ys,f.at,l.at,?_]]
 .let u:i<ds.length:=by ext
  let r:i<es.length:=by ext
  let(x,z,dx):=d.get (UI u);let(y,w,C):=j.get (UI r);show#[#[xs,ys,x,y,f.at,l.at,z,w],?_];rintro t F ⟨p,I,G,b,rfl,Q,J,rfl⟩;let o:=Q xs f.at;let m:=J ys l.at;rw[z]at o;rw[w]at m;ext o;ext m;show#[bz b _,.tuple [ds[i],es[i]],?_,.tup #[Ya.of aC,λq=>a7 q (n p b)] (.cons (dx.ev (Ev.grow (bz b _))) (.cons (C.ev (Ev.grow (bz b _))) .nil))];rw[uY,UI u,UI r];rfl
 .rw[hd.length,A.length];ext
def Li(h:DV O K H v d)(q:dY d=M ds):∃b a xs,v=.ref a/\aaU b O K H a xs/\Wb O K H xs ds:=by
 cases h with
 |tup h e=>ext q;show#[S,_,_,W,h,e]
 |lst h e=>ext q;show#[R,_,_,W,h,e]
 |_=>ext q
def AN(c:FA):FI:=λY=>(c Y).bind λa=>(Res.VD (nX a.2 a.1)).bind λb=>match b.1 with
 |[d,e]=>(Res.VD (dY d)).bind λds=>(Res.VD (dY e)).bind λes=>.ok (kr ds es,b.2)
 |_=>.bad
def Mx(h:AO K E ta fa):IO K E (KM K ta) (AN fa):=by
 intro B T O N H Y I R w;show h B T O N H Y _ R (w.bind.imp λa b J Q F e1 A l=>?_);let((ds,g),q,b):=b.VD;let(C,e2,R2,o):=pX A l q;dsimp only at b;cases o with
 |nil=>show b.elim
 |cons n d=>
  cases d with
  |nil=>show b.elim
  |cons d m=>
   cases m with
   |cons _ _=>show b.elim
   |nil=>let(es,j,b):=WR.VD b;let(fs,i,b):=WR.VD b;let(u,z,xs,rfl,f,r):=Li n j;let(t,y,G,rfl,e,p):=Li d i;show#[z,y,u,t,W,#[_,f.at],#[_,e.at],b C _ F (e1.trans e2) R2 (Nd f r e p)]
def eO(d e:D):bg RV:=match d,e with
 |.str z,.int i=>if z.length<=1000000 then(jV z.cps.toList i).map λc=>.fz (.str #[#v[c]])else P
 |_,_=>P
def Jx:iZ K (Q2 K) eO:=by
 intro O H x y j f h Q n b a e q;unfold eO at e;split at e
 .split at e
  .rename_i z i d
   cases g:jV z.cps.toList i with
   |none=>rw[g]at e;ext e
   |some c=>rw[g]at e;ext e;ext b;ext a;show .inr (.inr #[z,i,c,W,W,Ad d,g,q.at (.str _)])
  .ext e
 .ext e
end
end L3
namespace L3
open PySem L2
def Tn(N C:aQ->Prop)(T:RV->Prop):Res Fl->Prop
 |.ok (.nx a)=>N a
 |.ok (.ct a)=>C a
 |.ok (.rt v)=>T v
 |_=>False
structure Go(r:Res Fl)(N C:aQ->Prop)(T:RV->Prop):Prop where
 out:Tn N C T r
section
variable{ρ ρ1 ρ2 ρ3:aQ}{f g:FS}{fe:FE}{pv:PV}{d:D}{rv:RV}{ds:bb D}{N C:aQ->Prop}{T:RV->Prop}
def Go.eq(e:r=r')(h:Go r' N C T):Go r N C T:=by rw[e];show h
def Go.imp(h:Go r N C T)(b:∀ρ,N ρ->N' ρ)(e:∀ρ,C ρ->C' ρ)(a:∀v,T v->T' v):Go r N' C' T':=by
 show#[?_];let h:=h.out;cases r with
 |bad=>show h
 |er x=>show h
 |ok i=>
  cases i with
  |nx r=>show b _ h
  |ct r=>show e _ h
  |rt v=>show a _ h
  |bk r=>show h
def FB(h:Go (f ρ) (λr=>Go (g r) N C T) C T):Go (aZ f g ρ) N C T:=by
 show#[?_];let h:=h.out;ext aZ;cases q:f ρ with
 |bad=>rw[q]at h;show h.elim
 |er x=>rw[q]at h;show h.elim
 |ok a=>
  rw[q]at h;cases a with
  |nx r=>show(show Go (g r) N C T from h).out
  |ct r=>show h
  |rt v=>show h
  |bk r=>show h.elim
def zq(h:c ρ=.ok (b,ρ1))(a:b=S->Go (f ρ1) N C T)(e:b=R->Go (g ρ1) N C T):Go (ja c f g ρ) N C T:=by
 ext ja;rw[h,eh];cases b with
 |true=>show a W
 |false=>show e W
theorem DP(b:fe ρ=.ok (pv,ρ1))(a:gt pv ρ1=.ok ρ2)(h:N ρ2):Go (dL fe gt ρ) N C T:=.eq (yt b a W) #[h]
theorem oJ(a:fe ρ=.ok (pv,ρ1))(h:N ρ1):Go (lU fe ρ) N C T:=.eq (zG a) #[h]
theorem dw(b:fe ρ=.ok (pv,ρ1))(a:Bu ρ1 pv=M rv)(h:T rv):Go (cb fe ρ) N C T:=.eq (tY b a) #[h]
theorem oA(h:N ρ):Go (cG ρ) N C T:=#[h]
theorem y9(I:Nat->aQ->Prop):∀(ds:G D) (k:Nat) (ρ:aQ),I k ρ->(∀i d ρ,ds[i]?=M d->I (k+i) ρ->∃ρ1,gt (.fz d) ρ=.ok ρ1/\Go (b ρ1) (I (k+i+1)) (I (k+i+1)) T)->Go (nU gt b ds ρ) (I (k+ds.length)) C T
 |[],k,ρ,h0,_=>#[h0]
 |d::r,k,ρ,h0,u=>by
  let(ρ1,o,a):=u 0 d ρ W h0;let a:=a.out;let l:∀j,I (k+1) j->Go (nU gt b r j) (I (k+(r.length+1))) C T:=λj h=>by
   let e:k+(r.length+1)=k+1+r.length:=by ext
   rw[e];show y9 I r (k+1) j h λi t m w n=>?_;let e:k+1+i=k+(i+1):=by ext
   rw[e]at n⊢;show u (i+1) t m (by simpa using w) n
  show#[?_];show Tn _ _ _ ((gt (.fz d) ρ).bind _);rw[o,eh];cases q:b ρ1 with
  |bad=>rw[q]at a;show a.elim
  |er x=>rw[q]at a;show a.elim
  |ok p=>
   rw[q]at a;cases p with
   |nx r=>show(l _ a).out
   |ct r=>show(l _ a).out
   |rt v=>show a
   |bk r=>show a.elim
def Cs(I:Nat->aQ->Prop)(k:o ρ=.ok (ds,ρ1))(j:I 0 ρ1)(a:∀i d ρ,ds[i]?=M d->I i ρ->∃ρ1,gt (.fz d) ρ=.ok ρ1/\Go (b ρ1) (I (i+1)) (I (i+1)) T)(e:∀c,I ds.length c->N c):Go (kY o gt b ρ) N C T:=by let:=y9 (C:=C) I ds 0 ρ1 j (by simpa using a);rw[XY]at this;show .eq (x4 k) (this.imp e (λ_ h=>h) λ_ h=>h)
def mQ(a:ds.map (λd=>M (.fz d))++UH (n - ds.length) P=ρ)(h:Go (g ρ) (λ_=>T (.fz .none)) (λ_=>False) T):∃rv,eD n g ds=.ok rv/\T rv:=by
 let h:=h.out;ext eD;rw[a];cases q:g ρ with
 |bad=>rw[q]at h;show h.elim
 |er x=>rw[q]at h;show h.elim
 |ok b=>
  rw[q]at h;cases b with
  |nx r=>show#[_,W,h]
  |ct r=>show h.elim
  |rt v=>show#[_,W,h]
  |bk r=>show h.elim
def fW(a:ds.map (λd=>M (.fz d))++UH (n - ds.length) P=ρ)(h:Go (g ρ) (λ_=>RV.fz .none=v) (λ_=>False) (λr=>r=v)):eD n g ds=.ok v:=by let(rv,e,b):=mQ (T:=λr=>r=v) a h;rw[e,b]
theorem b9(b:fe ρ=.ok (pv,ρ1))(a:gt pv ρ1=.ok ρ2)(c:ρ2=ρ3)(h:Go (g ρ3) N C T):Go (aZ (dL fe gt) g ρ) N C T:=.eq (D4 (yt b a c)) h
theorem dJ(b:fe ρ=.ok (pv,ρ1))(a:Bu ρ1 pv=M rv)(h:T rv):Go (aZ (cb fe) g ρ) N C T:=.eq (C7 (tY b a)) #[h]
theorem cK(h:Go (g ρ) N C T):Go (aZ cG g ρ) N C T:=.eq W h
def Bk:aZ (aZ f1 f2) g ρ=aZ f1 (aZ f2 g) ρ:=by
 ext aZ;cases f1 ρ with
 |bad=>rfl
 |er x=>rfl
 |ok a=>ext a<;>rfl
theorem yz(h:Go (aZ f1 (aZ f2 g) ρ) N C T):Go (aZ (aZ f1 f2) g ρ) N C T:=.eq Bk h
def gD(i:c ρ=.ok (b,ρ1))(a:b=S->Go (aZ f1 g ρ1) N C T)(h:b=R->Go (aZ f2 g ρ1) N C T):Go (aZ (ja c f1 f2) g ρ) N C T:=by
 let e:aZ (ja c f1 f2) g ρ=if b=S then aZ f1 g ρ1 else aZ f2 g ρ1:=by unfold aZ ja;rw[i,eh];ext b<;>rfl
 show .eq e ?_;cases b with
 |true=>show a W
 |false=>show h W
theorem qp(I:Nat->aQ->Prop)(j:o ρ=.ok (ds,ρ1))(h:I 0 ρ1)(a:∀i d ρ,ds[i]?=M d->I i ρ->∃ρ1,gt (.fz d) ρ=.ok ρ1/\Go (b ρ1) (I (i+1)) (I (i+1)) T)(e:∀c,I ds.length c->Go (g c) N C T):Go (aZ (kY o gt b) g ρ) N C T:=
 FB (Cs I j h a e)
theorem rM(I:aQ->Prop)(P:Nat->D->Prop):∀(ds:G D) (k:Nat) (ρ:aQ) (acc:G D),I ρ->acc.length+ds.length<=1000000->(∀i d,ds[i]?=M d->∀ρ,I ρ->∃x c,jv gt J fe d ρ=.ok (M x,c)/\I c/\P (k+i) x)->
  ∃xs,dj gt J fe ds ρ acc=.ok (acc++xs)/\xs.length=ds.length/\∀i x,xs[i]?=M x->P (k+i) x
 |[],k,ρ,acc,_,_,_=>#[[],by show Res.ok acc=_;simp,W,λi x h=>by simp at h]
 |d::r,k,ρ,acc,h0,v,u=>by
  let(x,c,n,m,l):=u 0 d W ρ h0;rw[UO]at v;let(xs,q,p,o):=rM I P r (k+1) c (acc++[x]) m (by rw[UE];simp;ext) λi t w a j=>by
   let e:k+1+i=k+(i+1):=by ext
   rw[e];show u (i+1) t (by simpa using w) a j
  show#[x::xs,?_,by rw[UO,p,UO],λi y b=>?_]
  .rw[pU n ()];show dj gt J fe r c (acc++[x])=_;rw[q,Ve];rfl
  .cases i with
   |zero=>cases(show M x=M y from b);show l
   |succ i=>
    let e:k+(i+1)=k+1+i:=by ext
    rw[e];show o i y (by simpa using b)
def uS(I:aQ->Prop)(P:Nat->D->Prop)(e:I ρ)(b:ds.length<=1000000)(a:∀i d,ds[i]?=M d->∀ρ,I ρ->∃x c,jv gt ft fe d ρ=.ok (M x,c)/\I c/\P i x):
  ∃xs,j7 (dj gt ft fe ds ρ [])=.ok xs/\xs.length=ds.length/\∀i x,xs[i]?=M x->P i x:=by
 let(xs,l,j,h):=rM I P ds 0 ρ [] e (by simpa using b) (by simpa using a);show#[xs,by rw[l];rfl,j,by simpa using h]
theorem sZ{α:Type}{f:α->D}{Q:Nat->α->Prop}:∀(xs:G D) (k:Nat),(∀i x,xs[i]?=M x->∃a,x=f a/\Q (k+i) a)->∃as:G α,xs=as.map f/\∀i a,as[i]?=M a->Q (k+i) a
 |[],_,_=>#[[],W,λi a h=>by simp at h]
 |x::r,k,h=>by
  let(a,e,q):=h 0 x W;let(as,e2,l):=sZ (f:=f) (Q:=Q) r (k+1) λi y m=>by
   let e:k+1+i=k+(i+1):=by ext
   rw[e];show h (i+1) y (by simpa using m)
  show#[a::as,by rw[e,e2];rfl,λi b j=>?_];cases i with
  |zero=>cases(show M a=M b from j);show q
  |succ i=>
   let e:k+(i+1)=k+1+i:=by ext
   rw[e];show l i b (by simpa using j)
def Sl(c:UB.strOk a=S)(e:UB.strOk b=S):cj (.str a) (.str b)=M (.fz (.bool (a==b))):=by ext cj;rw[show j8 (.str a)=S by ext j8;rw[show UB.canLay0 (.str a)=S from c];rfl,show UB.canLay0 (.str b)=S from e,Wn,ax W];rfl
def LJ(b:UB.strOk a=S):cj (.str a) (.str a)=M (.fz (.bool S)):=by rw[Sl b b,eg]
def zr(c:UB.strOk a=S)(e:UB.strOk b=S)(h:(a==b)=R):cj (.str a) (.str b)=M (.fz (.bool R)):=by rw[Sl c e,h]
theorem ur{α:Type}{xs:G α}{i:Int}{v:α}(a:0<=i)(h:xs[i.toNat]?=M v):jV xs i=M v:=Np a h
def Hc(a:0<=i)(h:ds[i.toNat]?=M d):aO (.list ds) (.int i)=M (.fz d):=by show(jV ds i).map RV.fz=_;rw[ur a h];rfl
def Hm{s:G Nat}(e:s.Pairwise (·<·))(h:∀k∈s,k<n):s.length<=n:=by
 let:∀(s:G Nat) (a:Nat),s.Pairwise (·<·)->(∀k∈s,a<=k/\k<n)->s.length<=n - a:=by
  intro s
  induction s with
  |nil=>intro a _ _;show Vq _
  |cons x r i=>intro a e h;let(l,j):=X3.mp e;let m:=h x UP;let:=i (x+1) j λk b=>#[l k b,(h k (UM _ b)).2];rw[UO];ext
 show this s 0 e λk b=>#[Vq _,h k b]
def yS(c:fr ρ=.ok (o,ρ1))(hd:nX ρ1 o=M ([d,e],ρ2))(b:dY d=M es)(a:dY e=M fs):AN fr ρ=.ok (kr es fs,ρ2):=by ext AN;rw[c,eh,hd,aP,eh];dsimp only;rw[b,aP,eh,a,aP,eh]
end
end L3
namespace L3
open PySem PySem.Spec PyProof.Rows L2 PySem.Builtin PySem.Builtin.Str
section
variable{K:lD}{E:XK}{B O X:bF}{T H N:Hp}{L:L2.St}{J Y:aQ}{v:V}
def TH(K:lD)(r:V->G V->Hp->VK->Prop)(f:Str->G D->bg RV):Prop:=∀(O:bF) (H:Hp) (z:Str) (xs:G V) (ds:G D) (a:RV) (Q:VK),lg O H->Paired (DX O K H) xs ds->f z ds=M a->Fin O K H Q a->r (.str z) xs H Q
end
end L3
namespace L2
open PySem PySem.Spec PyProof.Rows
section
variable{Y:Type}[DecidableEq Y]
def i9(b:G (Y×V))(k:Y):z V:=(b.find? λa=>decide (a.1=k)).map (·.2)
def ip(b:G (Y×V))(k:Y)(v:V):G (Y×V):=
 if(b.any λa=>decide (a.1=k))=S then b.map (λa=>if a.1=k then(a.1,v)else a)else b++[(k,v)]
def lX(b:G (Y×V))(k:Y):G (Y×V):=b.filter λa=>decide (a.1≠k)
def pM{k:Y}(e:p.1=k):i9 (p::r) k=M p.2:=by simp[i9,Vl,e]
def pI{k:Y}(e:¬p.1=k):i9 (p::r) k=i9 r k:=by simp[i9,Vl,e]
theorem wC(k:Y):∀a:G (Y×V),(a.any λb=>decide (b.1=k))=(i9 a k).isSome
 |[]=>rfl
 |p::r=>by
  rw[XD];by_cases e:p.1=k
  .simp only[pM e,a4 e,Xn,abG]
  .rw[pI e,a5 e,Yl];show wC k r
def jz(a:G (Y×V))(k:Y)(v:V):(ip a k v).length<=a.length+1:=by
 ext ip;split
 .rw[Uy];ext
 .rw[UE,UO,V7];ext
def Yi.Yh(r:Yi o u):o.isSome=u.isSome:=by
 cases o with
 |none=>cases u with
  |none=>rfl
  |some _=>show(show False from r).elim
 |some _=>cases u with
  |none=>show(show False from r).elim
  |some _=>rfl
def KV.val{i:G (Y×V)}{c:G (Y×U)}(r:KV i c)(k:Y):Yi (i9 i k) (valueAt c k):=by
 unfold KV at r
 induction r with
 |nil=>show True.intro
 | @cons p q l g h t j=>
  let(d,f):=h;by_cases e:p.1=k
  .let a:q.1=k:=d.symm.trans e
   let b:valueAt (q::g) k=M q.2:=by simp[valueAt,Vl,a]
   rw[pM e,b];show f
  .let a:¬q.1=k:=λz=>e (d.trans z)
   let b:valueAt (q::g) k=valueAt g k:=by simp[valueAt,Vl,a]
   rw[pI e,b];show j
def KV.any(r:KV U7 vs)(k:Y):(U7.any λb=>decide (b.1=k))=vs.any λb=>decide (b.1=k):=by
 unfold KV at r
 induction r with
 |nil=>rfl
 |cons h t a=>rw[XD,XD,a,h.1]
def KV.aei(r:KV U7 vs)(k:Y)(b:RelV y u):
  KV (U7.map λc=>if c.1=k then(c.1,y)else c) (vs.map λc=>if c.1=k then(c.1,u)else c):=by
 unfold KV at r⊢
 induction r with
 |nil=>show .nil
 | @cons p q i g h t f=>
  rw[UU,UU];show .cons ?_ f;let(a,d):=h;by_cases e:p.1=k
  .rw[ax e,ax (a.symm.trans e)];show#[a,b]
  .rw[aE e,aE (λz=>e (a.trans z))];show#[a,d]
def KV.put(r:KV U7 vs)(k:Y)(a:RelV y u):KV (ip U7 k y) (stored vs k u):=by
 unfold ip stored;rw[r.any k];by_cases e:(vs.any λb=>decide (b.1=k))=S
 .rw[ax e,ax e];show r.aei k a
 .rw[aE e,aE e];show Paired.snoc r #[W,a]
def KV.drop(r:KV U7 vs)(k:Y):KV (lX U7 k) (without vs k):=by
 unfold KV at r⊢;unfold lX without
 induction r with
 |nil=>show .nil
 | @cons p q l j h t i=>
  let(d,f):=h;rw[W5,W5];by_cases e:p.1=k
  .let a:¬decide (p.1≠k)=S:=by simp[e]
   let b:¬decide (q.1≠k)=S:=by simp[d.symm.trans e]
   rw[aE a,aE b];show i
  .let g:¬q.1=k:=λz=>e (d.trans z)
   let a:decide (p.1≠k)=S:=by simp[e]
   let b:decide (q.1≠k)=S:=by simp[g]
   rw[ax a,ax b];show .cons #[d,f] i
def KV.keys{b:G (Y×U)}(r:KV U7 b):U7.map (·.1)=b.map (·.1):=by
 unfold KV at r
 induction r with
 |nil=>rfl
 |cons h t a=>rw[UU,UU,a,h.1]
theorem KV.length(r:KV U7 vs):U7.length=vs.length:=Paired.length r
theorem FZ(a:G (Y×V))(k:Y):(lX a k).length<=a.length:=Xw _ _
end
def sj(r:RelV (kV k) u):(cA a w).is k u=S:=by
 cases k with
 |inl i=>let(t,e):=(show∃t,u=Ut.int i t from r);subst e;show vB a w i t
 |inr x=>let(t,e):=(show∃t,u=Ut.str x t from r);subst e;show wH a w x t
theorem rH:∀{b:G b5} {us:G U},Vals (b.map kV) us->ItemsAre (cA a w) b us
 |[],_,r=>by rw[W4]at r;ext r;show .nil
 |k::b,_,r=>by
  rw[UU]at r;cases r with
  |cons h t=>show .cons (sj h) (rH t)
abbrev KT(H:Hp):G (G b5×V)->G (G b5×I×U)->Prop:=Paired λp q=>p.1=q.1/\H q.2.1=M (.tup (p.1.map kV))/\RelV p.2 q.2.2
def KT.val(r:KT H U7 xs)(k:G b5):Yi (i9 U7 k) ((atKey xs k).map (·.2)):=by
 induction r with
 |nil=>show True.intro
 | @cons p q j g h t i=>
  let(d,_,f):=h;by_cases e:p.1=k
  .let a:=d.symm.trans e
   let b:atKey (q::g) k=M q.2:=by simp[atKey,Vl,a]
   rw[pM e,b];show f
  .let a:¬q.1=k:=λz=>e (d.trans z)
   let b:atKey (q::g) k=atKey g k:=by simp[atKey,Vl,a]
   rw[pI e,b];show i
def KT.aei(r:KT H U7 xs)(k:G b5)(d:RelV y u):
  KT H (U7.map λc=>if c.1=k then(c.1,y)else c) (xs.map (putAt k u)):=by
 induction r with
 |nil=>show .nil
 | @cons p q j i h t g=>
  rw[UU,UU];show .cons ?_ g;let(a,b,f):=h;ext putAt;by_cases e:p.1=k
  .rw[ax e,ax (a.symm.trans e)];show#[a,b,d]
  .rw[aE e,aE (λz=>e (a.trans z))];show#[a,b,f]
def KT.put(r:KT H U7 xs)(k:G b5)(f:H b=M (.tup (k.map kV)))(a:RelV y u):
  KT H (ip U7 k y) (storedH xs k b u):=by
 let e:(U7.any λd=>decide (d.1=k))=(atKey xs k).isSome:=by rw[wC,(r.val k).Yh,X7]
 unfold ip storedH;rw[e];by_cases q:(atKey xs k).isSome=S
 .rw[ax q,ax q];show r.aei k a
 .rw[aE q,aE q];show Paired.snoc r #[W,f,a]
theorem KT.keeps(r:KT H U7 xs)(a:∀b ys,H b=M (.tup ys)->H' b=M (.tup ys)):KT H' U7 xs:=
 Paired.X9 r λ_ _ z=>#[z.1,a _ _ z.2.1,z.2.2]
section
variable{P:UZ}{w:Vf}{H:Hp}{h:Heap}{a:Uz}
theorem LR(ok:YO P w H h)(e:Rd H a u):ObjOk P w H h a u:=e.ok ok
theorem vi(ok:YO P w H h)(e:Rd H a (.dK o)):o.length<=UK/\(a==Wv)=R/\∃b,KV o b/\h.DictOf (cA P w) a b:=
 show ObjOk P w H h a (.dK o)from LR ok e
theorem vE(ok:YO P w H h)(e:H a=M (.dK o)):o.length<=UK/\(a==Wv)=R/\∃b,KV o b/\h.DictOf (cA P w) a b:=vi ok (.inl e)
def sT{c:G b5}(ok:YO P w H h)(e:H a=M (.tup (c.map kV))):(tupleKind (cA P w)).is h c a:=by let(_,g,r,o,f,(d,n,b),_):=(show ObjOk P w H h a (.tup (c.map kV))from ok a _ e);show#[o,g.toArray,n,f,d,b,by simpa using rH r]
def v8(ok:YO P w H h)(e:Rd H a (.dT C)):C.length<=UK/\(a==Wv)=R/\
  ∃xs,KT H C xs/\h.DictOfH (tupleKind (cA P w)) a xs:=by
 let(z,y,xs,r,o,es,n,j,i,g,f,d):=(show ObjOk P w H h a (.dT C)from LR ok e);show#[z,y,xs,r,o,es,n,j,i,g,f,λx b=>?_,d];let all:∀{l:G (G b5×V)} {m:G (G b5×I×U)},KT H l m->∀x∈m,(tupleKind (cA P w)).is h x.1 x.2.1:=by
  intro l m q
  induction q with
  |nil=>intro x b;show nomatch b
  | @cons p q B A u t v=>
   intro x b;rcases U5.mp b with e|b
   .subst e;show sT ok (by rw[<-u.1];show u.2.1)
   .show v x b
 show all r x b
theorem Q8(ok:YO P w H h)(e:H a=M (.dT o)):o.length<=UK/\(a==Wv)=R/\
  ∃xs,KT H o xs/\h.DictOfH (tupleKind (cA P w)) a xs:=v8 ok (.inl e)
end
def aaz(H:Hp)(a:I)(y:V)(r:z V):Prop:=
 (∃d k,Rd H a (.dK d)/\y=kV k/\r=i9 d k)\/∃d k b,Rd H a (.dT d)/\y=.ref b/\H b=M (.tup (k.map kV))/\r=i9 d k
def acJ(H:Hp)(a:I)(y v:V)(H':Hp):Prop:=
 (∃d k,H a=M (.dK d)/\y=kV k/\d.length<UK/\H'=aX H a (.dK (ip d k v)))\/
 ∃d k b,H a=M (.dT d)/\y=.ref b/\H b=M (.tup (k.map kV))/\d.length<UK/\H'=aX H a (.dT (ip d k v))
theorem aaz.k{k:b5}(e:H a=M (.dK U7)):aaz H a (kV k) (i9 U7 k):=.inl #[U7,k,.inl e,W,W]
theorem acJ.k{k:b5}(e:H a=M (.dK U7))(b:U7.length<UK):acJ H a (kV k) v (aX H a (.dK (ip U7 k v))):=.inl #[U7,k,e,W,b,W]
section
variable{X:Cx}{Z:bb (Uz×Obj)}{Y:St}{H:Hp}{s:UC}{a:Uz}{y v:V}{u r:Ut}{o:bg V}{A:Vb}{E:Ut->UC->Prop}
def Inv.big(I:Inv X Z Y H s):Wv<s.heap.objs.size:=by let h:=(I.mod.glob.keeps I.bk).lt;show Xs () h
def A3{Q:U->UC->Prop}(q:A.units+1<cLine)(I:Inv X Z Y H s)(g:aaz H a y (M v))(n:RelV y u)(h:∀c w,Inv X Z Y H w->RelV v c->Q c w):
  wpAny (model X.prog X.w) A (getItem (.ref a) u) Q E s:=by
 rcases g with⟨L,k,e,m,l⟩|⟨L,k,b,e,m,C,l⟩
 .subst m;let(z,B,J,f,dd):=vi I.VQ e;let(c,i,d):=Yi.some_of (v:=v) (o:=valueAt J k) (by rw[l];show f.val k);show wpAny_getItem_of (sj n) dd.mapOf i (h c _ (I.tok _) d)
 .subst m;cases(show u=Ut.ref b from n);let(z,B,xs,f,dd):=v8 I.VQ e;let(c,i,d):=Yi.some_of (v:=v) (o:=(atKey xs k).map (·.2)) (by rw[l];show f.val k);let(p,t,j):=Yq.mp i;show ad6 (ZV q) (sT I.VQ C) dd t ?_;rw[j];show h c _ (I.tok _) d
def SN{Q:U->UC->Prop}(m:A.units+1<cLine)(I:Inv X Z Y H s)(g:aaz H a y o)(j:RelV y u)(h:∀c,Inv X Z Y H c->Q (.bool o.isSome) c):
  wpAny (model X.prog X.w) A (We .In u (.ref a)) Q E s:=by
 rcases g with⟨p,k,e,i,l⟩|⟨p,k,b,e,i,n,l⟩
 .subst i;let(z,f,t,d,dd):=vi I.VQ e;show wpAny_in_of (sj j) f dd.mapOf ?_;rw[<-(d.val k).Yh,<-l];show h _ (I.tok _)
 .subst i;cases(show u=Ut.ref b from j);let(z,f,xs,d,dd):=v8 I.VQ e;show ajx (ZV m) (sT I.VQ n) f dd ?_;let q:=(d.val k).Yh;rw[X7]at q;rw[<-q,<-l];show h _ (I.tok _)
theorem lz{c:Heap}{j:Nat}{d:HO}(I:Inv X Z Y H s)(f:Rg (H a))(g:Heap.SameBut a s.heap c)(h:∃q,c.get? a=M q)(new:ObjOk X.prog X.w (aX H a d) c a d):
  Inv X Z Y (aX H a d) {s with heap:=c,toks:=j}:=
 I.write (x:=a) (e:=a) f (.inl W) (λb q i z=>(g.2 b i).trans z) h new
theorem xI(z:J.length<=UK)(hd:(a==Wv)=R)(b:KV J C)(dd:h'.DictOf (cA d w) a C):
  ObjOk d w H' h' a (.dK J):=#[z,hd,C,b,dd]
def AZ{H':Hp}{Q:Unit->UC->Prop}(K:A.units+1<cLine)(I:Inv X Z Y H s)(g:acJ H a y v H')(C:RelV y u)(D:RelV v r)(h:∀x,Inv X Z Y H' x->Q ⟨⟩ x):
  wpAny (model X.prog X.w) A (setItem (.ref a) u r) Q E s:=by
 rcases g with⟨w,k,e,t,l,B⟩|⟨w,k,b,e,t,J,l,B⟩
 .subst t B
  let(z,p,T,d,dd):=vE I.VQ e;let j:T.length<=UK:=by rw[<-d.length];show z
  let n:(ip w k v).length<=UK:=by let:=jz w k v;ext
  show wpAny_setItem_pairs (hsz:=j) (sj C) dd λF f m=>h _ ?_;let L:∃q,F.get? a=cL q:=let#[q,_,_,i,_]:=f;#[q,i]
  show lz I (by rw[e];show True.intro) m L (xI n p (d.put k D) f)
 .subst t B
  cases(show u=Ut.ref b from C);let(z,p,xs,d,dd):=Q8 I.VQ e;let j:xs.length<=UK:=by rw[<-Paired.length d];show z
  let n:(ip w k v).length<=UK:=by let:=jz w k v;ext
  show ad7 (hsz:=j) (ZV K) (sT I.VQ J) dd λF f m=>h _ ?_;let(q,es,R,i,P,O,N,_,M):=f;show lz I (by rw[e];show True.intro) m #[q,i] #[n,p,_,(d.put k J D).keeps λc S G=>?_,q,es,R,i,P,O,N,M];rw[ay (Qt G e (λz=>nomatch z))];show G
end
section
variable{X:Cx}{Z:bb (Uz×Obj)}{T:St}{H:Hp}{s:UC}{a:Uz}{Y:bb (b5×V)}{k:b5}{u:Ut}{A:Vb}{E:Ut->UC->Prop}
def QX{v:V}{b:G U}{Q:U->UC->Prop}(I:Inv X Z T H s)(e:H a=M (.dK Y))(g:RelV (kV k) u)(l:i9 Y k=M v)(hm:b=[]\/∃x,b=[x])
  (h:∀c C,Inv X Z T (aX H a (.dK (lX Y k))) C->RelV v c->Q c C):wpAny (model X.prog X.w) A (call (.builtin "dict.pop") (.ref a::u::b)) Q E s:=by
 let(z,y,w,d,dd):=vE I.VQ e;let(c,m,j):=Yi.some_of (v:=v) (o:=valueAt w k) (by rw[<-l];show d.val k);let p:(keyPart u).isSome=S:=by
  cases k with
  |inl i=>let(t,q):=(show∃t,u=Ut.int i t from g);subst q;rfl
  |inr x=>let(t,q):=(show∃t,u=Ut.str x t from g);subst q;rfl
 let L:argsOk "dict.pop" #[.ref a::u::b,[]]:=by
  rcases hm with q|⟨x,q⟩
  .subst q;show PySem.F.args_dict_pop_2 _ _
  .subst q;show PySem.F.args_dict_pop_3 _ _ _
 show call_meetsIn aaE dd.typeIs PySem.F.entry_dict_pop L (meets_dict_pop_there (cA X.prog X.w) a (sj g) b hm p)
  #[w,c,dd,by rw[<-d.length];show z,m,λB f n=>h c _ ?_ j]
 let r:∃q,B.get? a=M q:=let#[q,_,_,J,_]:=f;#[q,J]
 show lz I (by rw[e];show True.intro) n r (xI (Vk (FZ Y k) z) y (d.drop k) f)
end
def Ml(i:U4):Prop:=∀a b,subscripted i R a b=operate [a,b] (getItem a b)
def yQ{T id:String}
  (l:typeLookup (.type T) "__getitem__"=pure (M (.builtin id))) (j:Ml slice)
  (h:wpAny (model prog w) A (eval value env) (λo k=>wpAny (model prog w) A (eval slice env) (λi c=>c.TypeIs o T/\wpAny (model prog w) A (getItem o i) Q E c) E k) E s):
  wpAny (model prog w) A (eval (.Subscript value slice pos) env) Q E s:=by
 show Subscript_ (wpAny_mono h (λo k f=>wpAny_mono f (λi c a=>?_) λ_ _ x=>x) λ_ _ x=>x);let(g,a):=a;ext subscriptTail;show CL ?_;rw[getitemInPython_of_ne g.not_modules];show CL (Za g l ?_);let d:wpAny (model prog w) A (subscripted slice R o i) (λr b=>wpAny (model prog w) A (letTemporaryGo value o r>>=λ_=>pure r) Q E b) E c:=by rw[j o i];show wpAny_operating (wpAny_mono a (λr b e=>CL (wpAny_letTemporaryGo (UD e))) λ_ _ x=>x)
 first
  |show UD (CL d)
  |show CL (UD (CL d))
  |show CL d
def vf(I:Inv X pins σ H s)(g:aaz H a y o):s.TypeIs (.ref a) "dict":=by
 rcases g with⟨d,k,e,_,_⟩|⟨d,k,b,e,_,_,_⟩
 .let(_,_,f,_,dd):=vi I.VQ e;show dd.typeIs
 .let(_,_,xs,_,dd):=v8 I.VQ e;show dd.typeIs
def K9(e ty:TE):TE:=λb H Q=>e b H λx f=>ty b f λy d=>∃a v,x=.ref a/\aaz d a y (M v)/\Q v d
def Rs(ty e:TE):TE:=λb H Q=>ty b H λy f=>e b f λx d=>∃a o,x=.ref a/\aaz d a y o/\Q (.bl o.isSome) d
def KA(e ty d:TE):TS:=λD b H=>d b H λv h=>e b h λx g=>ty b g λy f=>∃a i,x=.ref a/\acJ f a y v i/\D.nx b i
section
variable{X:Cx}{o i e Z:U4}{pos Y ah8:Pos}{T U tv:TE}
def IX(r:X.A.units+1<cLine)(w:PE X o T)(c:PE X i U)(t:Ml i):PE X (.Subscript o i pos) (K9 T U):=by intro b s f H Q I h;show yQ Z6.lookup t (bT (w b s f H _ I h) λu l #[x,F,C,n,q]=>bT (c b l f F _ C q) λL K a=>?_);let(y,E,j,m,a,v,z,g,p):=a;subst z;obtain rfl:=n;show#[vf j g,A3 r j g m λG J B d=>#[v,E,B,d,p]]
def B8(q:X.A.units+1<cLine)(c:PE X i U)(r:PE X o T):PC X .In i o (Rs U T):=by intro b s d H Q I h;show bT (c b s d H _ I h) λG f #[y,C,z,j,n]=>bT (r b f d C _ z n) λu F a=>?_;let(x,B,w,l,a,p,t,g,m):=a;subst t;obtain rfl:=l;show SN q w g j λE v=>#[.bl p.isSome,B,v,W,m]
def GQ(w:X.A.units+1<cLine)(B:PE X o T)(c:PE X i U)(t:PE X Z tv)(z:W0 Z (cL (.Subscript o i Y)) pos.line X.env=pure R):
  PS X (.Assign [.Subscript o i Y] Z pos) (KA T U tv):=by
 intro b s d H D I h;show acx (bT (t b s d H _ I h) λr j #[v,A,J,rv,q]=>bT (B b j d A _ J q) λu f #[x,L,G,m,p]=>bT (c b f d L _ G p) λP O a=>?_) z;let(y,Q,F,l,a,K,C,g,n):=a;subst C;obtain rfl:=m;show AZ w F g l rv λN E=>#[d,K,E,n]
end
def mz(c a:G (b5×V)):G (b5×V):=a.foldl (λb d=>ip b d.1 d.2) c
def KV.merge:∀{a:G (b5×V)} {b:G (b5×U)} {d:G (b5×V)} {c:G (b5×U)},KV a b->KV d c->KV (mz d a) (merged c b):=by
 intro a b d c r;unfold KV at r
 induction r generalizing d c with
 |nil=>intro q;show q
 | @cons p q j i h t g=>
  intro f;let e:KV (ip d p.1 p.2) (stored c q.1 q.2):=by let:=f.put p.1 h.2;rw[<-h.1];show this
  show g e
theorem j9:∀(a c:G (b5×V)),(mz c a).length<=c.length+a.length
 |[],c=>by show c.length<=c.length+0;ext
 |p::r,c=>by let d:=j9 r (ip c p.1 p.2);let b:=jz c p.1 p.2;show(mz (ip c p.1 p.2) r).length<=_;rw[UO];ext
structure M1(X:Cx)(o:U4)(m:Str)(apos:Pos)(e:U4)(Xh:Pos):Prop where
 base:attributeBase o m X.env (eval o X.env)=eval o X.env
 few:((backTo Xh (UW [e] X.env)).all (λx=> !x.1)&&(backToKw Xh (keywordEach [] X.env)).all (λx=>x.1.isSome)
  &&decide (([e]:G U4).length+([]:G Yu).length+(if([]:G Yu).isEmpty then 0 else 1)<30))=S
 line:(apos.endLine==Xh.line)=S
 trees:backTo Xh (UW [e] X.env)=[(R,eval e X.env)]
structure M2(X:Cx)(o:U4)(m:Str)(apos:Pos)(e f:U4)(Xh:Pos):Prop where
 base:attributeBase o m X.env (eval o X.env)=eval o X.env
 few:((backTo Xh (UW [e,f] X.env)).all (λx=> !x.1)&&(backToKw Xh (keywordEach [] X.env)).all (λx=>x.1.isSome)
  &&decide (([e,f]:G U4).length+([]:G Yu).length+(if([]:G Yu).isEmpty then 0 else 1)<30))=S
 line:(apos.endLine==Xh.line)=S
 trees:backTo Xh (UW [e,f] X.env)=[(R,eval e X.env),(R,eval f X.env)]
def Tq(H:Hp)(a:I):Prop:=(∃b,Rd H a (.dK b))\/∃b,Rd H a (.dT b)
def NB(I:Inv X pins σ H s)(d:Tq H a):
  s.TypeIs (.ref a) "dict"/\(∀b,Ut.ref a=.ref b->∃c,s.heap.get? b=M c/\c.dict=P)/\(a==Wv)=R:=by
 rcases d with⟨i,e⟩|⟨i,e⟩
 .let(_,f,j,_,dd):=vi I.VQ e;show#[dd.typeIs,λb q=>?_,f];ext q;let(c,_,_,h,g,_):=dd;show#[c,h,g.2.1]
 .let(_,f,xs,_,dd):=v8 I.VQ e;show#[dd.typeIs,λb q=>?_,f];ext q;let(c,_,_,h,g,_):=dd;show#[c,h,g.2.1]
def Cc(f ty:TE):TE:=λb H Q=>f b H λx e=>∃a,x=.ref a/\Tq e a/\ty b e λy d=>∃g k v,d a=M (.dK g)/\y=kV k/\i9 g k=M v/\Q v (aX d a (.dK (lX g k)))
section
variable{X:Cx}{o e f:U4}{Z Y:Pos}{T ty tx:TE}
def Ck(A:PE X o T)(B:PE X e ty)(m:M1 X o "pop" Z e Y):PE X (.Call (.Attribute o "pop" Z) [e] [] Y) (Cc T ty):=by intro b s i H Q I h;show wpAny_Call_method m.base m.few m.line aai aaE PySem.F.type_dict_pop (bT (A b s i H _ I h) λu q a=>?_);let(x,L,j,t,a,E,d,z):=a;subst E;obtain rfl:=t;let(p,n,_):=NB j d;show#[p,n,?_];rw[m.trees];show Calls.callWith_builtin W (Calls.evalArgs_plain (Calls.spliced_cons (bT (B b q i L _ j z) λP O a=>?_)));let(y,F,K,r,U7,k,v,G,C,l,w):=a;show Calls.spliced_nil ?_;subst C;show QX K G r l (.inl W) λM N J g=>#[v,_,J,g,w]
end
end L2
namespace HT
open PySem PySem.Spec PyProof.Rows PySem.Calls
def xO(n:Nat):Builtin.Slice.sliceAdjust P P (-1) (n:Int)=((n:Int) - 1,-1):=by
 ext Builtin.Slice.sliceAdjust;let a:(-1:Int)<0:=by decide
 simp only[a,if_true]
def x3(n:Nat):Builtin.Slice.slicePlaces ((n:Int) - 1) (-1) (-1)=n:=by
 ext Builtin.Slice.slicePlaces;let a:¬((-1:Int)>0):=by decide
 simp only[a,if_false];by_cases h:(n:Int) - 1> -1
 .rw[ax h,show(- -1:Int)=1 by decide,afl];ext
 .rw[aE h];ext
def F1(xs:Array U):((UR xs.size).filterMap λ(m:Nat)=>xs[((xs.size:Int) - 1+(m:Int)*(-1)).toNat]?).toArray=xs.toList.reverse.toArray:=by
 let e:(UR xs.size).filterMap (λ(m:Nat)=>xs[((xs.size:Int) - 1+(m:Int)*(-1)).toNat]?)=((UR xs.size).map λk=>xs.size - 1 - k).filterMap (xs[·]?):=by
  rw[acf];let a:∀l:G Nat,(∀m∈l,m<xs.size)->l.filterMap (λ(m:Nat)=>xs[((xs.size:Int) - 1+(m:Int)*(-1)).toNat]?)=l.filterMap ((xs[·]?)∘λk=>xs.size - 1 - k):=by
   intro l
   induction l with
   |nil=>intro _;rfl
   |cons m r b=>
    intro h;let hm:=h m (.head _);let e1:((xs.size:Int) - 1+(m:Int)*(-1)).toNat=xs.size - 1 - m:=by ext
    rw[W8,W8,b λk d=>h k (.tail _ d),e1];rfl
  show a _ λm hm=>V5.mp hm
 rw[e,PySem.W.krv_range,List.filterMap_reverse,PySem.W.krv_all]
section
variable{Y:UZ}{w:Vf}{A:Vb}{E:Ut->UC->Prop}{s:UC}
def ml{e:I}{d:U}{n:Nat}{Q:Int×Int×Nat->UC->Prop}(g:s.heap.IsSliceOf e .none .none d)(f:Yy d (M (-1)))
  (h:Q ((n:Int) - 1,-1,n) s):wpAny (model Y w) A (Builtin.Slice.sliceApplied (.ref e) (pure (n:Int))) Q E s:=by
 let(j,a,i,b):=id g;unfold Builtin.Slice.sliceApplied Builtin.Slice.sliceFields;show CL (CL (Vo a b (x:=.none) W (CL (Vo a b (x:=.none) W (CL (Vo a b (x:=d) W (UD ?_)))))));show CL (gz f ?_);show wpAny _ _ (if((-1:Int)==0)=S then _ else _) _ _ s;rw[aE ()];show CL (gz .none (CL (gz .none (CL (UD ?_)))));show wpAny _ _ (match Builtin.Slice.sliceAdjust P P (-1) (n:Int)with|(lo,l)=>pure (lo,(-1:Int),Builtin.Slice.slicePlaces lo l (-1))) _ _ s;rw[xO n];show wpAny _ _ (pure ((n:Int) - 1,(-1:Int),Builtin.Slice.slicePlaces ((n:Int) - 1) (-1) (-1))) _ _ s;rw[x3];show UD h
def getItem_tuple_rev{t d:I}{items:Array U}{i:U}{Q:U->UC->Prop}(a:IsTup s.heap t items)(j:s.heap.IsSliceOf d .none .none i)(l:Yy i (M (-1)))
  (h:Q (.ref s.heap.objs.size) {s with heap:=s.heap.push {cls:=.type "tuple",data:=.seq items.toList.reverse.toArray}})
  (c:items.size<=UK):wpAny (model Y w) A (getItem (.ref t) (.ref d)) Q E s:=by
 let b:sizeOk (.seq items.toList.reverse.toArray):=by show items.toList.reverse.toArray.size<=UK;rw[UN,WC,Vv];show c
 let(n,e,f,o):=id j;let g:s.TypeIs (.ref d) "slice":=#[n,e,f];ext getItem
 try specialize VW ?_
 first|show CL (UD ?_)|skip
 show CL (Z7 a.typeIs () ?_);show CL (V4 (name:=Str.ofString "__getitem__") a.typeIs Vj
  (Wf Vj a.typeIs entry_tuple_getitem ?_ (args_tuple_getitem _ _)))
 show wpAny _ _ (Builtin.Tuple.tupleItemsOf (.ref t)>>=_) _ _ s;show CL (tupleItemsOf_ a ?_);show CL (Xb g ?_);rw[ax ()];show CL (ml j l ?_);show wpAny _ _ (if(((items.size:Int) - 1)==0&&(-1:Int)==1&&items.size==items.size)=S then _ else _) _ _ s;rw[aE (by rw[show((-1:Int)==1)=R from by decide,adL,X0];show UQ),F1]
 first
  |show CL (m:=Builtin.Tuple.tupleExact _) (Vw (UD #[_,W,UD h]) b)
  |show CL (m:=Builtin.Tuple.tupleExact _) (Vw (CL (UD (UD #[_,W,UD h]))) b)
  |show CL (CL (m:=Builtin.Tuple.tupleExact _) (Vw (UD (UD #[_,W,UD h])) b))
  |show CL (CL (m:=Builtin.Tuple.tupleExact _) (Vw (UD #[_,W,UD h]) b))
end
end HT
namespace L2
open PySem PySem.Spec PyProof.Rows
def Cp{xs:G V}{a:G U}(h:Vals xs a):Vals xs.reverse a.reverse:=by
 induction h with
 |nil=>show .nil
 |cons h t b=>rw[Wg,Wg];show b.append (.cons h .nil)
def Q6(K:lD)(f:TE)(e:TO):TE:=λd H Q=>f d H λx g=>e d g λo b=>o=M (-1)/\∃a xs,x=.ref a/\Ya K b a xs/\∀p,b p=P->Q (.ref p) (aX b p (.tup xs.reverse))
def O0{X:Cx}{e j:U4}{u l:Pos}{t:TE}{p:TO}(N:PE X e t)(M:PO X (cL j) p):PE X (.Subscript e (.Slice Ld Ld (cL j) u) l) (Q6 X.K t p):=by
 intro d s i H Q I h;show Subscript_ (bT (N d s i H _ I h) λv B a=>?_);let(x,Y,A,C,F):=a;show wpAny_Slice ?_;rw[abV];show UD ?_;show UD (bT (M d B i Y _ A F) λn f a=>?_);let(o,T,w,G,e3,a,xs,O,L,E):=a;subst e3 O;ext C;let m:Inv X d i T {f with heap:=f.heap.push {cls:=.type "slice",data:=.fields #v[.none,.none,n]}}:=w.kept (t':=f.toks) λb J q=>b3 _ q;let(P,r,z,y):=m.tuple L;let g:P.toArray.size=xs.length:=by rw[UN];show r.length.symm
 show wpAny (model X.prog X.w) X.A (subscriptTail e (.Slice Ld Ld (cL j) u) (.ref a) (.ref f.heap.objs.size)) (EP X d i Q) X.xe {f with heap:=f.heap.push {cls:=.type "slice",data:=.fields #v[.none,.none,n]}};show tail_any (ops:=[.ref a,.ref f.heap.objs.size]) z.typeIs Vj.lookup ?_ (by with_unfolding_all rfl);show HT.getItem_tuple_rev z (Heap.IsSliceOf.new ..) G ?_ (by rw[g];show y);show#[.ref _,_,m.laid (t':=f.toks) (o:=.tup xs.reverse) (λb J q=>b3 _ q) (UG _) ?_,W,E _ (m.VQ.fresh (UG _))];show#[by rw[WC];show y,_,Cp r,Zw.new _ _]
end L2
namespace L3
open PySem PySem.Spec PyProof.Rows L2
def Ls(K:lD):R2:=λx y H Q=>∃(a b:I) (d:G V),x=.ref a/\y=.ref b/\Ya K H a []/\Ya K H b d/\Q (.ref b) H
def J6{X:Cx}:OpR X (V8 .Add) (Ls X.K):=by
 intro l s L H x y v u Q I z w h;let(a,b,M,rfl,rfl,T,F,q):=h;ext z;ext w;let(O,A,C,_):=I.tuple T;let(J,N,B,_):=I.tuple F;ext A;let((cls,dd,r,t),m,p,n,o):=id C;let((G,i,j,g),d,f,E,e):=id B;simp only at p o f e;subst p o f e;show acv #[_,m,W] #[_,d,W] aaq abU Yn Ye (X6 _ _)
  (tuple_addW0 a b _ J.toArray n E dd i t g W) #[m,d,#[.ref b,H,I,W,q]]
def LM(K:lD):R2:=λx y H Q=>Ee K x y H Q\/Ls K x y H Q
theorem Jm{X:Cx}:OpR X (V8 .Add) (LM X.K):=OpR.or yI J6
def uj:D->D->z RV
 |.tuple [],.tuple ys=>M (.fz (.tuple ys))
 |d,e=>cz d e
def DC{K:lD}:iZ K (LM K) uj:=by
 intro O H x y p m o Q n f d e q;unfold uj at e;split at e
 .ext e;let(a,xs,rfl,j,i):=Al f;let(b,h,rfl,g,l):=Al d;ext i;show .inr #[a,b,h,W,W,j.1,g.1,q.at (.tup g l)]
 .show .inl (zO O H x y p m o Q n f d e q)
end L3
namespace L4
open PySem PySem.Spec PyProof.Rows L2 L3
def GG(h:Heap)(e:I)(c:U)(g:z I)(a:U)(hd:z I):Prop:=
 ∃b fs,h.get? e=M b/\b.cls=c/\b.dict=g/\b.data=.fields fs/\fs[0]?=M a/\
  match hd with
  |none=>fs[1]?=M .none
  |some T=>fs[1]?=M (.ref T)/\T≠e/\∃f d,h.get? T=M f/\f.data=.fields d/\d[3]?=M .none
structure Lft(l:G Env)(e:I)(hd:z I)(h h':Heap):Prop where
 keep:∀b o,h.get? b=M o->b≠e->hd≠M b->b∉wf l->h'.get? b=M o
 slot:∀b o,h.get? b=M o->b≠e->hd≠M b->∃sl,h'.get? b=M {o with slots:=sl}
 here:∀b o,h.get? b=M o->∃o',h'.get? b=M o'
section
variable{M:adh}{A:Vb}{E:Ut->UC->Prop}{s:UC}
def iV
  (I:A.frames=cL (env::outer)) (B:s.heap.FunFrames base (env::outer)) (H:env.frame=cL L) (C:s.heap.get? e=cL ob) (p:ob.data=.fields fs) (m:1<fs.size) (J:fs[0]?=cL a0)
  (k:∀D T,s.heap.objs.size<=T->GG D e ob.cls ob.dict a0 (cL T)->Lft (env::outer) e Ld s.heap D->Q ⟨⟩ {s with heap:=D}):
  wpAny M A (frameOf env>>=λfr=>entryPlaceOf L nx>>=λpl=>EntryCells.newEntry hv fr .none (rawInt L) .none pl>>=λb=>setField (.ref e) 1 b) (λ_ V=>wpAny M A (setFlight (.ref e) Ld) Q E V) E s:=by
 let j:e∉(env::outer).filterMap (·.frame):=λz=>by let(_,o,q,n):=B.mem z;rw[C]at q;ext q;show n fs p
 show CL (wpAny_frameOf_fun I B H λa S=>?_);show CL (wpAny_entryPlaceOf λpl P=>?_);unfold EntryCells.newEntry newFields;show CL (Vw ?_ (P.sizeOk5 _ _ _ _ _));let y:=(S.2.1 e j).trans C;generalize X:({cls:=.type "traceback",dict:=Ld,data:=.fields ([hv,.ref L,.none,rawInt L,.none]++(if pl.isEmpty then UH 6 Ut.none else pl)).toArray}:Obj)=N;let g:N.data=.fields ([hv,.ref L,.none,rawInt L,.none]++(if pl.isEmpty then UH 6 Ut.none else pl)).toArray:=by rw[<-X]
 let K:=dt g;let w:=b3 N y;show WN w p m ?_;let l:=VI (b4 y);let r:=da p (·.setIfInBounds 1 (Ut.ref a.objs.size));let i:=cn (Obj.mapFields (·.setIfInBounds 1 (Ut.ref a.objs.size))) w (dt r)
 let u:=
  (ck (a.push N) (Obj.mapFields (·.setIfInBounds 1 (Ut.ref a.objs.size))) l.symm).trans (cc a K)
 ext setFlight;show CL (Vo i r (x:=.ref a.objs.size) (by simp[m]) ?_);rw[ax (show(Ut.ref a.objs.size !=Ut.none)=Uv from by simp)];let t:3<([hv,.ref L,.none,rawInt L,.none]++(if pl.isEmpty then UH 6 Ut.none else pl)).toArray.size:=by simp only[UN,UE,UO,V7];ext
 show WN u g t ?_;let v:=ck ((a.push N).update e (Obj.mapFields (·.setIfInBounds 1 (Ut.ref a.objs.size)))) (Obj.mapFields (·.setIfInBounds 3 ((Ld:bg Uz).elim Ut.none λf=>rawInt f))) l;let F:=cn (Obj.mapFields (·.setIfInBounds 3 ((Ld:bg Uz).elim Ut.none λf=>rawInt f))) u (dt (da g _));let YF:∀b o,b≠e->a.get? b=cL o->(((a.push N).update e (Obj.mapFields (·.setIfInBounds 1 (Ut.ref a.objs.size)))).update a.objs.size (Obj.mapFields (·.setIfInBounds 3 ((Ld:bg Uz).elim Ut.none λf=>rawInt f)))).get? b=cL o:=λb o ne q=>by rw[ck _ _ (VI (b4 q)),ck _ _ ne.symm];show b3 N q
 show k _ a.objs.size (by rw[S.1];show UG _) #[_,_,v.trans i,Obj.cls_mapFields _ _,?_,r,?_,?_,l,_,_,F,da g _,?_] #[λb o q ne _ G=>YF b o ne ((S.2.1 b G).trans q),λb o q ne _=>?_,λb o q=>?_]
 .cases ob with
  |mk c d O h=>ext O<;>rfl
 .rw[ZD ()];show J
 .simp[m]
 .rw[YJ t];rfl
 .let(h,z):=S.2.2 b o q;show#[h,YF b _ ne z]
 .by_cases ne:b=e
  .subst ne;show#[_,v.trans i]
  .let(h,z):=S.2.2 b o q;show#[_,YF b _ ne z]
def Bl
  (v:A.frames=cL (env::outer)) (u:s.heap.FunFrames base (env::outer)) (h:env.frame=cL L) (F:GG s.heap e c dx a0 hd)
  (k:∀x T,s.heap.objs.size<=T->GG x e c dx a0 (cL T)->Lft (env::outer) e hd s.heap x->Q ⟨⟩ {s with heap:=x}):wpAny M A (leaving env (.ref e)) Q E s:=by
 let(N,fs,q,I,H,d,w,r):=F;subst I H;cases hd with
 |none=>let r:=r;unfold leaving noteFrame;simp only[h];show CL (CL (Vo q d r ?_));rw[aE ()];show iV v u h q d (VH.mp r).1 w k
 |some T=>
  let(r,C,O,B,g,dT,p):=r;unfold leaving noteFrame;simp only[h];show CL (CL (Vo q d r ?_));rw[ax (show(Ut.ref T !=Ut.none)=S from by simp)];show CL (Vo g dT p ?_);rw[aE (show¬((Ut.none==rawInt L)=S)from by simp[rawInt])];show CL (WN g dT (VH.mp p).1 ?_);let f:∀b,b≠T->(s.heap.update T (Obj.mapFields (·.setIfInBounds 3 Ut.none))).get? b=s.heap.get? b:=λb ne=>ck _ _ ne.symm;let a:=cn (Obj.mapFields (·.setIfInBounds 3 Ut.none)) g (dt (da dT _));let m:∀b o,s.heap.get? b=cL o->(∀X,o.data≠.fields X)->b≠T:=λb o z n y=>by rw[y,g]at z;ext z;show n B dT
  show iV v (u.of_keeps λb o z n=>#[o,(f b (m b o z n)).trans z,W]) h ((f e C.symm).trans q) d (VH.mp r).1 w λx J t K i=>k x J (by rw[Heap.size_after_update]at t;show t) K #[λb o z l j G=>?_,λb o z l j=>?_,λb o z=>?_]
  .show i.keep b o ((f b λy=>j (by rw[y])).trans z) l (by simp) G
  .show i.slot b o ((f b λy=>j (by rw[y])).trans z) l (by simp)
  .by_cases y:b=T
   .subst y;show i.here b _ a
   .show i.here b o ((f b y).trans z)
end
theorem Lft.VQ{P:UZ}{w:Vf}{l:G Env}{e:I}{hd:bg I}{H:Hp}{h k:Heap}(L:Lft l e hd h k)(j:YO P w H h)(ne:H e=Ld)(g:∀T,hd=M T->H T=Ld)(i:∀b∈wf l,H b=Ld):YO P w H k:=λb u q=>by
 let free:∀c v,H c=M v->c≠e/\hd≠M c/\c∉wf l:=λc v z=>#[(λy=>by rw[y,ne]at z;ext z),(λy=>by rw[g c y]at z;ext z),(λy=>by rw[i c y]at z;ext z)];show(j b u q).YF (λc v m z=>?_) (λ_ z=>z) λ_ _ z=>z;rcases m with y|y
 .rw[y]at z⊢;let(f,d,a):=free b u q;show L.keep b v z f d a
 .let(f,d,a):=free c _ y;show L.keep c v z f d a
def kK(P:UZ)(w:Vf):sU:=λa H s E x b=>
 ∃e c d a0 T H',x=.ref e/\s.heap.get? e=Ld/\s.heap.get? T=Ld/\GG b.heap e c d a0 (M T)/\H' e=Ld/\H' T=Ld/\
  b.os=s.os/\AllBare b.gens/\Un (wf a) [] H H' s.heap b.heap/\YO P w H' b.heap/\E c d H'
def K0{P:UZ}{w:Vf}{K:lD}{x:Str->bg Ut}{base:Heap}{N:bb Str}{h:Str}{a:WA}{f:Uz}{u:Ut}{A:Vb}{outer:bb Env}{d:UC}{C:Hp}{E:XK}
  {j:bb (Uz×Obj)} {G:L2.St} {H:Hp} {s:UC} {e:Uz} {c v:Ut} {k hd:bg Uz} (I:L2.Inv (eP (kK P w) P w K x base N h a f u A outer d C E) j G H s)
  (F:GG s.heap e c k v hd) (t:d.heap.get? e=Ld) (R:∀T,hd=cL T->d.heap.get? T=Ld) (ne:H e=Ld) (O:∀T,hd=cL T->H T=Ld) (q:E c k H):
  (eP (kK P w) P w K x base N h a f u A outer d C E).xe (.ref e) s:=by
 let Y:=I.ok.frames;let X:=I.stack;show Bl (L:=d.heap.objs.size) Y X W F λh' T r Z L=>?_;let Q:=L.VQ I.VQ ne O I.ZS;let U:H T=Ld:=I.VQ.fresh r;let m:∀b o,d.heap.get? b=cL o->b<d.heap.objs.size:=λb o z=>b4 z;let g:∀b o,d.heap.get? b=cL o->b≠e/\hd≠cL b:=λb o z=>#[(λy=>by rw[y,t]at z;ext z),(λy=>by rw[R b y]at z;ext z)];let sz:=I.sz;show#[e,c,k,v,T,H,W,t,cw (Vk sz r),Z,ne,U,I.os,I.bare,?_,Q,q];let B:=I.base;show#[λb o z n p _=>?_,λb o z n S _=>?_,λb o z n _=>?_,λb o z _=>?_,B.Z1,B.ZK,B.ZY]
 .let i:=B.keep b o z n p (λy=>nomatch y)
  show L.keep b o i (g b o z).1 (g b o z).2 λy=>?_;rcases U5.mp (I.Zz b y)with y|y
  .let y:b=d.heap.objs.size:=y;show a7 (m b o z) (by rw[y];show VT _)
  .show p y
 .let(sl,i):=B.slot b o z n S (λy=>nomatch y);let(l,J):=L.slot b _ i (g b o z).1 (g b o z).2;show#[l,J]
 .show B.free b o z n (λy=>nomatch y)
 .let(M,i):=B.there b o z (λy=>nomatch y);show L.here b M i
def FW{P:UZ}{w:Vf}{K:lD}{k:Str->bg U}{base:Heap}{N:G Str}{d:Str}{a:WA}{f:Uz}{j:U}{A:Vb}{outer:G Env}{g:UC}{n:Hp}{E:XK}:
  dr (kK P w) (eP (kK P w) P w K k base N d a f j A outer g n E) E:=by
 rintro i p H s x r I ⟨e,c,J,u,T,v,rfl,le,C,F,ne,B,os,bare,un,VQ,q⟩;let m:=I.acH (ch:=[]) os un VQ bare (λb z=>nomatch z);let old:∀b,s.heap.get? b=Ld->g.heap.get? b=Ld:=λb z=>by
  cases y:g.heap.get? b with
  |none=>rfl
  |some o=>let(t,h):=I.base.there b o y (λy=>nomatch y);rw[z]at h;ext h
 show K0 m F (old e le) (λl z=>by ext z;show old T C) ne (λl z=>by ext z;show B) q
def Pq(x:ObjOk b w H h a o):∃c,h.get? a=M c:=by
 cases o with
 |lst xs=>let(_,_,_,_,e):=x;show#[_,e]
 |tup xs=>let(_,_,_,c,e,_):=x;show#[c,e]
 |dK g=>let(_,_,_,_,o,_,_,e,_):=x;show#[o,e]
 |dT g=>let(_,_,_,_,o,_,_,e,_):=x;show#[o,e]
 |set S n=>let(o,_,_,_,e,_):=x;show#[o,e]
 |ins C l fs=>let(_,_,_,e,_):=x;show#[_,e]
 |own y=>show x
 |xd fs=>let(_,(o,_,_,e,_),_):=x;show#[o,e]
 |rng lo j=>let(_,_,_,e):=x;show#[_,e]
 |frz c u=>show#[c,x.1]
 |tbl i=>show#[_,x]
 |met f y=>show#[_,x]
 |ext d=>show x.2.1
 |exw d=>show x.2.1
def vZ(k:YO d w H h)(n:h.get? a=Ld):H a=Ld:=by
 cases q:H a with
 |none=>rfl
 |some o=>let(b,z):=Pq (k a o q);rw[n]at z;ext z
section
variable{M:adh}{A:Vb}{E:Ut->UC->Prop}{s:UC}
def HY{base:Heap}{env:Env}{outer:bb Env}{L e:Uz}{c B:U}{D hd:bg Uz}{Q:Unit->UC->Prop}
  (v:A.frames=cL (env::outer)) (u:s.heap.FunFrames base (env::outer)) (h:env.frame=cL L) (F:GG s.heap e c D B hd)
  (k:∀x T,s.heap.objs.size<=T->GG x e c D B (cL T)->Lft (env::outer) e hd s.heap x->Q ⟨⟩ {s with heap:=x}):
  wpAny M A (noteFrame (.ref e) env) (λ_ s2=>wpAny M A (setFlight (.ref e) Ld) Q E s2) E s:=by
 let(O,fs,q,J,I,d,w,r):=F;subst J I;cases hd with
 |none=>let r:fs[1]?=cL .none:=r;ext noteFrame;simp only[h];show CL (Vo q d r ?_);rw[aE ()];show iV v u h q d (VH.mp r).1 w k
 |some T=>
  let(r,G,P,C,g,dT,p):=r;ext noteFrame;simp only[h];show CL (Vo q d r ?_);rw[ax (show(Ut.ref T !=Ut.none)=S from by simp)];show CL (Vo g dT p ?_);rw[aE (show¬((Ut.none==rawInt L)=S)from by simp[rawInt])];show CL (WN g dT (VH.mp p).1 ?_);let f:∀b,b≠T->(s.heap.update T (Obj.mapFields (·.setIfInBounds 3 Ut.none))).get? b=s.heap.get? b:=λb ne=>ck _ _ ne.symm;let a:=cn (Obj.mapFields (·.setIfInBounds 3 Ut.none)) g (dt (da dT _));let m:∀b o,s.heap.get? b=cL o->(∀X,o.data≠.fields X)->b≠T:=λb o z n y=>by rw[y,g]at z;ext z;show n C dT
  show iV v (u.of_keeps λb o z n=>#[o,(f b (m b o z n)).trans z,W]) h ((f e G.symm).trans q) d (VH.mp r).1 w λx K t N i=>k x K (by rw[Heap.size_after_update]at t;show t) N #[λb o z l j H=>?_,λb o z l j=>?_,λb o z=>?_]
  .show i.keep b o ((f b λy=>j (by rw[y])).trans z) l (by simp) H
  .show i.slot b o ((f b λy=>j (by rw[y])).trans z) l (by simp)
  .by_cases y:b=T
   .subst y;show i.here b _ a
   .show i.here b o ((f b y).trans z)
def Pt{e T:I}{c j:U}{y:z I}{Q:Unit->UC->Prop}(F:GG s.heap e c y j (cL T))
  (k:∀x,GG x e c y j (cL T)->(∀b,b≠T->x.get? b=s.heap.get? b)->(∃o,x.get? T=cL o)->Q ⟨⟩ {s with heap:=x}):wpAny M A (setFlight (.ref e) P) Q E s:=by
 let(n,fs,q,t,p,d,u,r,i,w,v,h,dT,m):=F;ext setFlight;show CL (Vo q d r ?_);rw[ax (show(Ut.ref T !=Ut.none)=S from by simp)];let g:=(VH.mp m).1;show WN h dT g ?_;let l:∀b,b≠T->(s.heap.update T (Obj.mapFields (·.setIfInBounds 3 ((P:z I).elim Ut.none λf=>rawInt f)))).get? b=s.heap.get? b:=λb ne=>ck _ _ ne.symm;let a:=cn (Obj.mapFields (·.setIfInBounds 3 ((P:z I).elim Ut.none λf=>rawInt f))) h (dt (da dT _));show k _ #[n,fs,(l e i.symm).trans q,t,p,d,u,r,i,_,_,a,da dT _,?_] l #[_,a];rw[YJ g];rfl
end
section
variable{P:UZ}{w:Vf}{K:lD}{mg:Str->bg Ut}{base:Heap}{N:bb Str}{qual:Str}{scope:WA}{f:Uz}{cd:Ut}{A:Vb}{outer:bb Env}{s0:UC}{H0:Hp}{E:XK}{CX:sU}
  {σ:L2.St} {H:Hp} {s:UC} {h':Heap} {X:Cx}
def vU(I:L2.Inv X [] σ H s)(S:Uz->Prop)(G:X.ex=[])(t:∀p∈X.pn,¬S p.1)(keep:∀b o,s.heap.get? b=cL o->¬S b->b∉wf X.stack->h'.get? b=cL o)
  (slot:∀b o,s.heap.get? b=cL o->¬S b->∃k,h'.get? b=cL {o with slots:=k}) (h:∀b o,s.heap.get? b=cL o->∃D,h'.get? b=cL D)
  (T:∀b,S b->X.s₀.heap.get? b=Ld) (O:¬S X.env.locals) (R:∀x c,X.env.cells.lookup x=cL c->¬S c) (Q:∀b,S b->H b=Ld):L2.Inv X [] σ H {s with heap:=h'}:=by
 let L:∀b o,X.s₀.heap.get? b=cL o->¬S b:=λb o z y=>by rw[T b y]at z;ext z
 let g:∀b,b∉X.ex:=λb z=>by rw[G]at z;ext z
 let B:=I.base;let a:∀x c,X.env.cells.lookup x=cL c->∀v,s.heap.IsCell c v->h'.IsCell c v:=λx c z v #[o,F,J]=>by let(k,q):=slot c o F (R x c z);show#[_,q,J]
 show#[I.ok,I.os,I.bare,#[λb o z n e _=>?_,λb o z n Y _=>?_,λb o z n x=>B.free b o z n x,λb o z x=>?_,B.Z1,B.ZK,B.ZY],?_,λx c z=>?_,I.free,I.XH,λp C=>?_,λb u q=>?_,I.len]
 .let d:=B.keep b o z n e (g b)
  show keep b o d (L b o z) λy=>?_;rcases U5.mp (I.Zz b y)with y|y
  .rw[y]at z;show a7 (b4 z) (Nat.not_lt_of_le I.ok.above)
  .show e y
 .let(k,d):=B.slot b o z n Y (g b);let(j,M):=slot b _ d (L b o z);show#[j,M]
 .let(D,d):=B.there b o z x;show h b D d
 .let(m,hn,U):=I.loc
  let(o,es,ep,F,J,r):=hn;let(k,q):=slot _ o F O;show#[m,#[_,es,ep,q,J,r],λi x v a1 a2 a3=>?_];let(u,rv,l):=U i x v a1 a2 a3;show#[u,rv,?_];rcases l with l|⟨kd,c,z,y⟩
  .show .inl l
  .show .inr #[kd,c,z,a x c z _ y]
 .let(v,y):=I.cell x c z;show#[v,a x c z v y]
 .let(z,n,ne,e,dd):=I.pin p C
  rw[Vh]at C;show#[keep p.1 p.2 z (t p C) (λy=>?_),n,ne,e,dd];rcases U5.mp (I.Zz _ y)with y|y
  .show ne y
  .show e y
 .let free:∀c v,H c=cL v->¬S c/\c∉wf X.stack:=λc v z=>#[(λy=>by rw[Q c y]at z;ext z),(λy=>by rw[I.ZS c y]at z;ext z)]
  show(I.VQ b u q).YF (λc v Z z=>?_) (λ_ z=>z) λ_ _ z=>z;rcases Z with y|y
  .rw[y]at z⊢;show keep b v z (free b u q).1 (free b u q).2
  .show keep c v z (free c _ y).1 (free c _ y).2
end
section
variable{M:adh}{A:Vb}{E:Ut->UC->Prop}{h:Heap}{g:Array YR}{d:acd}{t:Nat}{os:aa0}
def FV{C U e:Uz}{j:Obj}{z w y v:Str}{D x:Uz}{b1 l s a:bb Ut}{Z Y:Bool}{u r:bb Str}{q p:bb Ut}{a1 a2:Bool}{k c:bg Bool}{o n:bg Uz}{O N L K J I H G F B:bg Ut}{f b:String}{Q:Bool->UC->Prop}
  (X:h.get? C=cL (excClassObj z w C D b1 l Z u q a1 k o O N L K J f)) (m:h.get? U=cL (excClassObj y v U x s a Y r p a2 c n I H G F B b)) (R:h.get? e=cL j) (S:j.cls=.ref C)
  (T:a.contains (.type "BaseException")=Uv) (hm:(Ut.ref C::l).contains (.ref U)=Uv) (P:Q Uv #[h,g,d,t,os]):wpAny M A (excMatches (.ref e) (.ref U)) Q E #[h,g,d,t,os]:=by
 let i:(Ut.ref U::a).contains (.type "BaseException")=Uv:=by rw[Zo,T,ZC]
 let ft:=tc_notTuple;ext excMatches
 repeat (first|(specialize WE R ?_;rw[S])|specialize WE m ?_|(specialize Yb m ?_;rw[i])|(specialize Yb X ?_;rw[hm])|wp_step)
 show P
end
abbrev Cx.marked(X:Cx)(e:I):Cx:={X with A:=X.A.mark (M (.ref e)),calm:=R,xe:=λ_ _=>False}
section
variable{X:Cx}{Z:L2.St}{H:Hp}{s:UC}{Y:Heap}{e:Uz}
theorem pz(I:L2.Inv X [] Z H s)(e:Uz):L2.Inv (Cx.marked X e) [] Z H s:=
 #[#[I.ok.mod,I.ok.kind,I.ok.glob,I.ok.blt,I.ok.above,I.ok.inj,I.ok.has,I.ok.cab,(λz=>nomatch z),I.ok.frames,I.ok.stk,I.ok.exf,I.ok.bs,I.ok.bsz,I.ok.aaT,I.ok.aaR,I.ok.Y7,I.ok.frf],I.os,I.bare,I.base,I.loc,I.cell,I.free,I.XH,I.pin,I.VQ,I.len]
theorem qW(ok:X.Ok)(I:L2.Inv (Cx.marked X e) [] Z H s):L2.Inv X [] Z H s:=
 #[ok,I.os,I.bare,I.base,I.loc,I.cell,I.free,I.XH,I.pin,I.VQ,I.len]
end
def vg(K:lD)(C:I)(m:G U):Prop:=∃nm q N bs hd sn sub b col dd a k1 k2 k3 k5 id,K.lookup C=M (excClassObj nm q C N bs m hd sn sub b col dd a k1 k2 k3 k5 id)
structure Apart(X:Cx)(a:I):Prop where
 n0:X.s₀.heap.get? a=P
 nL:a≠X.env.locals
 nC:∀y c,X.env.cells.lookup y=M c->c≠a
 nP:∀p∈X.pn,p.1≠a
def B0(X:Cx)(f:XK):U->UC->Prop:=λx a=>∃b H1 e c d a0 T,x=.ref e/\L2.Inv X [] b H1 a/\GG a.heap e c d a0 (M T)/\Apart X e/\Apart X T/\H1 e=P/\H1 T=P/\f c d H1
def qI(I:L2.Inv X pins σ H s)(d:X.ex=[])(n:s.heap.get? a=P):Apart X a:=by
 let ne:∀b o,s.heap.get? b=M o->b≠a:=λb o z y=>by rw[y,n]at z;ext z
 show#[?_,?_,λy c z=>?_,λp g=>?_]
 .cases z:X.s₀.heap.get? a with
  |none=>rfl
  |some o=>let(f,y):=I.base.there a o z (by rw[d];simp);show a7 W (ne a f y)
 .let(m,(o,_,_,z,_),_):=I.loc;show(ne _ o z).symm
 .let(v,o,e,_):=I.cell y c z;show ne c o e
 .show ne _ _ (I.pin p (Wc _ g)).1
def xW{X:Cx}(a:X.ex=[]):dr (kK X.prog X.w) (X.YH (B0 X C)) C:=by rintro f g H s x l I ⟨e,c,o,h,T,j,rfl,le,n,F,ne,m,os,bare,un,VQ,q⟩;let d:=I.XT;let i:=d.acH os un VQ bare (λb z=>nomatch z);show#[g,j,e,c,o,h,T,W,i.aat (λp z=>nomatch z),F,qI d a le,qI d a n,ne,m,q]
abbrev Cx.pinned(X:Cx)(l:G (I×Obj)):Cx:={X with pn:=l}
theorem HW(I:L2.Inv X pins σ H s):L2.Inv (Cx.pinned X (X.pn++pins)) [] σ H s:=
 #[#[I.ok.mod,I.ok.kind,I.ok.glob,I.ok.blt,I.ok.above,I.ok.inj,I.ok.has,I.ok.cab,I.ok.hd,I.ok.frames,I.ok.stk,I.ok.exf,I.ok.bs,I.ok.bsz,I.ok.aaT,I.ok.aaR,I.ok.Y7,I.ok.frf],I.os,I.bare,I.base,I.loc,I.cell,I.free,I.XH,(λp a=>I.pin p (by rw[Vh]at a;show a)),I.VQ,I.len]
theorem gw(ok:X.Ok)(I:L2.Inv (Cx.pinned X (X.pn++pins)) [] σ H s):L2.Inv X pins σ H s:=
 #[ok,I.os,I.bare,I.base,I.loc,I.cell,I.free,I.XH,(λp a=>I.pin p (by rw[Vh];show a)),I.VQ,I.len]
end L4
namespace L4
open PySem PySem.Spec PySem.W PyProof.Rows L2 L3
section
variable{Y:UZ}{w:Vf}{A:Vb}{E:Ut->UC->Prop}{h:Heap}{g:Array YR}{d:acd}{t:Nat}{T:aa0}{a C:Uz}{o:Obj}{K:lD}
  {Q N:Str} {L:Uz} {J B:bb Ut} {y:Bool} {v:bb Str} {u:bb Ut} {r:Bool} {q:bg Bool} {p:bg Uz} {n l j i f:bg Ut} {X:String}
structure aiW(K:lD)(C:I)(m:G U):Prop where
 cl:vg K C m
 be:m.contains (.type "BaseException")=S
 ga:findIn K (.ref C) "__getattribute__"=M (M (.builtin "BaseException.__getattribute__"))
 gt:findIn K (.ref C) "__getattr__"=M P
 cs:findIn K (.ref C) "__class__"=M (M (.builtin "object.__class__"))
 ob:mroIn K C (.type "object")=M S
end
end L4
namespace HT
open PySem PySem.Spec PyProof.Rows
section
variable{Y:UZ}{w:Vf}{A:Vb}{E:Ut->UC->Prop}{s:UC}
def getItem_tuple_all{t b:I}{items:Array U}{j i:U}{lo c:z Int}{Q:U->UC->Prop}(a:IsTup s.heap t items)(n:s.heap.IsSliceOf b j i .none)(pl:Yy j lo)(o:Yy i c)
  (l:sIx items.size 0 lo=0/\sIx items.size items.size c=items.size) (h:Q (.ref t) s):wpAny (model Y w) A (getItem (.ref t) (.ref b)) Q E s:=by
 let(p,d,e,q):=id n;let f:s.TypeIs (.ref b) "slice":=#[p,d,e];ext getItem
 try specialize VW ?_
 first|show CL (UD ?_)|skip
 show CL (Z7 a.typeIs () ?_);show CL (V4 (name:=Str.ofString "__getitem__") a.typeIs Vj
  (Wf Vj a.typeIs entry_tuple_getitem ?_ (args_tuple_getitem _ _)))
 show wpAny _ _ (Builtin.Tuple.tupleItemsOf (.ref t)>>=_) _ _ s;show CL (tupleItemsOf_ a ?_);show CL (Xb f ?_);rw[ax ()];show CL (iw n pl o ?_);let g:((((sIx items.size 0 lo:Nat):Int)==0&&(1:Int)==1&&(sIx items.size items.size c - sIx items.size 0 lo)==items.size)=S):=by rw[l.1,l.2];simp
 show wpAny _ _ (if(((sIx items.size 0 lo:Nat):Int)==0&&(1:Int)==1&&(sIx items.size items.size c - sIx items.size 0 lo)==items.size)=S then _ else _) _ _ s;rw[ax g];show CL (m:=Builtin.Tuple.tupleIsExact _) ?_;ext Builtin.Tuple.tupleIsExact;show CL (Xb a.typeIs (UD ?_));rw[ax ()];show CL (Y4 ?_);show UD #[_,W,UD h]
end
end HT
namespace L3
open PySem PySem.Spec PyProof.Rows L2
def Qz(K:lD):V->z Int->z Int->Hp->VK->Prop:=λx lo b H Q=>∃(a:I) (xs:G V),x=.ref a/\Ya K H a xs/\(HT.sIx xs.length 0 lo=0/\HT.sIx xs.length xs.length b=xs.length)/\Q (.ref a) H
def FY{X:Cx}:MK X (Qz X.K):=by
 intro d s n H x v p o lo w t Q I f l pl g h;let(a,xs,rfl,i,j,q):=h;ext f;let(m,r,e,u):=I.tuple i;let b:m.toArray.size=xs.length:=by rw[UN];show r.length.symm
 show#["tuple",_,Vj.lookup,e.typeIs,?_];show HT.getItem_tuple_all e l pl g (by rw[b];show j) #[.ref a,H,I,W,q]
def Rz(K:lD):V->z Int->z Int->Hp->VK->Prop:=λx lo a H Q=>Nw K x lo a H Q\/Qz K x lo a H Q
def GM{X:Cx}:MK X (Rz X.K):=by
 intro a s b H x v e d lo j f Q I g i pl h q;rcases q with q|q
 .show C4 a s b H x v e d lo j f Q I g i pl h q
 .show FY a s b H x v e d lo j f Q I g i pl h q
def Si:D->z Int->z Int->z RV
 |.list ds,lo,a=>M (.ow (kM ds lo a))
 |.tuple ds,lo,a=>M (.fz (.tuple (kM ds lo a)))
 |_,_,_=>P
def Ki{ds:G D}{lo a:z Int}(h:HT.sIx ds.length 0 lo=0/\HT.sIx ds.length ds.length a=ds.length):kM ds lo a=ds:=by ext kM;rw[h.1,h.2,adM,afp,XA]
def RA{K:lD}:R8 K (Rz K) Si:=by
 intro O H x lo h j i Q n b e q;cases j with
 |list ds=>show .inl (tt O H x lo h _ i Q n b e q)
 |tuple ds=>
  ext e;by_cases d:HT.sIx ds.length 0 lo=0/\HT.sIx ds.length ds.length h=ds.length
  .let(a,xs,rfl,g,f):=Al b;rw[Ki d]at q;show .inr #[a,xs,W,g.1,by rw[f.length];show d,q.at (.tup g f)]
  .show .inl (tt O H x lo h (.tuple ds) _ Q n b ?_ q)
   show(if eE ds.length lo h=S then P else M (RV.fz (.tuple (kM ds lo h))))=_;let z:eE ds.length lo h=R:=by ext eE;show a5 d
   rw[z,aE UQ]
 |_=>ext e
section
variable{K:lD}{E:XK}
end
end L3
namespace L9
open PySem PySem.Spec PyProof.Rows
section
variable{M:adh}{A:Vb}{E:Ut->UC->Prop}{Y:Env}
variable{nm q:Str}{C N:Uz}{bs Z:bb Ut}{hdct:Bool}{sn:bb Str}{sub:bb Ut}{ab:Bool}{col:bg Bool}{dd:bg Uz}{k0 k1 k2 k3 k5:bg Ut}{newId:String}
def hG(r:Z.contains (.type "BaseException")=S)(n:A.handled=P)
  (h:wpAny M A x (λv c=>∃e k,v=.ref e/\c.heap.get? C=cL (excClassObj nm q C N bs Z hdct sn sub ab col dd k0 k1 k2 k3 k5 newId)/\c.heap.get? e=cL k/\k.cls=.ref C/\(∃fs,k.data=.fields fs/\fs[1]?=cL Ut.none)/\E (.ref e) c) E s):
  wpAny M A (raiseStmt Y (cL x) P) Q E s:=by
 let f:(Ut.ref C::Z).contains (.type "BaseException")=S:=by rw[Zo,r,ZC]
 ext raiseStmt;show CL (wpAny_mono h (λv c a=>?_) λ_ _ x=>x);let(e,k,rfl,l,o,j,(fs,i,b),p):=a;let(y,w,m):=k;dsimp only at j i;subst j i;let(z,g,d,t,u):=c
 repeat (first|specialize WE o ?_|specialize WE l ?_|(specialize Yb l ?_;rw[f])|wp_step)
 rw[b]
 repeat wp_step
 show adN n p
end
section
variable{J:UZ}{w:Vf}{A:Vb}{E:Ut->UC->Prop}{h:Heap}{g:Array YR}{d:acd}{t:Nat}{os:aa0}
variable{nm q:Str}{C N:Uz}{bs S Z:bb Ut}{hdct:Bool}{sn:bb Str}{sub:bb Ut}{ab:Bool}{col:bg Bool}{dd:bg Uz}{k0 k1 k2 k3 k5:bg Ut}{B R L Y Y8 X:String}{U:bb Ut}
def nJ(Fn:XF R L X U)(j:Z.contains (.type R)=Uv)(F:XF B Y Y8 Z)(T:aeM h Z S)
  (i:h.get? C=M (excClassObj nm q C N bs S hdct sn sub ab col dd k0 k1 k2 k3 k5 L)) (s:h.Ns N mN) (D:mN "__init__"=M (.ref fI)) (p:h.get? fI=M oI) (n:oI.cls=.type "function")
  (z:∀k e,Heap.MadeExcOf h k e (.ref C) rest->wpAny (model J w) A (call (.ref fI) (.ref e::rest)) (λr c=>r=.none/\Q (.done (.ret (.ref e))) c) E #[k,g,d,t,os]) (hrest:rest.length<=UK):
  wpAny (model J w) A (Builtin.«type.__call__» #[.ref C::rest,[]]) Q E #[h,g,d,t,os]:=by
 repeat (first|specialize WE i ?_|specialize wpAny_madeBy_exc i ?_|wp_step)
 show codeAny_call_builtin_code (abb.quiet_builtin _ Fn.quiet) (wpAny_check_new_subU Fn j T i ?_);show codeAny_exc_new_subU Fn j F T i ?_ hrest
 let a:=b3 {cls:=.ref C,data:=.fields #v[.ref h.objs.size,.none,.none,.none,.bool Ux,.none]}
  (b3 {cls:=.type "tuple",data:=.seq rest.toArray} i)
 let v:=b3 {cls:=.ref C,data:=.fields #v[.ref h.objs.size,.none,.none,.none,.bool Ux,.none]}
  (b3 {cls:=.type "tuple",data:=.seq rest.toArray} p)
 let f:((h.push {cls:=.type "tuple",data:=.seq rest.toArray}).push {cls:=.ref C,data:=.fields #v[.ref h.objs.size,.none,.none,.none,.bool Ux,.none]}).Ns N mN:=
  let#[o,es,ep,e,r]:=s;#[o,es,ep,b3 _ (b3 _ e),r]
 let l:((h.push {cls:=.type "tuple",data:=.seq rest.toArray}).push
   {cls:=.ref C,data:=.fields #v[.ref h.objs.size,.none,.none,.none,.bool Ux,.none]}).get? (h.objs.size+1)=M
   {cls:=.ref C,data:=.fields #v[.ref h.objs.size,.none,.none,.none,.bool Ux,.none]}:=by heap_get
 let u:(Ut.ref C::S).contains (.ref C)=Uv:=by simp
 let m:=T.keeps (h':=(h.push {cls:=.type "tuple",data:=.seq rest.toArray}).push {cls:=.ref C,data:=.fields #v[.ref h.objs.size,.none,.none,.none,.bool Ux,.none]})
  λb o e=>b3 _ (b3 _ e)
 ext isInstance
 repeat (first|specialize WE l ?_|(specialize Yb a ?_;rw[u])|wp_step)
 show wpAny_typeLookup_tail a f m F.mroIs F.init.lookup ?_;rw[D];show VW (CL ?_);ext bindSpecial;show CL (Xb #[_,v,n] ?_);rw[ax ()];show UD (CL (wpAny_mono (z _ (h.objs.size+1) #[λb o G=>b3 _ (b3 _ G),cw (Z4 _),h.objs.size,l,cw (UG _),?_]) (λr c y=>?_) λ_ _ x=>x))
 .show b3 _ (Heap.get?_push_at W W)
 .let(rfl,H):=y
  wp_walk
  show H
def yl(Fn:XF R L X U)(i:Z.contains (.type R)=Uv)(F:XF B Y Y8 Z)(T:aeM h Z S)
  (a:h.get? C=M (excClassObj nm q C N bs S hdct sn sub ab col dd k0 k1 k2 k3 k5 L)) (p:h.Ns N mN) (s:mN "__init__"=M (.ref fI)) (f:h.get? fI=M o) (b:o.cls=.type "function")
  (j:∀c e,Heap.MadeExcOf h c e (.ref C) rest->wpAny (model J w) (A.under (.builtin "type.__call__" #[.ref C::rest,[]])) (call (.ref fI) (.ref e::rest)) (λr k=>r=.none/\Q (.ref e) k) E #[c,g,d,t,os]) (hrest:rest.length<=UK):
  wpAny (model J w) A (call (.ref C) rest) Q E #[h,g,d,t,os]:=by
 let n:=tc_lookup;let m:=tc_bind (.ref C);let l:(#[h,g,d,t,os]:UC).TypeIs (.ref C) "type":=#[_,a,W];show Y0 (codeAny_of_tree ?_)
 repeat (any_goals (first|assumption|specialize WE a ?_|wp_step))
 show#[W,?_];show codeAny_call_builtin_at (abb.quiet_builtin _ (by left)) entry_typeCall (wpAny_check_type_call_sub a (nJ (hrest:=hrest) Fn i F T a p s f b λc e hm=>?_));show j c e hm
end
section
variable{prog:UZ}{w:Vf}{A:Vb}{E:Ut->UC->Prop}{s:UC}{env:Env}
variable{nm q:Str}{C N:Uz}{bs Y Z:bb Ut}{hdct:Bool}{sn:bb Str}{sub:bb Ut}{ab:Bool}{col:bg Bool}{dd:bg Uz}{k0 k1 k2 k3 k5:bg Ut}{B Bn newId X Y8 U:String}{S:bb Ut}
def wA(Fn:XF Bn newId U S)(t:Z.contains (.type Bn)=Uv)(F:XF B X Y8 Z)
  (y:Y.contains (.type "BaseException")=Uv) (o:A.handled=Ld) (u:(backTo Xh (UW args env)).any (·.1)=Ux) (hi:mN "__init__"=cL (.ref fI)) (p:oI.cls=.type "function")
  (h:wpAny (model prog w) A (eval (.Name x np) env) (λf k=>f=.ref C/\wpAny (model prog w) A (evalArgs (.ref C) Uv (backTo Xh (UW args env)) [])
   (λa c=>a.kw=[]/\a.pos.length<=UK/\c.heap.get? C=cL (excClassObj nm q C N bs Y hdct sn sub ab col dd k0 k1 k2 k3 k5 newId)/\c.heap.Ns N mN/\c.heap.get? fI=cL oI/\aeM c.heap Z Y/\
    ∀h' e,Heap.MadeExcOf c.heap h' e (.ref C) a.pos->wpAny (model prog w) (A.under (.builtin "type.__call__" #[.ref C::a.pos,[]])) (call (.ref fI) (.ref e::a.pos)) (λr V=>r=.none/\∃D,V.heap.get? C=cL (excClassObj nm q C N bs Y hdct sn sub ab col dd k0 k1 k2 k3 k5 newId)/\V.heap.get? e=cL D/\D.cls=.ref C/\(∃fs,D.data=.fields fs/\fs[1]?=cL Ut.none)/\E (.ref e) V) E {c with heap:=h'}) E k) E s):
  wpAny (model prog w) A (exec (.Raise (cL (.Call (.Name x np) args [] Xh)) Ld pos) env) Q E s:=by
 rw[arm_exec_Raise]
 first
  |show CL (WI (hG y o (CL (wpAny_mono (Z9 (wpAny_mono h (λf k i=>?_) λ_ _ x=>x)) (λv l b=>CL (WI (UD b))) λ_ _ x=>x))))
  |(simp only[evalOpt,Option.map];show CL (WI (hG (C:=C) (nm:=nm) (q:=q) (N:=N) (bs:=bs) (hdct:=hdct) (sn:=sn) (sub:=sub) (ab:=ab) (col:=col) (dd:=dd) (k0:=k0) (k1:=k1) (k2:=k2) (k3:=k3) (k5:=k5) (newId:=newId) y o (CL (wpAny_mono (Z9 (wpAny_mono h (λf k i=>?_) λ_ _ x=>x)) (λv l b=>CL (WI (UD b))) λ_ _ x=>x)))))
  |(show CL (WI (hG y o ?_));show CL (wpAny_mono (Z9 (wpAny_mono h (λf k i=>?_) λ_ _ x=>x)) (λv l b=>CL (WI (UD b))) λ_ _ x=>x))
 let(rfl,i):=i;ext callWith;show CL (VW (wpAny_mono i (λa c j=>CL (WI ?_)) λ_ _ x=>x));let(G,P):=a;let(n,m,z,hn,I,T,j):=j;obtain rfl:=n;let(hp,g,d,R,os):=c;simp only[u];show CL (wpAny_keeperOf_exc z ?_);show CL (yl (hrest:=m) Fn t F T z hn hi I p λh' e hm=>wpAny_mono (j h' e hm) (λr V #[H,D,O,Mz0,L,K,J]=>#[H,CL (VW (wpAny_point (UD ?_)))]) λ_ _ x=>x);show#[e,D,W,O,Mz0,L,K,J]
end
end L9
namespace L9
open PySem PySem.W PyProof.Rows Builtin Builtin.ObjectAttr
abbrev GH:G U:=[.type "ValueError",.type "Exception",.type "BaseException",.type "object"]
section
variable{prog:UZ}{w:Vf}{A:Vb}{K:Frag}{B C x:Uz}{s:UC}{R:Zr->UC->Prop}{Z:ClassData}{name:Str}{Y:Tok}{v:Ut}{fs:Array Ut}
def Ir(X:K.In s.heap)(z:clsIn K C=cL Z)(hm:Z.mro=.ref C:: .ref B::GH)(hd:Z.hasDict=Uv)(D:findIn K (.ref C) name=cL Ld)(i:s.heap.get? x=cL #[.ref C,Ld,.fields fs,#v[]])
  (H:∀c k,c.get? x=cL #[.ref C,cL s.heap.objs.size,.fields fs,#v[]]->c.Ns1 s.heap.objs.size (λy=>if y=name then cL v else Ld)->(∀b o,b≠x->s.heap.get? b=cL o->c.get? b=cL o)->R (.ok (.ret .none)) {s with heap:=c,toks:=k}):
  codeAny (model prog w) A (.call (.builtin "object.__setattr__") #[[.ref x,.str name Y,v],[]]) R s:=by
 let I:InstAt s.heap x #[.ref C,Ld,.fields fs,#v[]] C Ld:=#[i,W,W,True.intro];let m:=PySem.F.store_object;let sub:Looks (model prog w) s.heap (isInstance (.ref x) (.type "object")) Uv:=I.type.andThen (looks_mroIn X (by ext mroIn;rw[z,Option.bind_some,hm,aE (by simp)];simp));show XZ m.slot.plain m.entry (@check_slot (model prog w) _ _ s "object.__setattr__" "object" "__setattr__" (.ref x) [.str name Y,v] [] _ m.kind m.split sub (m.args (.ref x) (.str name Y) v) ?_);let l:Looks (model prog w) s.heap (mroOf (.ref C)) Z.mro:=(looks_clsIn X z).andThen .now;rw[osa_eq,refuse_eq];show CL (CL (I.type.here (CL (l.here ?_))));rw[hm,ahC,ahC,PySem.F.store_ValueError.passes];show UD (CL (I.type.here (CL ((looks_findIn X D).here (CL (UD ?_))))));ext storeInOwnDict;show CL (UD (CL ?_));unfold ownDictForStores instanceDict;show CL (ahv i (CL ((looks_clsIn X z).here ?_)));rw[hd,aE ()];show wpAny _ _ (if(!Uv|| !typeHasDict (.ref C))=Uv then pure Ld else(do
        let d<-alloc {cls:=Ut.type "dict",data:=Data.dict #v[]}
        update x λo=>{cls:=o.cls,dict:=cL d,data:=o.data,slots:=o.slots}
        dictMade (.ref C) x d)) _ _ _
 rw[aE (by simp[typeHasDict])];let(h,g,d,t,S):=s;dsimp only at X i H I sub l⊢;let f:(h.push {cls:=.type "dict",data:=.dict #v[]}).get? x=cL #[.ref C,Ld,.fields fs,#v[]]:=b3 _ i;let a:=U3 (b4 i);show CL (wpAny_alloc' ?_);show CL (wpAny_update' f ?_);show UD ?_
 let q:((h.push {cls:=.type "dict",data:=.dict #v[]}).update x λo=>{cls:=o.cls,dict:=cL h.objs.size,data:=o.data,slots:=o.slots}).get? h.objs.size
   =cL {cls:=.type "dict",data:=.dict #v[]}:=
  (Heap.get?_update_ne _ _ _ _ a.symm).trans (Heap.get?_push_at W W)
 let p:((h.push {cls:=.type "dict",data:=.dict #v[]}).update x λo=>{cls:=o.cls,dict:=cL h.objs.size,data:=o.data,slots:=o.slots}).Ns h.objs.size (λ_=>Ld):=
  #[_,#v[],_,q,W,λe M=>a7 M (by simp),λ_=>W]
 unfold storeInDict newKeyGuard;show CL (UD (CL (wpAny_nsSet1 (Heap.Ns1.of_empty p) λc j G=>?_)));let(U,O,P,n,r,u):=j.count (Within.cons name v Within.nil);show CL (afi n (by rw[r];show afj (Vk u (by rw[UO,V7,WB];ext))) ?_);show UD (H c _ ?_ ?_ λb T E J=>?_)
 .show(G.2 x a).trans (cn _ f W)
 .let(L,es,Q,e1,e2,e3,N,e4):=j;show#[L,es,Q,e1,e2,e3,N,λy=>by rw[e4 y]]
 .show(G.2 b (U3 (b4 J))).trans ((Heap.get?_update_ne _ _ _ _ E).trans (b3 _ J))
theorem IW(X:K.In s.heap)(f:clsIn K C=M Z)(hm:Z.mro=.ref C:: .ref B::GH)(hd:Z.hasDict=S)(a:findIn K (.ref C) "__setattr__"=M (M (.builtin "object.__setattr__")))(h:findIn K (.ref C) name=M P)(d:s.heap.get? x=M #[.ref C,P,.fields fs,#v[]])
  (e:∀c g,c.get? x=M #[.ref C,M s.heap.objs.size,.fields fs,#v[]]->c.Ns1 s.heap.objs.size (λy=>if y=name then M v else P)->(∀b o,b≠x->s.heap.get? b=M o->c.get? b=M o)->Q ⟨⟩ {s with heap:=c,toks:=g}):
  wpAny (model prog w) A (setAttr (.ref x) name v) Q E s:=
 set_plain X (#[d,W,W,True.intro]:InstAt s.heap x #[.ref C,P,.fields fs,#v[]] C P) a (Ir X f hm hd h d e)
end
section
variable{L:UZ}{w:Vf}{A:Vb}{E:Ut->UC->Prop}{h:Heap}{g:Array YR}{d:acd}{t:Nat}{y:aa0}
variable{r q:Str}{C N:Uz}{bs v Z:bb Ut}{J:Bool}{sn:bb Str}{sub:bb Ut}{ab:Bool}{col:bg Bool}{dd:bg Uz}{k0 k1 k2 k3 k5:bg Ut}{B X Y u:String}
def Bg(F:XF B Y u Z)(T:aeM h Z v)
  (p:h.get? C=M (excClassObj r q C N bs v J sn sub ab col dd k0 k1 k2 k3 k5 X)) (j:h.get? e=M #[.ref C,P,.fields fs,#v[]]) (l:fs[0]?=M (.ref t0))
  (m:∀s k,s.get? e=M #[.ref C,P,.fields k,#v[]]->k[0]?=M (.ref h.objs.size)->(∀i,i≠0->k[i]?=fs[i]?)->(∀b o,b≠e->h.get? b=M o->s.get? b=M o)->Q .none #[s,g,d,t,y]) (c:rest.length<=UK):
  wpAny (model L w) A (call (.builtin u) (.ref e::rest)) Q E #[h,g,d,t,y]:=by
 show Y0 (XZ F.init.plain F.initEntry (wpAny_check_init_subU F T p j W ?_));unfold Builtin.«BaseException.__init__»;dsimp only;rw[aE (by simp)];unfold newTuple Builtin.BaseException.bexcPut;let f:=(VH.mp l).1;let a:(h.push {cls:=.type "tuple",data:=.seq rest.toArray}).get? e=M #[.ref C,P,.fields fs,#v[]]:=b3 _ j;show CL (Vw (CL (CL (Vo a W l (CL (WN a W f ?_))))) (by show rest.toArray.size<=UK;rw[UN];show c));show W9 (UD (m _ (fs.setIfInBounds 0 (.ref h.objs.size)) ?_ (by simp[f]) (λi hi=>by rw[ZD (dN hi)]) λb o n z=>?_))
 .show cn (Obj.mapFields (·.setIfInBounds 0 (.ref h.objs.size))) a W
 .show(ck _ _ (dN n)).trans (b3 _ z)
end
end L9
namespace L9
open PySem PySem.Spec PyProof.Rows L2
def PM(v:V):Prop:=v=.WL\/∃i:Int,v=.int i/\i.natAbs.log2<1920
def JV{i:Int}(h:i.natAbs.log2<1920):(Str.ofString (toString i)).length<=5000:=by let e:=int_text_length_le () h;rw[PySem.ofString_length];ext
def Mc(I:Inv X pins σ H s)(r:RelV v u)(f:PM v)
  (h:∀(y:Str) (t:Tok) (a:UC),y.length<=5000->Inv X pins σ H a->Q (.str y t) a):wpAny (model X.prog X.w) A (formatField u Str.empty) Q E s:=by
 rcases f with rfl|⟨i,rfl,b⟩
 .obtain rfl:=r;show wpAny_formatField_none (h _ _ _ () (I.tok _))
 .let(t,rfl):=r;show formatField_int_small b (h _ _ _ (JV b) (I.tok _))
def PJ(X:Cx)(es:G U4)(n:Nat)(t:L2.St->Hp->(Hp->Prop)->Prop):Prop:=
 ∀(a:G (I×Obj)) (s:UC) (d:L2.St) (H:Hp) (b:Str) (Q:Hp->Prop),Inv X a d H s->b.length+n<=1000000->t d H Q->
  wpAny (model X.prog X.w) X.A (joinParts b (evalEach es X.env)) (λv g=>∃(y:Str) (f:Tok) (e:Hp),v=.str y f/\Inv X a d e g/\Q e) X.xe s
section
variable{X:Cx}{e:U4}{es:bb U4}{n:Nat}{T:TE}{t:L2.St->Hp->(Hp->Prop)->Prop}{Y:Pos}
def L6:PJ X [] 0 (λ_ H Q=>Q H):=by intro a s d H b Q I f h;show joinParts_nil #[_,_,H,W,I.tok _,h] (by rw[WB];ext)
def NK(g:x.length<=5000)(f:PJ X es n t):PJ X (.Constant (.str x) k Y::es) (n+5000) t:=by intro a s d H b Q I i h;show joinParts_consE (joinParts_cons (Calls.Constant_str ?_));let e:=ajy b x;show#[by rw[WB];ext,f a _ d H (b++x) Q (I.tok _) () h]
def MJ(g:PE X e T)(d:PJ X es n t):PJ X (.FormattedValue e (-1) P Y::es) (n+5000) (λσ H Q=>T σ H λv H1=>PM v/\t σ H1 Q):=by intro a s σ H b Q I w h;show joinParts_consE (joinParts_cons (FormattedValue_plain (bT (g a s σ H _ I h) λu m a=>?_)));let(v,H1,i,r,f,q):=a;show Mc i r f λy l o p j=>?_;let e:=ajy b y;show#[by rw[WB];ext,d a _ σ H1 (b++y) Q j () q]
def JU(h:PJ X (e1::e2::es) n t)(c:n<=900000):PE X (.JoinedStr (e1::e2::es) Y) (λσ H Q=>t σ H λH1=>∀y:Str,Q (.str y) H1):=by intro a s σ H Q I b;show JoinedStr_many (bT (h a s σ H Str.empty _ I (by show 0+n<=1000000;ext) b) λv i #[y,g,H1,d,f,q]=>?_);subst d;show#[.str y,H1,f,#[_,W],q y]
end
def GF(C e:I):Heap->Prop:=λh=>∃fs t0,h.get? e=M #[.ref C,P,.fields fs,#v[]]/\fs[0]?=M (.ref t0)/\fs[1]?=M .none
def PK(C e p:I):Heap->Prop:=λh=>∃fs a0,h.get? e=M #[.ref C,M p,.fields fs,#v[]]/\fs[0]?=M a0/\fs[1]?=M .none
structure XC(K:lD)(C B fI:I):Prop where
 obj:∃nm q N bs sn sub ab col dd k0 k1 k2 k3 k5,K.lookup C=M (excClassObj nm q C N bs (.ref B::GH) S sn sub ab col dd k0 k1 k2 k3 k5 "ValueError.__new__")/\ZW K N=S/\U8 K N "__init__"=M (M (.ref fI))
 base:Xu K B GH "ValueError.__new__"=S
 sa:Vt K (.ref C) "__setattr__"=M (M (.builtin "object.__setattr__"))
def v9{K:lD}(q:Xu K B GH n=S):YC K GH (.ref B::GH)=S:=by
 unfold Xu at q;split at q
 .rename_i dd e d b
  split at q
  .simp only[Uu,beq_iff_eq,Xo]at q;let(((((_,_),_),_),VQ),a):=q;ext YC;dsimp only;rw[b];dsimp only;rw[VQ,a,show YC K GH GH=S from by ext YC;rw[eg,Xn],eg,Wn,Wn,ZC]
  .ext q
 .ext q
section
variable{X:Cx}{B C fI:Uz}{pos U Y:Pos}{Z:U4}{as:bb U4}{t:TA}{b:Str}
def D3(h:H a=M o):aX H a o=H:=by
 funext c;by_cases z:c=a
 .rw[z,aC,h]
 .rw[ay z]
def Nc(C:I)(t:TA):TE:=λd H Q=>t d H λf a=>∃e y,f=[.ref e,.str y]/\a e=M (.ext (GF C e))/\Q .WL a
def EK{pl:Sem Bool}(V:Gl X b)(hm:X.mg b=cL (.ref B))(D:ZH X.K B (.type "type")=Uv)(hf:ZI X.K (.ref B) (.type "type") "__init__"=cL (.val (.builtin "ValueError.__init__")))
  (k:Xf X.K (.ref B) "__getattribute__"=cL (cL (.builtin "type.__getattribute__"))) (v:XC X.K C B fI) (ha:PA X (Z::as) t)
  (cX:UW (Z::as) X.env=(Ux,eval Z X.env)::UW as X.env:=by rfl) (ZR:(backTo pos (UW as X.env)).any (·.1)=Ux:=by rfl) (l:(b==("__debug__":Str))=Ux:=by decide)
  (c:eval (.Call (.Attribute (.Name b U) "__init__" Y) (Z::as) [] pos) X.env=(do
   let ov<-eval (.Name b U) X.env
   standAt Y.atName
   let(f,first)<-holding [ov] (getMethod ov "__init__" pl)
   callWith pos f first (backTo pos (UW (Z::as) X.env)) (backToKw pos (keywordEach [] X.env))):=by rfl):
  PE X (.Call (.Attribute (.Name b U) "__init__" Y) (Z::as) [] pos) (Nc C t):=by
 intro a s F H Q I h;show Ys (pl:=pl) (jD I V hm ?_ l) c;show PySem.W.method_cls I.ZJ k (PySem.W.cls_value I.ZJ D hf () ?_);let A:=ha pos a {s with toks:=s.toks+1} F H _ (I.tok _) h;rw[cX]at A⊢;show Calls.callWith_builtin (by show(Ux||(backTo pos (UW as X.env)).any (·.1))=Ux;rw[ZR]<;>rfl) (Calls.evalArgs_plain (bT A λus p #[vs,E,i,r,e,y,ev,m,q]=>?_));subst ev;let(M,u2,rfl,R,P):=Fq r;obtain rfl:M=.ref e:=R;let(tk,rfl):=P;let((fs,t0,g1,g2,g3),_,gk):=(show ObjOk X.prog X.w E p.heap e (.ext (GF C e))from i.VQ e _ m);let(nm,q',N,bs,sn,sub,ab,col,dd,k0,k1,k2,k3,k5,S,VQ,hin):=v.obj;let T:=abf i.ZJ (v9 v.base);let(h2,g,d,j,os):=p;show Bg WU T (i.ZJ _ _ S) g1 g2 (λh' n e1 e2 e3 e4=>?_) (by show 1<=UK;decide);show#[.WL,E,?_,W,q];let w:=i.write (x:=e) (e:=e) (o:=.ext (GF C e)) (h':=h') (t':=j) (by rw[m];show True.intro) (.inl W) (λb u hb z=>e4 b u hb z) #[_,e1] #[#[n,_,e1,e2,by rw[e3 1 ()];show g3],#[_,e1],λh1 h2 #[f1,O,L,J,G] hk=>#[f1,O,hk _ L,J,G]];rw[D3 m]at w;show w
def P6(C:I)(f:Str)(c g:TE):TS:=λD a H=>g a H λv h=>c a h λx d=>∃e,x=.ref e/\d e=M (.ext (GF C e))/\∀p,d p=P->p≠e->D.nx a (aX (aX d e (.ext (PK C e p))) p (.xd [(f,v)]))
def Jw(M:XC X.K C B fI)(hn:Vt X.K (.ref C) f=cL Ld)(ha:PE X o ta)(c:PE X value tv)(V:W0 value (cL (.Attribute o f pos')) pos.line X.env=pure Ux):PS X (.Assign [.Attribute o f pos'] value pos) (P6 C f ta tv):=by
 intro j s E H D I h;show aah (bT (c j s E H _ I h) λu s1 #[v,H1,I1,rv,q]=>bT (ha j s1 E H1 _ I1 q) λov m a=>?_) V;let(x,Pz0,r,rx,e,ex,i,q2):=a;subst ex;obtain rfl:=rx;let((fs,t0,O,g2,g3),_,gk):=(show ObjOk X.prog X.w Pz0 m.heap e (.ext (GF C e))from r.VQ e _ i);let(nm,q',N,bs,sn,sub,ab,col,dd,k0,k1,k2,k3,k5,lk,VQ,hin):=M.obj;obtain⟨A,hc,G,J⟩:∃A,ac1 X.K C=cL A/\A.mro=.ref C:: .ref B::GH/\A.hasDict=Uv:=by ext ac1;rw[lk];show#[_,W,W,W]
 show IW r.ZJ hc G J M.sa hn O λh' T e1 e2 e3=>?_;let pe:=VI (b4 O);let p:=r.VQ.fresh (UG _);show#[E,_,?_,q2 m.heap.objs.size p pe];let l:∀b o,m.heap.get? b=cL o->b≠m.heap.objs.size:=λb o z=>U3 (b4 z);show r.un #[λb o z n _ _=>e3 b o (λy=>by rw[y,i]at n;ext n) z,λb o z n _ _=>#[o.slots,e3 b o (λy=>by rw[y,i]at n;ext n) z],λb o z n _=>?_,λb o z _=>?_,λb xs z=>?_,λb o u z=>?_,λb ps z=>#[#v[],?_]] ?_
 .rw[ay (l b o z),ay (λy=>by rw[y,i]at n;ext n)];show n
 .by_cases y:b=e
  .subst y;show#[_,e1]
  .show#[o,e3 b o y z]
 .rw[ay (λy=>by rw[y,p]at z;ext z),ay (λy=>by rw[y,i]at z;ext z)];show z
 .rw[ay (λy=>by rw[y,p]at z;ext z),ay (λy=>by rw[y,i]at z;ext z)];show z
 .rw[ay (λy=>by rw[y,p]at z;ext z),ay (λy=>by rw[y,i]at z;ext z),z];simp
 .intro a o z
  by_cases L:a=m.heap.objs.size
  .subst L
   rw[aC]at z;ext z;show#[_,e2,λg=>?_];show Yi (match g==f with|true=>cL v|false=>Wy g []) (if g=f then cL u else Ld);cases d:g==f with
   |true=>rw[ax (beq_iff_eq.mp d)];show rv
   |false=>rw[aE (λw=>by rw[beq_iff_eq.mpr w]at d;ext d)];show True.intro
  .rw[ay L]at z
   by_cases F:a=e
   .subst F;rw[aC]at z;ext z;show#[#[fs,_,e1,g2,g3],#[_,e1],λh1 h2 #[f1,t1,S1,R1,Q] hk=>#[f1,t1,hk _ S1,R1,Q]]
   .rw[ay F]at z
    let own:∀b,Pz0 b=cL (.own a)->b≠e/\b≠m.heap.objs.size:=λb y=>#[(λk=>by rw[k,i]at y;ext y),(λk=>by rw[k,p]at y;ext y)];show(r.VQ a o z).YF (λb w d y=>e3 b w (λk=>?_) y) (λb y=>by rw[ay (own b y).2,ay (own b y).1];show y) λb xs y=>by rw[ay (λk=>by rw[k,p]at y;ext y),ay (λk=>by rw[k,i]at y;ext y)];show y
    rcases d with d|d
    .show F (d.symm.trans k)
    .show(own b d).1 k
end
end L9
namespace L9
open PySem PySem.Spec PyProof.Rows L2 L4
def PF(H:Hp)(e:I):Hp:=λa=>if a=e then P else H a
theorem oM:PF H e e=P:=ax W
theorem iJ(h:a≠e):PF H e a=H a:=aE h
def xg{K:lD}(X:K.In h)(G:h.Ns N C)(e:U8 K N n=M (M v)):C n=M v:=by
 let(o,es,m,d,i,_,f):=G;unfold U8 at e;split at e
 .rename_i j l b a
  let:=(X _ _ a).symm.trans d;ext this;ext i;split at e
  .rename_i p g;ext e;rw[<-f];unfold nsFind findBy;rw[<-abS,g];rfl
  .split at e<;>ext e
 .ext e
def Mi{K:lD}(i:WH K (.ref f)=S)(l:K.lookup f=M o):o.cls=.type "function":=by unfold WH acu at i;dsimp only at i;rw[l]at i;show UT (beq_iff_eq.mp i)
section
variable{X:Cx}{Z:bb (Uz×Obj)}{Y:L2.St}{H:Hp}{s:UC}{T:Heap}{e:Uz}{o:HO}
def JZ(I:L2.Inv X Z Y H s)(k:∀b u,s.heap.get? b=M u->T.get? b=M u)(n:s.heap.get? e=P)(new:ObjOk X.prog X.w (aX H e o) T e o):L2.Inv X Z Y (aX H e o) {s with heap:=T,toks:=t'}:=by
 let d:=vZ I.VQ n;let ne:∀b u,s.heap.get? b=M u->b≠e:=λb u z y=>by rw[y,n]at z;ext z
 show I.un #[λb u z _ _ _=>k b u z,λb u z _ _ _=>#[u.slots,k b u z],λb u z q _=>by rw[ay (ne b u z)];show q,λb u z _=>#[u,k b u z],λb xs z=>?_,λb u v z=>?_,λb f z=>#[#v[],?_]] ?_
 .rw[ay (λy=>by rw[y,d]at z;ext z)];show z
 .rw[ay (λy=>by rw[y,d]at z;ext z)];show z
 .rw[ay (λy=>by rw[y,d]at z;ext z),z];simp
 .intro a u z
  by_cases y:a=e
  .subst y;rw[aC]at z;ext z;show new
  .rw[ay y]at z;show(I.VQ a u z).YF (λb w _ q=>k b w q) (λb q=>by rw[ay (λw=>by rw[w,d]at q;ext q)];show q) λb xs q=>by rw[ay (λw=>by rw[w,d]at q;ext q)];show q
def Hu(I:L2.Inv X Z Y H s)(d:H e=M (.ext C)):L2.Inv X Z Y (PF H e) s:=by
 let:=I.un (t':=s.toks) (H':=PF H e) #[λb u z _ _ _=>z,λb u z _ _ _=>#[u.slots,z],λb u z q _=>?_,λb u z _=>#[u,z],λb xs z=>?_,λb u v z=>?_,λb f z=>#[#v[],?_]] ?_
 .show this
 .by_cases y:b=e
  .rw[y];show oM
  .rw[iJ y];show q
 .rw[iJ (λy=>by rw[y,d]at z;ext z)];show z
 .rw[iJ (λy=>by rw[y,d]at z;ext z)];show z
 .rw[iJ (λy=>by rw[y,d]at z;ext z),z];simp
 .intro a u z
  let y:a≠e:=λy=>by rw[y,oM]at z;ext z
  rw[iJ y]at z;show(I.VQ a u z).YF (λb w _ q=>q) (λb q=>by rw[iJ (λw=>by rw[w,d]at q;ext q)];show q) λb xs q=>by rw[iJ (λw=>by rw[w,d]at q;ext q)];show q
end
def Aq(C:I)(sp:Sp)(E:XK)(c:TA):TS:=λ_ d H=>c d H λf b=>f.length<=UK/\∀e,b e=P->sp (.ref e::(f++[])) (aX b e (.ext (GF C e))) (λv a=>v=.WL/\∃p,a e=M (.ext (PK C e p))/\E (.ref C) (M p) (PF a e)) E0
def BH{K:lD}
  (Y:XC K C B fI) (R:K.lookup fI=cL oI) (c:WH K (.ref fI)=Uv) (FI:FnOk Pz0 w K mg base jY k fI fdI ps sp) (bI:Binds K fdI ps [])
  (hr:Wr (k+1) (eP (kK Pz0 w) Pz0 w K mg base N qual scope f cd A outer s0 H0 E).A)
  (hg:Gl (eP (kK Pz0 w) Pz0 w K mg base N qual scope f cd A outer s0 H0 E) x) (hm:mg x=cL (.ref C)) (ha:PA (eP (kK Pz0 w) Pz0 w K mg base N qual scope f cd A outer s0 H0 E) (e0::es) ta)
  (F:(x==("__debug__":Str))=Ux:=by decide)
  (U:UW (e0::es) (eP (kK Pz0 w) Pz0 w K mg base N qual scope f cd A outer s0 H0 E).env=(Ux,eval e0 (eP (kK Pz0 w) Pz0 w K mg base N qual scope f cd A outer s0 H0 E).env)::UW es (eP (kK Pz0 w) Pz0 w K mg base N qual scope f cd A outer s0 H0 E).env:=by rfl)
  (ZR:(backTo Xh (UW es (eP (kK Pz0 w) Pz0 w K mg base N qual scope f cd A outer s0 H0 E).env)).any (·.1)=Ux:=by rfl):
  PS (eP (kK Pz0 w) Pz0 w K mg base N qual scope f cd A outer s0 H0 E) (.Raise (cL (.Call (.Name x np) (e0::es) [] Xh)) Ld pos) (Aq C sp E ta):=by
 intro j s σ H D I h;let(nm,qn,Nn,bs,sn,sub,ab,col,dd,k0,k1,k2,k3,k5,Q,VQ,n):=Y.obj;let a:=I.ok.mod.kin;let oC:=a _ _ Q;let O:=Heap.Ns.of_isNs (PySem.W.isNs_of_in a VQ);let ni:=xg a O n;let oF:=a _ _ R;let T:=abf a (v9 Y.base);show wA (nm:=nm) (q:=qn) (N:=Nn) (bs:=bs) (hdct:=Uv) (sn:=sn) (sub:=sub) (ab:=ab) (col:=col) (dd:=dd) (k0:=k0) (k1:=k1) (k2:=k2) (k3:=k3) (k5:=k5) WU (by left) WU (T.hasType WU.hasBase) (I.ok.hd W)
  (by rw[U];show(Yl _).trans ZR) ni (Mi c R) (jD I hg hm #[W,?_] F)
 let go:=ha Xh j s σ H _ I h;rw[U]at go⊢;show Calls.evalArgs_plain (bT go λd i a=>?_);let(vs,H1,g,r,hl,q):=a;show#[W,by rw[<-r.length];show hl,g.bk _ _ oC,O.keeps g.bk,g.bk _ _ oF,T.keeps g.bk,λh' e l=>?_];let(t,y,y2,y3):=l.there;let hn:=vZ g.VQ l.new;let S:=q e hn;let J:=JZ (t':=i.toks) (o:=.ext (GF C e)) g l.keeps l.new #[#[_,t,y,W,W],#[_,y],λh1 h2 #[f1,t1,z1,z2,z3] hk=>#[f1,t1,hk _ z1,z2,z3]];let M:Vals (V.ref e::(vs++[])) (Ut.ref e::(d++[])):=.cons W (r.append .nil);let m:(Ut.ref e::d++[]).length=ps.length:=by let z:=M.length;rw[FI.len _ _ _ _ S]at z;show z.symm
 let old:s0.heap.get? e=Ld:=by
  cases z:s0.heap.get? e with
  |none=>rfl
  |some o=>let(o',L):=g.base.there e o z (λy=>nomatch y);rw[l.new]at L;ext L
 let bi:=bI {heap:=h',gens:=i.gens,drawn:=i.drawn,toks:=i.toks,os:=i.os} (Ut.ref e::d) J.ZJ m;rw[ac2]at bi;show Y0 (Y1 (FI.run _ (eP (kK Pz0 w) Pz0 w K mg base N qual scope f cd A outer s0 H0 E).stack _ _ #[Ut.ref e::d,[]] (Ut.ref e::(d++[])) _ _ E0 (hr.make C d []) (J.aee.make C d []) bi M S) λr s' b=>?_);cases r with
 |error e=>show b.elim
 |ok fl=>
  cases fl with
  |ret u=>let(v,H',G,rv,ev,p,X,q3):=J.after b;subst ev;let((fs,a0,g1,g2,Z),_,_):=(show ObjOk _ _ H' s'.heap e (.ext (PK C e p))from G.VQ e _ X);show#[rv,_,G.ZJ _ _ Q,g1,W,#[fs,W,Z],?_];show K0 (hd:=Ld) (Hu G X) #[_,_,g1,W,W,W,g2,Z] old (λT z=>nomatch z) oM (λT z=>nomatch z) q3
  |next=>show False.elim b
  |brk=>show False.elim b
  |cont=>show False.elim b
end L9
namespace L9
open PySem PySem.Spec PySem.W PyProof.Rows L2 L3 L4
section
variable{Y:UZ}{w:Vf}{A:Vb}{E:Ut->UC->Prop}{h:Heap}{g:Array YR}{d:acd}{t:Nat}{Q:aa0}{a C:Uz}{o:Obj}{K:lD}{N:bg Obj}{X:Str}{v:Ut}
  {L J:Str} {B:Uz} {y u:bb Ut} {r:Bool} {q:bb Str} {p:bb Ut} {n:Bool} {m:bg Bool} {l:bg Uz} {j i f e b:bg Ut} {T:String}
end
def tT(C:I)(f:Str):Sp:=λa H Q _=>∃e v,a=[.ref e,v]/\PM v/\H e=M (.ext (GF C e))/\∀p,H p=P->p≠e->Q .WL (aX (aX H e (.ext (PK C e p))) p (.xd [(f,v)]))
def Qq:D->Bool
 |.none=>S
 |.int i=>decide (i.natAbs.log2<1920)
 |_=>R
end L9
namespace L3
open PySem PySem.Spec PyProof.Rows L2
mutual
def Tb:UB->Bool
 |.tuple ds=>Mb ds
 |.int _=>Uv
 |.str _=>Uv
 |.bool _=>Uv
 |.none=>Uv
 |_=>Ux
def Mb:bb UB->Bool
 |[]=>Uv
 |d::r=>Tb d&&Mb r
end
section
variable{K:lD}{E:XK}{B:bF}{Y:Hp}{O Z:bF}{X:L2.St}{H T:Hp}{Q:aQ}
def G2(h:Ya K H a xs)(l:H a=M (.lst ys)):Ya K (λ_=>P) a xs:=by
 rcases h with(h|⟨o,h⟩)|h
 .rw[l]at h;ext h
 .rw[l]at h;ext h
 .show .inr h
mutual
theorem Km(f:∀b,O b->¬Z b->∃ys,H b=cL (.lst ys)):∀{v:V} {d:D},DV Z K H v d->Tb d=Uv->DV O K H v d
 |_,_,.WL,_=>.WL
 |_,_,.bl b,_=>.bl b
 |_,_,.int i,_=>.int i
 |_,_,.str x,_=>.str x
 |_,_,.tup (a:=a) h hs,e=>.tup ⟨h.1,λz=>by
   by_cases y:Z a
   .exact h.2 y
   .obtain⟨ys,q⟩:=f a z y;exact G2 h.1 q⟩ (vY f hs e)
 |_,_,.lst h hs,e=>by cases e
theorem vY(a:∀b,O b->¬Z b->∃ys,H b=cL (.lst ys)):∀{vs:bb V} {ds:bb D},Wb Z K H vs ds->Mb ds=Uv->Wb O K H vs ds
 |_,_,.nil,_=>.nil
 |_,_,.cons h hs,e=>by have d:=Bool.and_eq_true_iff.mp e;exact .cons (Km a h d.1) (vY a hs d.2)
end
end
end L3
namespace PyProof.Rows
open PySem
section
variable{Y:UZ}{w:Vf}{A:Vb}{E:Ut->UC->Prop}{s:UC}
def pP(b:h.get? a=M (seqObj "list" o.toArray n)):∃e,(sortedHeap h a o out).get? a=M (seqObj "list" out e):=by let d:=get?_update_seq b (λ_=> #v[]);show#[_,get?_update_seq (b3 _ (b3 _ d)) _]
theorem m9(d:b≠a)(e:h.get? b=M o):(sortedHeap h a C out).get? b=M o:=
 (ck _ _ (dN d)).trans (b3 _ (b3 _ ((ck _ _ (dN d)).trans e)))
def w9{l:I}{c:G U}{i:G Int}{Q:U->UC->Prop}(j:s.heap.IsTuple l c.toArray)(v:IntsAre c i)(g:c.length<64)
  (h:∀(a k:Heap) (out:Array U) (e:Nat) (d:G Int),(∀b o,s.heap.get? b=M o->a.get? b=M o)->k.get? a.objs.size=M (seqObj "list" out e)->(∀b o,a.get? b=M o->k.get? b=M o)->IntsAre out.toList d->d.Perm i->d.Pairwise (·<=·)->Q (.ref a.objs.size) {s with heap:=k}):
  wpAny (model Y w) A (call (.builtin "sorted") [.ref l]) Q E s:=by
 let(o,p,u,n,t):=j;show Calls.call_function_entry kind_sorted plain_sorted entry_sorted (args_sorted1 _) (CL (m:=checkCount "sorted" 1 1 _) (UD (CL (wpAny_collect_seq l (.inr W) p u t (λa q=>CL (ajz ?_)) (by rw[UN,WB];ext)))));let f:(a.push (seqObj "list" c.toArray 0)).get? a.objs.size=M (seqObj "list" c.toArray 0):=cc _ W;show CL (VW (Wf slot_list_sort #[_,f,W] entry_list_sort (list_sort_tree f v g λout d C B y=>#[_,W,UD #[_,W,?_]]) (args_list_sort _)));let(e,r):=pP (out:=out) f;show h a _ out e d q r (λb F z=>m9 (U3 (b4 z)) (b3 _ z)) C B y
end
end PyProof.Rows
namespace L9
open PySem PySem.Spec PyProof.Rows L2 L3
section
variable{K:lD}{E:XK}
def sN:W3 X (.builtin "sorted") (λxs H Q=>∃(p:Uz) (d:bb Int),xs=[.ref p]/\Ya X.K H p (d.map V.int)/\d.length<64/\∀(l:Uz) (a:bb Int),H l=P->a.Perm d->a.Pairwise (·<=·)->Q (.ref l) (aX H l (.lst (a.map V.int)))):=by
 intro i s B H xs C Q I r h;let(p,d,rfl,t,z,q):=h;let(u,rfl,n):=jj r;ext n;let(J,L,pl,F):=I.tuple t;let v:=L.length;rw[Uy]at v;show w9 pl (kB L) () λA G f e a w y g N j o=>?_;let b:=j.length_eq;let m:=I.kept (t':=s.toks) w;show#[.ref A.objs.size,_,m.laid g (UG _) ?_,W,q _ a (m.VQ.fresh (UG _)) j o];show#[?_,f.toList,e,ia N,y];rw[Uy,b];let:(64:Nat)<=UK:=by decide
 ext
theorem ud:W3 X (.builtin "sorted") (λxs H Q=>(∃(p:I) (a:G Int),xs=[.ref p]/\Yr X.K H p (a.map V.int)/\a.length<64/\∀(l:I) (b:G Int),H l=P->b.Perm a->b.Pairwise (·<=·)->Q (.ref l) (aX H l (.lst (b.map V.int))))\/
  (∃(p:I) (a:G Int),xs=[.ref p]/\Ya X.K H p (a.map V.int)/\a.length<64/\∀(l:I) (b:G Int),H l=P->b.Perm a->b.Pairwise (·<=·)->Q (.ref l) (aX H l (.lst (b.map V.int))))):=L2.W3.or vI sN
def fC:G D->z RV
 |[.tuple ds]=>(match l8 ds with
  |some a=>if a.length<64 then M (.ow ((jx a).map .int))else P
  |none=>P)
 |ds=>uA ds
def wW:AW K (λxs H Q=>(∃(p:I) (b:G Int),xs=[.ref p]/\Yr K H p (b.map V.int)/\b.length<64/\∀(l:I) (d:G Int),H l=P->d.Perm b->d.Pairwise (·<=·)->Q (.ref l) (aX H l (.lst (d.map V.int))))\/
  (∃(p:I) (b:G Int),xs=[.ref p]/\Ya K H p (b.map V.int)/\b.length<64/\∀(l:I) (d:G Int),H l=P->d.Perm b->d.Pairwise (·<=·)->Q (.ref l) (aX H l (.lst (d.map V.int))))) fC:=by
 intro O H xs ds t Q n g e q;unfold fC at e;split at e
 .split at e
  .rename_i b i
   split at e
   .rename_i u
    ext e;cases g with
    |cons o m=>ext m;let(a,v,rfl,h,r):=Al o;rw[nY r i]at h;show .inr #[a,b,W,h.1,u,λl d j f cX=>?_];let e2:=jQ (f.trans (dX b).symm) cX (dC b);subst e2;show q.new (oY _) l j
   .ext e
  .ext e
 .show .inl (A6 O H xs ds t Q n g e q)
end
end L9
namespace L9
open PySem PySem.W PyProof.Rows Builtin Builtin.ObjectAttr
open PySem.Spec L2
open L3 L4
def D8(C:I)(f g:Str):Sp:=λa H Q _=>∃e v u,a=[.ref e,v,u]/\PM v/\PM u/\H e=M (.ext (GF C e))/\∀p,H p=P->p≠e->Q .WL (aX (aX H e (.ext (PK C e p))) p (.xd [(g,u),(f,v)]))
def Kb:D->z RV
 |.tuple ds=>M (.fz (.tuple ds.reverse))
 |_=>P
theorem zy{K:lD}{O:bF}{H:Hp}:∀{a:G V} {ds:G D},Wb O K H a ds->Wb O K H a.reverse ds.reverse
 |_,_,.nil=>.nil
 |_,_,.cons h t=>by rw[Wg,Wg];show(zy t).append (.cons h .nil)
def Mv{K:lD}{E:XK}{c:TE}{k:FE}(s:EO K E c k):EO K E (Q6 K c (C5 (Tf (rU λi=>.int (-i)) (tC (.int 1))))) (Px Kb k):=by
 intro B q O h H u Q R w;show s B q O h H u _ R (w.bind.imp λa e r x t e1 g m=>?_);let(d,j,e):=e.VD;let(C,f,e):=e.VD;let A:=nc g m j;unfold Kb at f;split at f
 .ext f;let(b,y,rfl,k1,k2):=Al A;show#[1,W,-1,W,W,b,y,W,k1.1,?_];show Fin.ab2 (zy k2) g.od (kz (rv:=.fz (.tuple _)) g λo v p e4 n l=>e o v p (e1.trans e4) n l)
 .ext f
end L9
namespace LD
open PySem PyProof.Rows L2 L3
mutual
def kd:UB->Bool
 |.none=>Uv
 |.int _=>Uv
 |.str x=>UB.strOk x
 |.tuple xs=>kds xs
 |_=>Ux
def kds:bb UB->Bool
 |[]=>Uv
 |x::r=>kd x&&kds r
end
def keyD:UB->Bool
 |.tuple xs=>kds xs&&decide ((UB.tuple xs).depth<=8)
 |_=>R
mutual
theorem kd_lay:∀d:UB,kd d=Uv->d.canLay0=Uv
 |.none,_=>rfl
 |.int _,_=>rfl
 |.str x,h=>by unfold UB.canLay0;unfold kd at h;exact h
 |.tuple xs,h=>by unfold UB.canLay0;unfold kd at h;exact Ab xs h
 |.bool _,h|.list _,h|.dict _,h=>by simp[kd]at h
theorem Ab:∀xs:bb UB,kds xs=Uv->UB.canLayAll0 xs=Uv
 |[],_=>rfl
 |x::r,h=>by unfold kds at h;rw[Uu]at h;unfold UB.canLayAll0;rw[kd_lay x h.1,Ab r h.2];rfl
end
mutual
theorem kd_eqv:∀d e:UB,kd d=Uv->kd e=Uv->UB.eqv d e=Uv->d=e
 |.none,e,_,h,q=>by cases e<;>simp_all [kd,UB.eqv]
 |.int i,e,_,h,q=>by cases e<;>simp_all [kd,UB.eqv]
 |.str x,e,_,h,q=>by cases e<;>simp_all [kd,UB.eqv]
 |.tuple xs,e,g,h,q=>by
  cases e with
  |tuple a=>rw[UB.eqv]at q;unfold kd at g h;rw[kds_eqv xs a g h q]
  |_=>simp_all [kd,UB.eqv]
 |.bool _,_,h,_,_|.list _,_,h,_,_|.dict _,_,h,_,_=>by simp[kd]at h
theorem kds_eqv:∀xs ys:bb UB,kds xs=Uv->kds ys=Uv->UB.eqvAll xs ys=Uv->xs=ys
 |[],[],_,_,_=>rfl
 |[],_::_,_,_,q=>by simp[UB.eqvAll]at q
 |_::_,[],_,_,q=>by simp[UB.eqvAll]at q
 |x::xs,y::ys,g,h,q=>by unfold kds at g h;rw[UB.eqvAll]at q;rw[Uu]at g h q;rw[kd_eqv x y g.1 h.1 q.1,kds_eqv xs ys g.2 h.2 q.2]
end
def FP[Decidable (d=e)](hd:kd d=S)(a:kd e=S):UB.eqv d e=decide (d=e):=by
 by_cases q:d=e
 .subst q;rw[a4 W];show SeqAt.eqv_refl d (kd_lay d hd)
 .rw[a5 q]
  cases z:UB.eqv d e with
  |false=>rfl
  |true=>show a7 (kd_eqv d e hd a z) q
def keyD_kd(h:keyD d=S):kd d=S/\d.depth<=8:=by
 cases d with
 |tuple xs=>unfold keyD at h;rw[Uu]at h;show#[by ext kd;show h.1,a6 h.2]
 |_=>simp[keyD]at h
mutual
def ph(w:Vf):UB->Int
 |.none=>reduceHash 0xFCA86420
 |.int i=>hashInt i
 |.str x=>hashStr w x
 |.tuple xs=>reduceHash (Builtin.Tuple.tupleHashOf (oU w xs))
 |_=>0
def oU(w:Vf):bb UB->bb Int
 |[]=>[]
 |x::r=>ph w x::oU w r
end
mutual
def Sf:UB->Nat
 |.tuple xs=>HQ xs+1
 |_=>1
def HQ:bb UB->Nat
 |[]=>0
 |x::r=>Sf x+HQ r
end
section
variable{prog:UZ}{w:Vf}{E:Ut->UC->Prop}
mutual
theorem An:∀(d:UB) (v:Ut) (as:bb Uz) (A:Vb) (s:UC) (Q:Int->UC->Prop),kd d=Uv->abd s.heap v d as->A.units+d.depth<cLine->Q (ph w d) {s with toks:=s.toks+Sf d}->wpAny (model prog w) A (pyHash v) Q E s
 |.none,_,_,A,s,Q,_,r,hu,h=>by cases r;exact aa1 (T:= "NoneType") rfl F.slot_NoneType_hash F.entry_NoneType_hash (F.args_NoneType_hash_1 _) (afq _) (.inr (by ext)) (CL (UD (CL (wpAny_mkInt (UD ⟨_,_,rfl,h⟩)))))
 |.int i,_,_,A,s,Q,_,r,_,h=>by cases r;exact afe h
 |.str x,_,_,A,s,Q,_,r,_,h=>by cases r;exact aff h
 |.tuple xs,_,_,A,s,Q,hk,r,hu,h=>by
  cases r with
  | @tuple a o vs n _ _ h1 h2 h3 h4=>
   refine aa1 (T:= "tuple") ⟨_,h1,h2⟩ F.slot_tuple_hash F.entry_tuple_hash (F.args_tuple_hash_1 _) (afq _) (.inr (by ext)) ?_;show wpAny _ _ (Builtin.Tuple.tupleItemsOf (.ref a)>>=_) _ _ s;refine CL (wpAny_tupleItemsOf h1 h3 ?_);refine CL ?_;rw[<-abX];unfold kd at hk;refine rX xs vs.toList _ A.in1 s #v[] _ hk h4 (by simp only[UB.depth,Vb.in1_units]at hu⊢;ext) λb e=>?_;show wpAny _ _ (retInt (Builtin.Tuple.tupleHashOf b.toList)) _ _ _;rw[e];refine CL (wpAny_mkInt (UD ⟨_,_,rfl,?_⟩));unfold ph Sf at h
   simpa [Zp]using h
 |.bool _,_,_,_,_,_,h,_,_,_|.list _,_,_,_,_,_,h,_,_,_|.dict _,_,_,_,_,_,h,_,_,_=>by simp[kd]at h
theorem rX:∀(xs:bb UB) (vs:bb Ut) (as:bb Uz) (A:Vb) (s:UC) (b:Array Int) (Q:Array Int->UC->Prop),kds xs=Uv->Zs s.heap vs xs as->A.units+UB.depthAll xs<cLine->
  (∀b':Array Int,b'.toList=b.toList++oU w xs->Q b' {s with toks:=s.toks+HQ xs})->
  wpAny (model prog w) A (forIn vs b λx r=>do let h<-pyHash x;pure PUnit.unit;pure (ForInStep.yield (r.push h))) Q E s
 |[],_,_,A,s,b,Q,_,x,_,h=>by cases x;exact UD (h b (by simp[oU]))
 |k::xs,_,_,A,s,b,Q,hk,x,hu,h=>by
  cases x with
  |cons d a=>
   unfold kds at hk;simp only[Uu,UB.depthAll]at hk hu;rw[XM];refine CL (CL (An k _ _ A s _ hk.1 d (by ext) ?_));refine CL (UD (UD ?_));refine rX xs _ _ A _ _ Q hk.2 a (by ext) λb' e=>?_;have:=h b' (by simp[e,oU]);unfold HQ at this
   simpa [Zp]using this
end
theorem u8:∀(n:Nat) (d:UB) (v:U) (as:G I) (A:Vb) (s:UC) (Q:Bool->UC->Prop),kd d=S->abd s.heap v d as->d.depth<=n->Q S s->wpAny (model prog w) A (eqIsQuiet n v) Q E s
 |n,.none,_,_,A,s,Q,_,r,_,h=>by ext r;rw[aaa _ W];show UD h
 |n,.int i,_,_,A,s,Q,_,r,_,h=>by ext r;rw[aaa _ W];show UD h
 |n,.str i,_,_,A,s,Q,_,r,_,h=>by ext r;rw[aaa _ W];show UD h
 |0,.tuple xs,_,_,A,s,Q,t,r,q,h=>by simp only[UB.depth]at q;ext
 |n+1,.tuple xs,_,_,A,s,Q,t,r,q,h=>by
  cases r with
  | @tuple a o J m _ _ h1 C B u=>
   let g:s.TypeIs (.ref a) "tuple":=#[_,h1,C];simp only[UB.depth]at q;ext eqIsQuiet;show CL (Za g F.slot_tuple_eq.lookup ?_);show CL (YT g isSubtype_tuple_tuple ?_);simp only[aaF,WM,if_false];show CL (VX h1 B ?_);show CL ?_;rw[<-abX];unfold kd at t;show wpAny_forIn_list _ (λb r e=>r.1=P/\e=s/\∃ys bs,kds ys=S/\Zs s.heap b ys bs/\UB.depthAll ys<=n) _ ?_ ?_ _ _ #[W,W,xs,_,t,u,by ext]
   .rintro v b r e ⟨f,rfl,ys,bs,k1,k2,k3⟩
    cases k2 with
    | @cons _ _ y p _ _ g1 g2=>unfold kds at k1;simp only[Uu,UB.depthAll]at k1 k3;show CL (u8 n y v _ A e _ k1.1 g1 () ?_);simp only[aaF,WM,if_false];show UD #[W,W,p,_,k1.2,g2,by ext]
   .rintro⟨l,j⟩ e ⟨f,rfl,_⟩;simp only at f;subst f;show UD h
 |_,.bool _,_,_,_,_,_,h,_,_,_|_,.list _,_,_,_,_,_,h,_,_,_|_,.dict _,_,_,_,_,_,h,_,_,_=>by simp[kd]at h
end
mutual
theorem rP{h h':Heap}{x:Uz}{b:Obj}{es:Array Xt}{i:Nat}(e:h.get? x=cL b)(g:b.data=.dict es i)(f:Heap.SameBut x h h'):∀(d:UB) (v:Ut) (as:bb Uz),kd d=Uv->abd h v d as->abd h' v d as
 |.none,_,_,_,r=>by cases r;exact .none
 |.int _,_,_,_,r=>by cases r;exact .int _ _
 |.str _,_,_,_,r=>by cases r;exact .str _ _
 |.tuple xs,_,_,k,r=>by
  cases r with
  | @tuple a o vs n _ _ h1 h2 h3 h4=>
   have j:a≠x:=by rintro rfl;rw[e]at h1;cases h1;rw[g]at h3;exact nomatch h3
   unfold kd at k;exact .tuple ((f.2 a j).trans h1) h2 h3 (oX e g f xs _ _ k h4)
 |.bool _,_,_,h,_|.list _,_,_,h,_|.dict _,_,_,h,_=>by simp[kd]at h
theorem oX{h h':Heap}{x:Uz}{a:Obj}{es:Array Xt}{j:Nat}(b:h.get? x=cL a)(f:a.data=.dict es j)(e:Heap.SameBut x h h'):∀(ds:bb UB) (vs:bb Ut) (as:bb Uz),kds ds=Uv->Zs h vs ds as->Zs h' vs ds as
 |[],_,_,_,r=>by cases r;exact .nil
 |d::ds,_,_,k,r=>by
  cases r with
  |cons i g=>unfold kds at k;rw[Uu]at k;exact .cons (rP b f e d _ _ k.1 i) (oX b f e ds _ _ k.2 g)
end
abbrev KD:={d:UB//keyD d=S}
noncomputable instance kdDec:DecidableEq KD:=λ_ _=>Classical.propDecidable _
def fP(prog:UZ)(w:Vf):HeapKind prog w KD where
 is:=λh k a=>∃as,abd h (.ref a) k.1 as
 hash:=λk=>ph w k.1
 draws:=λk=>Sf k.1
 room:=λA=>A.units+8<cLine
 inj:=λ#[_,r] #[_,f]=>Subtype.ext (abd.unique r _ _ f).1
 keeps:=λ{h l k a d o es m} #[as,r] j hd i=>#[as,rP j hd i k.1 _ _ (keyD_kd k.2).1 r]
 pyHash:=λ{A E s k a Q} g #[as,r] q=>An k.1 _ as A s Q (keyD_kd k.2).1 r (by let:=(keyD_kd k.2).2;ext) q
 eqBool:=λ{A E s x y a b Q} g #[as,r] #[bs,f] q=>SeqAt.eqAt_reads x.1 y.1 A s _ _ as bs r f (kd_lay _ (keyD_kd x.2).1) (kd_lay _ (keyD_kd y.2).1) (by let:=(keyD_kd x.2).2;ext) prog w E Q (by
  haveI:Decidable (x.1=y.1):=Classical.propDecidable _
  rw[FP (keyD_kd x.2).1 (keyD_kd y.2).1];by_cases e:x=y
  .rw[a4 e]at q;rw[a4 (ef Subtype.val e)];show q
  .rw[a5 e]at q;rw[a5 λz=>e (Subtype.ext z)];show q)
 quiet:=λ{A E s k a Q} #[as,r] q=>u8 8 k.1 _ as A s Q (keyD_kd k.2).1 r (keyD_kd k.2).2 q
def T5(a:I)(xs:G (KD×I×V))(w:Vf)(h:Heap):Prop:=
 (xs.length<=UK/\(a==Wv)=R/\(xs.map (·.1)).Nodup)/\∃o es b,h.get? a=M o/\o.ExactDict/\o.data=.dict es b/\Paired (λ(x:KD×I×V) (e:Xt)=>e.hash=ph w x.1.1/\e.key=.ref x.2.1/\RelV x.2.2 e.val) xs es.toList
abbrev DkO(a:I)(xs:G (KD×I×V)):HO:=.exw (T5 a xs)
abbrev PrD(O:bF)(K:lD)(H:Hp):G (KD×I×V)->G (D×D)->Prop:=
 Paired λx a=>x.1.1=a.1/\L3.DV O K H (.ref x.2.1) a.1/\L3.DV O K H x.2.2 a.2
end LD
namespace L10
open PySem L2 L3
inductive AV where
 |fz (d:D)
 |rf (i:Nat)
inductive SV where
 |fz (d:D)
 |rf (i:Nat)
 |tp (l:G AV)
def AV.sv:AV->SV
 |.fz d=>.fz d
 |.rf i=>.rf i
inductive Cell where
 |lst (xs:G SV)
 |Zm (U7:G (b5×SV))
 |obj (C:Str) (fs:G (Str×SV))
 |dd (U7:G (D×D))
 |dead
abbrev aL:=G Cell
abbrev aV:=G (z SV)
inductive RS(α:Type) where
 |ok (a:α) (ω:aL)
 |er (x:Xc) (ω:aL)
 |bad
def RS.bind(r:RS α)(f:α->aL->RS β):RS β:=match r with
 |.ok a b=>f a b
 |.er x b=>.er x b
 |.bad=>.bad
def RS.VD(b:aL):z α->RS α
 |some a=>.ok a b
 |none=>.bad
theorem RS.bind_ok(a:α)(b:aL)(f:α->aL->RS β):(RS.ok a b).bind f=f a b:=W
abbrev ej:=@RS.bind_ok
def Lv(α:G I)(a:aL):bF:=λb=>∃(i:Nat) (c:Cell),α[i]?=M b/\a[i]?=M c/\c≠Cell.dead
def ow(B:bF)(α:G I)(a:aL):bF:=λb=>B b\/Lv α a b
section
variable(O:bF)(K:lD)(H:Hp)(Z:bb Uz)
def AOk(v:V):AV->Prop
 |.fz d=>DV O K H v d
 |.rf i=>∃a,Z[i]?=M a/\v=.ref a
def Xl(v:V):SV->Prop
 |.fz d=>DV O K H v d
 |.rf i=>∃a,Z[i]?=M a/\v=.ref a
 |.tp l=>∃a xs,v=.ref a/\YE O K H a xs/\Paired (AOk O K H Z) xs l
abbrev Xd:G V->G SV->Prop:=Paired (Xl O K H Z)
def COk(a:I):Cell->Prop
 |.lst xs=>∃d,H a=M (.lst d)/\Xd O K H Z d xs
 |.Zm b=>∃ws:G (b5×V),H a=M (.dK ws)/\Paired (λ(p:b5×V) (q:b5×SV)=>p.1=q.1/\Xl O K H Z p.2 q.2) ws b
 |.obj C fs=>∃e f ws,U8 K UY C=M (M (.ref e))/\H a=M (.ins e f ws)/\Paired (λ(p:Str×V) (q:Str×SV)=>p.1=q.1/\Xl O K H Z p.2 q.2) ws fs
 |.dd b=>∃xs,H a=M (LD.DkO a xs)/\LD.PrD O K H xs b
 |.dead=>True
def W7(a:L2.St)(b:aV):Prop:=a.length=b.length/\∀(i:Nat) (x:SV),b[i]?=M (M x)->∃v,a[i]?=M (M v)/\Xl O K H Z v x
end
structure Vc(B:bF)(K:lD)(H:Hp)(α:G I)(ω:aL):Prop where
 len:α.length=ω.length
 nd:∀(i j:Nat) (a:I),α[i]?=M a->α[j]?=M a->i=j
 bn:∀a,B a->H a≠P
 ba:∀a,B a->∀i:Nat,α[i]?≠M a
 al:∀(i:Nat) (a:I),α[i]?=M a->H a≠P
 cel:∀(i:Nat) (a:I) (c:Cell),α[i]?=M a->ω[i]?=M c->COk (ow B α ω) K H α a c
structure Wm(α:G I)(ω:aL)(H:Hp)(α':G I)(ω':aL)(H':Hp):Prop where
 pre:∀(i:Nat) (a:I),α[i]?=M a->α'[i]?=M a
 kp:∀b o,H b=M o->¬Lv α ω b->H' b=M o
 lv:∀b,Lv α' ω' b->Lv α ω b\/H b=P
section
variable{B O Q:bF}{K:lD}{E:XK}{H J S N:Hp}{Z Y U T:bb Uz}{L X t R:aL}{σ:L2.St}{ρ:aV}{v:V}
theorem Wm.refl:Wm Z L H Z L H:=#[λ_ _ h=>h,λ_ _ h _=>h,λ_ h=>.inl h]
def Wm.trans(a:Wm Z L H U t S)(b:Wm U t S T R N):Wm Z L H T R N:=by
 let d:∀b o,H b=M o->¬Lv Z L b->¬Lv U t b:=λb o h n z=>(a.lv b z).elim n λq=>by simp_all
 show#[λi p h=>b.pre i p (a.pre i p h),λp o h n=>b.kp p o (a.kp p o h n) (d p o h n),λp h=>?_];rcases b.lv p h with h|h
 .show a.lv p h
 .cases q:H p with
  |none=>simp_all
  |some o=>show .inl (Classical.byContradiction λn=>?_);rw[a.kp p o q n]at h;ext h
theorem Wm.same(s:Wj H J):Wm Z L H Z L J:=#[λ_ _ h=>h,λb o h _=>s b o h,λ_ h=>.inl h]
theorem Wm.ev(e:Wm Z L H Y X J):Ev (ow B Z L) H (ow B Y X) J:=λb o h n=>
 #[e.kp b o h λz=>n (.inr z),λz=>z.elim (λq=>n (.inl q)) λq=>(e.lv b q).elim (λq=>n (.inr q)) λq=>by simp_all]
def AOk.ev(e:Ev O H Q J)(p:∀(i:Nat) (a:I),Z[i]?=M a->Y[i]?=M a)(h:AOk O K H Z v x):AOk Q K J Y v x:=by
 cases x with
 |fz d=>show DV.ev e h
 |rf i=>let(a,f,b):=h;show#[a,p i a f,b]
def Xl.ev(e:Ev O H Q J)(p:∀(i:Nat) (a:I),Z[i]?=M a->Y[i]?=M a)(h:Xl O K H Z v x):Xl Q K J Y v x:=by
 cases x with
 |fz d=>show DV.ev e h
 |rf i=>let(a,f,b):=h;show#[a,p i a f,b]
 |tp l=>let(a,xs,f,b,g):=h;show#[a,xs,f,b.ev e,Paired.X9 g λ_ _ q=>q.ev e p]
theorem Xl.WQ(e:Wm Z L H Y X J)(h:Xl (ow B Z L) K H Z v x):Xl (ow B Y X) K J Y v x:=h.ev e.ev e.pre
theorem Xd.WQ(e:Wm Z L H Y X J)(h:Xd (ow B Z L) K H Z vs xs):Xd (ow B Y X) K J Y vs xs:=Paired.X9 h λ_ _ q=>q.WQ e
theorem W7.WQ(e:Wm Z L H Y X J)(h:W7 (ow B Z L) K H Z σ ρ):W7 (ow B Y X) K J Y σ ρ:=#[h.1,λi x q=>let#[v,h1,a]:=h.2 i x q;#[v,h1,a.WQ e]]
def COk.ev(e:Ev O H Q J)(p:∀(i:Nat) (a:I),Z[i]?=M a->Y[i]?=M a)(j:∀o,H a=M o->J a=M o)(h:COk O K H Z a c):COk Q K J Y a c:=by
 cases c with
 |lst xs=>let(l,d,b):=h;show#[l,j _ d,Paired.X9 b λ_ _ q=>q.ev e p]
 |Zm n=>let(ws,d,b):=h;show#[ws,j _ d,Paired.X9 b λ_ _ q=>#[q.1,q.2.ev e p]]
 |obj C fs=>let(g,m,ws,f,d,b):=h;show#[g,m,ws,f,j _ d,Paired.X9 b λ_ _ q=>#[q.1,q.2.ev e p]]
 |dd n=>let(xs,d,b):=h;show#[xs,j _ d,Paired.X9 b λ_ _ q=>#[q.1,q.2.1.ev e,q.2.2.ev e]]
 |dead=>trivial
theorem Vc.noO(s:Vc B K H Z L):lg (ow B Z L) H:=λa h z=>z.elim (λq=>s.bn a q h) λ#[i,c,q,_]=>s.al i a q h
theorem Vc.owd(s:Vc B K H Z L):∀a,ow B Z L a->H a≠P:=λa z h=>s.noO a h z
def Vc.grow(s:Vc B K H Z L)(e:Wj H J):Vc B K J Z L:=by let n:∀a,H a≠P->J a≠P:=λa h z=>h (e.free z);show#[s.len,s.nd,λa h=>n a (s.bn a h),s.ba,λi a h=>n a (s.al i a h),λi a c d b=>(s.cel i a c d b).ev (Ev.grow e) (λ_ _ h=>h) λo h=>e _ _ h]
def Vc.at(s:Vc B K H Z L){i:Nat}(h:L[i]?=M c):∃a,Z[i]?=M a:=by let:i<L.length:=(Uw.mp h).1;rw[<-s.len]at this;simp_all
theorem Vc.adp(s:Vc B K H Z L){i:Nat}(h:Z[i]?=M a):¬B a:=λz=>s.ba a z i h
def xh{i:Nat}{c m:Cell}(h:L[i]?=M c)(n:c≠.dead)(g:m≠.dead){b:I}:Lv Z (L.set i m) b↔Lv Z L b:=by
 constructor
 .rintro⟨j,d,f,a,l⟩
  rcases bQ a with⟨rfl,rfl⟩|⟨_,a⟩
  .show#[j,c,f,h,n]
  .show#[j,d,f,a,l]
 .rintro⟨j,d,f,a,l⟩
  by_cases e:j=i
  .subst e;show#[j,m,f,by rw[VP (Uw.mp h).1],g]
  .show#[j,d,f,by rw[Vx (λz=>e z.symm)];show a,l]
def Ow(h:L[i]?=M c)(d:c≠.dead)(a:o≠.dead):ow B Z (L.set i o)=ow B Z L:=by funext b;show propext #[λz=>z.imp id (xh h d a).mp,λz=>z.imp id (xh h d a).mpr]
theorem Wm.put(j:Z[i]?=M a)(h:L[i]?=M c)(f:c≠.dead)(d:c'≠.dead):Wm Z L H Z (L.set i c') (aX H a o):=
 #[λ_ _ h=>h,λb g q n=>by let z:b≠a:=λe=>n #[i,c,by simp_all,h,f];rw[ay z];show q,λb z=>.inl ((xh h f d).mp z)]
def Vc.put(s:Vc B K H Z L)(k:Z[i]?=M a)(h:L[i]?=M c)(m:c≠.dead)(f:c'≠.dead)(new:COk (ow B Z L) K (aX H a o) Z a c'):Vc B K (aX H a o) Z (L.set i c'):=by
 let e:Wm Z L H Z (L.set i c') (aX H a o):=Wm.put k h m f;let n:∀b,H b≠P->aX H a o b≠P:=λb h=>by
  by_cases z:b=a
  .subst z;rw[aC];simp
  .rw[ay z];show h
 show#[by rw[Vz];show s.len,s.nd,λb h=>n b (s.bn b h),s.ba,λj b h=>n b (s.al j b h),λj b d l g=>?_];rcases bQ g with⟨rfl,rfl⟩|⟨p,g⟩
 .rw[k]at l;ext l;rw[Ow h m f];show new
 .show(s.cel j b d l g).ev e.ev e.pre λu q=>by rw[ay (λz=>p (s.nd j i a (by simp_all) k))];show q
theorem oQ{i:Nat}{a:I}{c:Cell}{o:HO}(d:Z[i]?=M a)(h:L[i]?=M c)(b:c≠.dead):Ev (ow B Z L) H (ow B Z L) (aX H a o):=Ev.mut (.inr #[i,c,d,h,b]) o
def aY{Z:Type}{l:G Z}{x y:Z}{i:Nat}(h:(l++[x])[i]?=M y):l[i]?=M y\/(i=l.length/\y=x):=by
 by_cases hi:i<l.length
 .rw[UL hi]at h;show .inl h
 .rw[Va ()]at h
  cases q:i - l.length with
  |zero=>rw[q]at h;ext h;show .inr #[by ext,W]
  |succ n=>rw[q]at h;ext h
def dP{Z:Type}{l:G Z}{x y:Z}{i:Nat}(h:l[i]?=M y):(l++[x])[i]?=M y:=by rw[UL (Uw.mp h).1];show h
def aJ:(l++[x])[l.length]?=M x:=by simp
def oV(g:Z.length=L.length)(h:Lv (Z++[p]) (L++[c]) b):Lv Z L b\/b=p:=by
 let(i,d,e,a,f):=h;rcases aY e with e|⟨e1,e2⟩
 .rcases aY a with a|⟨e1,e2⟩
  .show .inl #[i,d,e,a,f]
  simp_all
 .show .inr e2
theorem Wm.aag(d:Z.length=L.length)(s:Wj H J)(f:H p=P):Wm Z L H (Z++[p]) (L++[c]) J:=
 #[λi a h=>dP h,λb u q _=>s b u q,λb z=>(oV d z).imp id λe=>by simp_all]
def Vc.aag(s:Vc B K H Z L)(e:Wj H J)(l:H p=P)(m:J p≠P)(new:COk (ow B (Z++[p]) (L++[c])) K J (Z++[p]) p c):Vc B K J (Z++[p]) (L++[c]):=by
 let ev:Wm Z L H (Z++[p]) (L++[c]) J:=Wm.aag s.len e l;let n:∀b,H b≠P->J b≠P:=λb h z=>h (e.free z);show#[by rw[UE,UE,s.len];rfl,λi j a f g=>?_,λa h=>n a (s.bn a h),λa h i q=>?_,λi a h=>?_,λi a d f g=>?_]
 .rcases aY f with g1|⟨e1,e2⟩<;>rcases aY g with g2|⟨e3,e4⟩
  .show s.nd i j a g1 g2
  .show a7 (by rw[e4];show l) (s.al i a g1)
  .show a7 (by rw[e2];show l) (s.al j a g2)
  .omega
 .rcases aY q with q|⟨_,e2⟩
  .show s.ba a h i q
  .subst e2;show s.bn a h l
 .rcases aY h with h|⟨_,e2⟩
  .show n a (s.al i a h)
  simp_all
 .rcases aY g with g|⟨e1,e2⟩
  .rcases aY f with f|⟨e1,_⟩
   .show(s.cel i a d f g).ev ev.ev ev.pre λo q=>e _ _ q
   .let:=(Uw.mp g).1;let:=s.len;ext
  .rcases aY f with f|⟨_,e3⟩
   .let:=(Uw.mp f).1;let:=s.len;ext
   simp_all
def WS(K:lD)(E:XK)(B:bF)(H:Hp)(Z:G I)(L:aL)(P:A->G I->aL->Hp->Prop):RS A->Prop
 |.ok a X=>∀Y J,Wm Z L H Y X J->Vc B K J Y X->P a Y X J
 |.er x X=>∀c b Y J,Wm Z L H Y X J->Vc B K J Y X->XOk K (ow B Y X) J c b x->E c b J
 |.bad=>False
def WS.from(e:Wm Z L H U t S)(h:WS K E B H Z L d r):WS K E B S U t d r:=by
 cases r with
 |ok a R=>show λT N e2 b=>h T N (e.trans e2) b
 |er x R=>show λc f T N e2 b=>h c f T N (e.trans e2) b
 |bad=>show h
def WS.bind(h:WS K E B H Z L b (r.bind k)):WS K E B H Z L (λa U t S=>WS K E B S U t b (k a t)) r:=by
 cases r with
 |ok a t=>show λU S e1 _=>WS.from e1 h
 |er x t=>show h
 |bad=>show h
def WS.VD(h:WS K E B H Z L b ((RS.VD L o).bind k)):∃a,o=M a/\WS K E B H Z L b (k a L):=by
 cases o with
 |none=>show h.elim
 |some a=>show#[a,W,h]
def WS.imp(h:WS K E B H Z L d r)(g:∀a Y X J,Wm Z L H Y X J->Vc B K J Y X->d a Y X J->P' a Y X J):WS K E B H Z L P' r:=by
 cases r with
 |ok a t=>show λU S e1 b=>g a U t S e1 b (h U S e1 b)
 |er x t=>show h
 |bad=>show h
theorem WS.now(s:Vc B K H Z L)(h:WS K E B H Z L b (.ok a L)):b a Z L H:=h Z H .refl s
end
abbrev cR:=aV->aL->RS SV
abbrev ri:=aV->aL->RS Bool
abbrev u6:=aV->aL->RS (G SV)
def ce(K:lD)(E:XK)(t:TE)(f:cR):Prop:=
 ∀(B:bF) (d:L2.St) (H:Hp) (α:G I) (g:aL) (h:aV) (Q:VK),Vc B K H α g->W7 (ow B α g) K H α d h->WS K E B H α g (λx a b e=>∀v,Xl (ow B a b) K e a v x->Q v e) (f h g)->t d H Q
def uD(K:lD)(E:XK)(t:TT)(f:ri):Prop:=
 ∀(B:bF) (a:L2.St) (H:Hp) (α:G I) (e:aL) (g:aV) (Q:Bool->Hp->Prop),Vc B K H α e->W7 (ow B α e) K H α a g->WS K E B H α e (λb _ _ d=>Q b d) (f g e)->t a H Q
def uC(K:lD)(E:XK)(t:TA)(f:u6):Prop:=
 ∀(B:bF) (d:L2.St) (H:Hp) (α:G I) (g:aL) (h:aV) (Q:G V->Hp->Prop),Vc B K H α g->W7 (ow B α g) K H α d h->WS K E B H α g (λxs a b e=>∀i,Xd (ow B a b) K e a i xs->Q i e) (f h g)->t d H Q
section
variable{B O N:bF}{K:lD}{E:XK}{H H' U H2:Hp}{Z P Y J:bb Uz}{ω M ω1 T:aL}{X:L2.St}{ρ:aV}{v:V}
def LG:z SV->z PV
 |some (.fz d)=>cL (.fz d)
 |_=>Ld
def bP(ρ:aV):aQ:=ρ.map LG
def su{i:Nat}(h:(bP ρ)[i]?=cL (cL x)):∃d,x=.fz d/\ρ[i]?=cL (cL (.fz d)):=by
 unfold bP at h;rw[UJ]at h;cases q:ρ[i]? with
 |none=>simp_all
 |some o=>
  rw[q]at h;let a:=UT h;unfold LG at a;split at a
  .ext a;show#[_,W,W]
  .ext a
def DS(s:Vc B K H Z ω)(a:W7 (ow B Z ω) K H Z X ρ):Rl K (ow B Z ω) H (ow B Z ω) X H (bP ρ):=by
 show#[Wj.refl _,λ_ h=>h,s.owd,s.noO,by ext bP;rw[Uy];show a.1,λi x h=>?_,λi j ds es w h=>?_]
 .let(d,rfl,b):=su h;let(v,g,f):=a.2 i _ b;show#[v,g,f]
 .let(d,e,_):=su h;ext e
def jw(ω:aL):RV->RS SV
 |.fz d=>.ok (.fz d) ω
 |.ow ds=>.ok (.rf ω.length) (ω++[.lst (ds.map .fz)])
abbrev PQ(B:bF)(K:lD)(Q:VK):SV->G I->aL->Hp->Prop:=λx P M H'=>∀v,Xl (ow B P M) K H' P v x->Q v H'
theorem kq(O:bF)(Z:G I):∀{a:G V} {ds:G D},Wb O K H a ds->Xd O K H Z a (ds.map .fz)
 |_,_,.nil=>.nil
 |_,_,.cons h t=>.cons h (kq O Z t)
theorem Cr:∀{a:G V} {ds:G D},Xd O K H Z a (ds.map .fz)->Wb O K H a ds
 |_,[],.nil=>.nil
 |_,_::_,.cons h t=>.cons h (Cr t)
def pT(s:Vc B K H Z ω)(w:WS K E B H Z ω (PQ B K Q) (jw ω (.ow ds)))(e:Wj H H')(a:H p=Ld)(h:H' p=cL (.lst o))(hd:Wb N K H' o ds)(d:∀b,ow B Z ω b->N b)(f:N p):Q (.ref p) H':=by
 let sub:∀b,ow B (Z++[p]) (ω++[.lst (ds.map .fz)]) b->N b:=λb z=>z.elim (λq=>d b (.inl q)) λq=>(oV s.len q).elim (λq=>d b (.inr q)) λq=>by simp_all
 show w (Z++[p]) H' (Wm.aag s.len e a) (s.aag e a (by rw[h];simp) #[o,h,kq _ _ (hd.ev (Ev.sub sub))]) (.ref p) #[p,by rw[<-s.len];show aJ,W]
def Fo(s:Vc B K H Z ω)(w:WS K E B H Z ω (PQ B K Q) (jw ω o)):Fin (ow B Z ω) K H Q o:=by
 cases o with
 |fz d=>show λv H' e a=>w Z H' (Wm.same e) (s.grow e) v a
 |ow ds=>show λp g H' e f h a=>pT s w e f h a (λb z=>.inl z) (.inr W)
def ag(f:FE):cR:=λρ ω=>match f (bP ρ)with
 |.ok (.fz d,_)=>.ok (.fz d) ω
 |.ok (.ow ds,_)=>jw ω (.ow ds)
 |.ok (.pl _,_)=>.bad
 |.er x=>.er x ω
 |.bad=>.bad
def wu(h:EO K E t f):ce K E t (ag f):=by
 intro B X H Z ω ρ Q s g w;show h (ow B Z ω) H (ow B Z ω) X H (bP ρ) Q (DS s g) ?_;unfold ag at w;cases q:f (bP ρ)with
 |bad=>rw[q]at w;show w.elim
 |er x=>rw[q]at w;show λc u H' e k=>w c u Z H' (Wm.same e) (s.grow e) k
 |ok r=>
  let(pv,b):=r;rw[q]at w;intro N v H' e R p;cases pv with
  |fz d=>show w Z H' (Wm.same R.same) (s.grow R.same) v (DV.ev (Ev.sub R.bo) p)
  |ow ds=>let(a,y,rfl,n,m,l,j,o):=p;show pT s w R.same m l j R.bo n
  |pl i=>show w.elim
def bq(f:FT):ri:=λρ ω=>match f (bP ρ)with
 |.ok (b,_)=>.ok b ω
 |.er x=>.er x ω
 |.bad=>.bad
def E4(h:TTO K E t f):uD K E t (bq f):=by
 intro B X H Z ω ρ Q s d w;show h (ow B Z ω) H (ow B Z ω) X H (bP ρ) Q (DS s d) ?_;unfold bq at w;cases q:f (bP ρ)with
 |bad=>rw[q]at w;show w.elim
 |er x=>rw[q]at w;show λc g H' e k=>w c g Z H' (Wm.same e) (s.grow e) k
 |ok r=>let(b,a):=r;rw[q]at w;show λN H' e R=>w Z H' (Wm.same R.same) (s.grow R.same)
def ar(i:Nat):cR:=λρ ω=>match ρ[i]? with
 |some (cL x)=>.ok x ω
 |_=>.bad
def tS:ce K E (qK i) (ar i):=by
 intro B X H Z ω ρ Q s a w;unfold ar at w;cases q:ρ[i]? with
 |none=>rw[q]at w;show w.elim
 |some o=>
  cases o with
  |none=>rw[q]at w;show w.elim
  |some x=>rw[q]at w;let(v,d,b):=a.2 i x q;show#[v,d,WS.now s w v b]
def jX(K:lD)(C:Str)(fs:G Str):Prop:=∃a,U8 K UY C=cL (cL (.ref a))/\Cls K a/\∀f∈fs,X8 K a f
def aU(C f:Str)(e:cR):cR:=λρ ω=>(e ρ ω).bind λx ω1=>match x with
 |.rf i=>(match ω1[i]? with
  |some (.obj D fs)=>if D=C then RS.VD ω1 (fs.lookup f)else .bad
  |_=>.bad)
 |_=>.bad
def BF:∀{ws:G (Str×V)} {fs:G (Str×SV)},Paired (λ(p:Str×V) (q:Str×SV)=>p.1=q.1/\Xl O K H Z p.2 q.2) ws fs->fs.lookup f=cL x->∃v,ws.lookup f=cL v/\Xl O K H Z v x:=by
 intro ws fs p
 induction p with
 |nil=>intro h;ext h
 | @cons a b _ _ q t g=>
  let(a,v):=a;let(b,y):=b;let(e,d):=q;intro h;ext e;rw[Vr]at h⊢;split at h
  .ext h;show#[v,W,d]
  .show g h
def BR:∀{ws:G (Str×V)} {fs:G (Str×SV)},Paired (λ(p:Str×V) (q:Str×SV)=>p.1=q.1/\Xl O K H Z p.2 q.2) ws fs->fs.lookup f=Ld->ws.lookup f=Ld:=by
 intro ws fs p
 induction p with
 |nil=>intro h;rfl
 | @cons a b _ _ q t g=>
  let(a,v):=a;let(b,y):=b;let(d,e):=q;intro h;ext d;rw[Vr]at h⊢;split at h
  .ext h
  .show g h
def GR(o:jX K C L)(n:f∈L)(k:ce K E ta fa):ce K E (OM K ta f) (aU C f fa):=by
 intro B X H Z ω ρ Q s h w;show k B X H Z ω ρ _ s h (w.bind.imp λx Y ω1 U e1 e b v j=>?_);cases x with
 |fz d=>show b.elim
 |tp l=>show b.elim
 |rf i=>
  let(a,k,rfl):=j;dsimp only at b;cases q:ω1[i]? with
  |none=>rw[q]at b;show b.elim
  |some c=>
   rw[q]at b;cases c with
   |obj D fs=>
    dsimp only at b;by_cases z:D=C
    .subst z
     rw[ax W]at b;let(F,dx,ws,t,r,p):=e.cel i a _ k q;cases ql:fs.lookup f with
     |none=>rw[ql]at b;show b.elim
     |some x=>rw[ql]at b;let(u,m,g):=BF p ql;let(G,g0,A,y):=o;rw[t]at g0;ext g0;show#[a,F,dx,ws,u,W,r,A,y f n,m,WS.now e b u g]
    .rw[aE z]at b;show b.elim
   |_=>show b.elim
def aF{Z a:Type}(f:Z->z a):G Z->z (G a)
 |[]=>cL []
 |x::r=>match f x with
  |some y=>(match aF f r with
   |some b=>cL (y::b)
   |none=>Ld)
  |none=>Ld
def BQ:Nat->aL->SV->z D
 |_,_,.fz d=>cL d
 |0,_,_=>Ld
 |n+1,ω,.rf i=>match ω[i]? with
  |some (.lst xs)=>(aF (BQ n ω) xs).map .list
  |_=>Ld
 |n+1,ω,.tp l=>(aF (λx=>BQ n ω x.sv) l).map .tuple
theorem cg{Z a:Type}{f:Z->z a}{R:V->Z->Prop}{S:V->a->Prop}(h:∀v x y,R v x->f x=cL y->S v y):∀{c:G V} {xs:G Z} {d:G a},Paired R c xs->aF f xs=cL d->Paired S c d
 |_,_,_,.nil,e=>by ext e;show .nil
 |_,_,_,.cons (b:=x) (l₂:=xs) r t,e=>by
  unfold aF at e;cases q:f x with
  |none=>simp_all
  |some y=>
   rw[q]at e;dsimp only at e;cases g:aF f xs with
   |none=>simp_all
   |some d=>rw[g]at e;ext e;show .cons (h _ _ _ r q) (cg h t g)
def jq:∀{b:G V} {ds:G D},Paired (DV O K H) b ds->Wb O K H b ds:=by
 intro _ _ p
 induction p with
 |nil=>show .nil
 |cons h t a=>show .cons h a
theorem KF:Ev O H noO H:=Ev.sub λ_ z=>z.elim
theorem jU(s:Vc B K H Z ω):∀(n:Nat) {v:V} {x:SV} {d:D},Xl (ow B Z ω) K H Z v x->BQ n ω x=cL d->DV noO K H v d
 |n,v,.fz o,d,h,e=>by
  let g:cL o=cL d:=by ext n<;>show e
  ext g;show DV.ev KF h
 |0,v,.rf i,d,h,e=>by ext e
 |0,v,.tp l,d,h,e=>by ext e
 |n+1,v,.rf i,d,h,e=>by
  let(a,m,rfl):=h;unfold BQ at e;cases q:ω[i]? with
  |none=>simp_all
  |some c=>
   rw[q]at e;cases c with
   |lst xs=>
    dsimp only at e;cases j:aF (BQ n ω) xs with
    |none=>simp_all
    |some ds=>rw[j]at e;ext e;let(p,f,b):=s.cel i a _ m q;show .lst #[XS.of f,λz=>z.elim] (jq (cg (R:=Xl (ow B Z ω) K H Z) (λv x y r e=>jU s n r e) b j))
   |_=>ext e
 |n+1,v,.tp l,d,h,e=>by
  let(a,xs,rfl,f,b):=h;unfold BQ at e;cases j:aF (λx=>BQ n ω x.sv) l with
  |none=>simp_all
  |some ds=>rw[j]at e;ext e;show .tup (f.ev KF) (jq (cg (λv x y r e=>jU s n (by ext x<;>show r) e) b j))
def uF:SV->z D
 |.fz d=>cL d
 |_=>Ld
def sh(ω:aL):SV->z D
 |.fz d=>cL d
 |.rf i=>match ω[i]? with
  |some (.lst xs)=>(aF uF xs).map .list
  |_=>Ld
 |.tp _=>Ld
def C0(s:Vc B K H Z ω)(h:Xl (ow B Z ω) K H Z v x)(e:sh ω x=cL d):DX (ow B Z ω) K H v d:=by
 cases x with
 |fz g=>ext e;show DV.x h
 |tp l=>ext e
 |rf i=>
  let(a,n,rfl):=h;unfold sh at e;dsimp only at e;cases q:ω[i]? with
  |none=>simp_all
  |some c=>
   rw[q]at e;cases c with
   |lst xs=>
    dsimp only at e;cases j:aF uF xs with
    |none=>simp_all
    |some ds=>
     rw[j]at e;ext e;let(m,f,b):=s.cel i a _ n q;show#[a,m,W,XS.of f,jq (cg (λv x y r e=>?_) b j)];cases x with
     |fz d=>ext e;show r
     |rf i=>ext e
     |tp l=>ext e
   |_=>ext e
def Jp:D->Bool
 |.none=>S
 |.bool _=>S
 |.int _=>S
 |.str _=>S
 |_=>R
def Ie(h:Jp d=S)(a:DV O K H v d):DV N K H' v d:=by
 cases a with
 |WL=>show .WL
 |bl b=>show .bl b
 |int i=>show .int i
 |str x=>show .str x
 |tup _ _=>ext h
 |lst _ _=>ext h
def wJ(ω:aL):RV->RS SV
 |.fz d=>if Jp d=S then .ok (.fz d) ω else .bad
 |.ow _=>.bad
def ER(s:Vc B K H Z ω)(w:WS K E B H Z ω (PQ B K Q) (wJ ω o)):Fin noO K H Q o:=by
 cases o with
 |fz d=>
  let w:WS K E B H Z ω (PQ B K Q) (if Jp d=S then RS.ok (SV.fz d) ω else RS.bad):=w;by_cases z:Jp d=S
  .rw[ax z]at w;show λv H' e a=>w Z H' (Wm.same e) (s.grow e) v (Ie z a)
  .rw[aE z]at w;show w.elim
 |ow ds=>show w.elim
theorem Fw:lg noO H:=λ_ _ z=>z
def mF(f:D->D->z RV)(x y:SV)(ω:aL):RS SV:=match sh ω x,sh ω y with
 |some e,cL b=>(RS.VD ω (f e b)).bind λd ω1=>jw ω1 d
 |_,_=>(RS.VD ω (BQ 6 ω x)).bind λe ω1=>(RS.VD ω1 (BQ 6 ω1 y)).bind λb T=>(RS.VD T (f e b)).bind λd a=>wJ a d
def ym(m:iZ K r f)(s:Vc B K H Z ω)(l:Xl (ow B Z ω) K H Z x a)(j:Xl (ow B Z ω) K H Z y b)(w:WS K E B H Z ω (PQ B K Q) (mF f a b ω)):r x y H Q:=by
 let n:WS K E B H Z ω (PQ B K Q) ((RS.VD ω (BQ 6 ω a)).bind λp ω1=>(RS.VD ω1 (BQ 6 ω1 b)).bind λd T=>(RS.VD T (f p d)).bind λo h=>wJ h o)->r x y H Q:=λw=>by let(p,g,w):=w.VD;let(d,e,w):=w.VD;let(o,i,w):=w.VD;show m noO H x y p d o Q Fw (DV.x (jU s 6 l g)) (DV.x (jU s 6 j e)) i (ER s w)
 unfold mF at w;cases g:sh ω a with
 |none=>simp_all
 |some p=>
  cases e:sh ω b with
  |none=>simp_all
  |some d=>rw[g,e]at w;let(o,i,w):=w.VD;show m _ H x y p d o Q s.noO (C0 s l g) (C0 s j e) i (Fo s w)
def jd(f:D->D->z RV)(a fb:cR):cR:=λρ ω=>(a ρ ω).bind λx ω1=>(fb ρ ω1).bind λy T=>mF f x y T
def Fa(j:iZ K r f)(c:ce K E C fa)(l:ce K E o fb):ce K E (GI r C o) (jd f fa fb):=by intro B X H Z ω ρ Q s a w;show c B X H Z ω ρ _ s a (w.bind.imp λx Y ω1 U e1 g d v h=>?_);show l B X U Y ω1 ρ _ g (a.WQ e1) (d.bind.imp λy J T H2 e2 e b u i=>?_);show ym j e (h.WQ e2) i b
def Kq:SV->z Bool
 |.fz (.bool b)=>cL b
 |_=>Ld
def G4(e:Kq x=cL b)(h:Xl O K H Z v x):v=.bl b:=by
 unfold Kq at e;split at e
 .ext e;ext h;rfl
 .ext e
def bc(a:cR):ri:=λρ ω=>(a ρ ω).bind λx ω1=>RS.VD ω1 (Kq x)
def qz(c:ce K E o C):uD K E (zn o) (bc C):=by
 intro B X H Z ω ρ Q s d w;show c B X H Z ω ρ _ s d (w.bind.imp λx Y ω1 U e1 e a v f=>?_);cases q:Kq x with
 |none=>rw[q]at a;show a.elim
 |some b=>rw[q]at a;show#[b,G4 q f,WS.now e a]
theorem Co(a:ce K E o C):uD K E (tB o) (bc C):=qz a
def jW(a fb:ri):ri:=λρ ω=>(a ρ ω).bind λb ω1=>if b=S then fb ρ ω1 else .ok R ω1
def BT(a fb:ri):ri:=λρ ω=>(a ρ ω).bind λb ω1=>if b=S then .ok S ω1 else fb ρ ω1
def sD(a:ri):ri:=λρ ω=>(a ρ ω).bind λb ω1=>.ok (!b) ω1
def IH(i:uD K E t f)(h:uD K E u g):uD K E (Ms t u) (jW f g):=by
 intro B X H Z ω ρ Q s d w;show i B X H Z ω ρ _ s d (w.bind.imp λb Y ω1 U e1 e a=>?_);cases b with
 |true=>show h B X U Y ω1 ρ Q e (d.WQ e1) a
 |false=>show WS.now e a
def Pm(i:uD K E t f)(h:uD K E u g):uD K E (SG t u) (BT f g):=by
 intro B X H Z ω ρ Q s d w;show i B X H Z ω ρ _ s d (w.bind.imp λb Y ω1 U e1 e a=>?_);cases b with
 |true=>show WS.now e a
 |false=>show h B X U Y ω1 ρ Q e (d.WQ e1) a
def Jr(g:uD K E t f):uD K E (Oc t) (sD f):=by intro B X H Z ω ρ Q s d w;show g B X H Z ω ρ _ s d (w.bind.imp λb Y ω1 U e1 e a=>WS.now e a)
def jy:ri:=λ_ ω=>.ok S ω
theorem Fg:uD K E D0 jy:=λB X H Z ω ρ Q s a w=>WS.now s w
def xB(a fb:cR):cR:=λρ ω=>(bc a ρ ω).bind λb ω1=>if b=S then fb ρ ω1 else .ok (.fz (.bool R)) ω1
def Ii(g:ce K E C fa)(f:ce K E o fb):ce K E (EW C o) (xB fa fb):=by
 intro B X H Z ω ρ Q s d w;show qz g B X H Z ω ρ (λc U=>if c=S then o X U Q else Q (.bl R) U) s d (w.bind.imp λb Y ω1 U e1 e a=>?_);cases b with
 |true=>show f B X U Y ω1 ρ Q e (d.WQ e1) a
 |false=>show WS.now e a _ (.bl R)
def K6(c:ri)(a fb:cR):cR:=λρ ω=>(c ρ ω).bind λb ω1=>if b=S then a ρ ω1 else fb ρ ω1
def Pi(f:uD K E t c)(h:ce K E C fa)(g:ce K E o fb):ce K E (Sj t C o) (K6 c fa fb):=by
 intro B X H Z ω ρ Q s a w;show f B X H Z ω ρ _ s a (w.bind.imp λb Y ω1 U e1 e d=>?_);cases b with
 |true=>show h B X U Y ω1 ρ Q e (a.WQ e1) d
 |false=>show g B X U Y ω1 ρ Q e (a.WQ e1) d
def aG:u6:=λ_ ω=>.ok [] ω
def aj(b:cR)(a:u6):u6:=λρ ω=>(b ρ ω).bind λx ω1=>(a ρ ω1).bind λxs T=>.ok (x::xs) T
theorem sI:uC K E jf aG:=λB X H Z ω ρ Q s a w=>WS.now s w [] .nil
def kX(c:ce K E o C)(i:uC K E tr fr):uC K E (fZ o tr) (aj C fr):=by intro B X H Z ω ρ Q s b w;show c B X H Z ω ρ _ s b (w.bind.imp λx Y ω1 U e1 g e v h=>?_);show i B X U Y ω1 ρ _ g (b.WQ e1) (e.bind.imp λxs J T H2 e2 f d j a=>?_);show WS.now f d (v::j) (.cons (h.WQ e2) a)
def Sg:SV->z AV
 |.fz d=>cL (.fz d)
 |.rf i=>cL (.rf i)
 |.tp _=>Ld
def RZ(xs:G SV):z SV:=match aF uF xs with
 |some ds=>cL (.fz (.tuple ds))
 |none=>(aF Sg xs).map .tp
def hV(a:u6):cR:=λρ ω=>(a ρ ω).bind λxs ω1=>if xs.length<=1000 then RS.VD ω1 (RZ xs)else .bad
def xT(r:Xl O K H Z v x)(e:uF x=cL d):DV O K H v d:=by
 cases x with
 |fz d=>ext e;show r
 |rf i=>ext e
 |tp l=>ext e
def NX(r:Xl O K H Z v x)(e:Sg x=cL d):AOk O K H Z v d:=by
 cases x with
 |fz d=>ext e;show r
 |rf i=>ext e;show r
 |tp l=>ext e
def HJ(c:uC K E o C):ce K E (IG o) (hV C):=by
 intro B X H Z ω ρ Q s j w;show c B X H Z ω ρ _ s j (w.bind.imp λxs Y ω1 U e1 d a m f=>?_);by_cases hn:xs.length<=1000
 .rw[ax hn]at a
  show#[by rw[f.length];show xa hn,λp i=>?_];let b:Wj U (aX U p (.tup m)):=bz i _;let e:Wm Y ω1 U Y ω1 (aX U p (.tup m)):=Wm.same b;let h:YE (ow B Y ω1) K (aX U p (.tup m)) p m:=#[Ya.of aC,λz=>a7 z (d.noO p i)];unfold RZ at a;cases q:aF uF xs with
  |some ds=>rw[q]at a;show a Y _ e (d.grow b) _ (.tup h (jq (cg (R:=Xl (ow B Y ω1) K U Y) (λv x y r g=>(xT r g).ev e.ev) f q)))
  |none=>
   rw[q]at a;dsimp only at a;cases n:aF Sg xs with
   |none=>rw[n]at a;show a.elim
   |some l=>rw[n]at a;show a Y _ e (d.grow b) _ #[p,m,W,h,cg (R:=Xl (ow B Y ω1) K U Y) (λv x y r g=>(NX r g).ev e.ev e.pre) f n]
 .rw[aE hn]at a;show a.elim
def OH(f:G D->z RV)(xs:G SV)(ω:aL):RS SV:=match aF (sh ω) xs with
 |some ds=>(RS.VD ω (f ds)).bind λb ω1=>jw ω1 b
 |_=>(RS.VD ω (aF (BQ 6 ω) xs)).bind λds ω1=>(RS.VD ω1 (f ds)).bind λb a=>wJ a b
def xE(f:G D->z RV)(a:u6):cR:=λρ ω=>(a ρ ω).bind λxs ω1=>OH f xs ω1
def On(h:AW K r f)(c:uC K E o C):ce K E (Ew r o) (xE f C):=by
 intro B X H Z ω ρ Q s i w;show c B X H Z ω ρ _ s i (w.bind.imp λxs Y ω1 U e1 b a n g=>?_);unfold OH at a;cases m:aF (sh ω1) xs with
 |none=>rw[m]at a;let(ds,j,a):=a.VD;let(l,d,a):=a.VD;show h noO U n ds l Q Fw (cg (R:=Xl (ow B Y ω1) K U Y) (λv x y r e=>DV.x (jU b 6 r e)) g j) d (ER b a)
 |some ds=>rw[m]at a;let(l,d,a):=a.VD;show h _ U n ds l Q b.noO (cg (R:=Xl (ow B Y ω1) K U Y) (λv x y r e=>C0 b r e) g m) d (Fo b a)
end
section
variable{B O O':bF}{K:lD}{E:XK}{H H' N M:Hp}{Z L U T:bb Uz}{ω X ω1 Y:aL}{S:L2.St}{ρ:aV}{v:V}
theorem xb:∀{c:G V} {xs:G β} {i:Nat} {x:β},Paired d c xs->xs[i]?=cL x->∃v,c[i]?=cL v/\d v x
 |_,_,_,_,.nil,e=>by simp at e
 |_,_,0,_,.cons h _,e=>by simp_all
 |_,_,i+1,x,.cons _ t,e=>by let(v,b,a):=xb t (by simpa using e);simp_all
def K1{b:G V}(h:Paired a b xs)(e:jV xs i=cL x):∃v,jV b i=cL v/\a v x:=by
 unfold jV at e⊢;rw[h.length];cases q:LL xs.length i with
 |none=>simp_all
 |some j=>rw[q]at e;show xb h e
def Ba:SV->z Int
 |.fz (.int i)=>cL i
 |_=>P
def zz(e:Ba x=cL i)(h:Xl O K H Z v x):v=.int i:=by
 unfold Ba at e;split at e
 .ext e;ext h;rfl
 .ext e
def Jo(x y:SV)(ω:aL):RS SV:=match x with
 |.fz _=>mF aO x y ω
 |.rf j=>(match ω[j]? with
  |some (.lst xs)=>(RS.VD ω (Ba y)).bind λi ω1=>RS.VD ω1 (jV xs i)
  |_=>.bad)
 |.tp l=>(RS.VD ω (Ba y)).bind λi ω1=>RS.VD ω1 ((jV l i).map AV.sv)
def eO(a fb:cR):cR:=λρ ω=>(a ρ ω).bind λx ω1=>(fb ρ ω1).bind λy Y=>Jo x y Y
def OZ(k:ce K E ta fa)(C:ce K E tb fb):ce K E (GI (Q2 K) ta tb) (eO fa fb):=by
 intro B S H Z ω ρ Q s r w;show k B S H Z ω ρ _ s r (w.bind.imp λx U ω1 N e1 A t v e=>?_);show C B S N U ω1 ρ _ A (r.WQ e1) (t.bind.imp λy T Y M e2 f b u n=>?_);let e:=e.WQ e2;unfold Jo at b;cases x with
 |fz d=>show ym B4 f e n b
 |rf j=>
  let(a,k,rfl):=e;dsimp only at b;cases q:Y[j]? with
  |none=>rw[q]at b;show b.elim
  |some c=>
   rw[q]at b;cases c with
   |lst xs=>
    let(i,h,b):=WS.VD b;cases J:jV xs i with
    |none=>rw[J]at b;show b.elim
    |some x=>rw[J]at b;let(vs,p,o):=f.cel j a _ k q;let(z,m,g):=K1 o J;show .inl #[a,vs,i,z,W,zz h n,Yr.of p,m,WS.now f b z g]
   |_=>show b.elim
 |tp l=>
  let(a,xs,rfl,p,o):=e;let(i,h,b):=WS.VD b;cases J:jV l i with
  |none=>rw[J]at b;show b.elim
  |some x=>rw[J]at b;let(z,m,g):=K1 o J;show .inr (.inl #[a,xs,i,z,W,zz h n,p.1,m,WS.now f b z (by ext x<;>show g)])
def IM(h:Lv Z (ω.set i .dead) b):Lv Z ω b:=by
 let(j,c,e,a,d):=h;rcases bQ a with⟨rfl,rfl⟩|⟨_,a⟩
 .simp_all
 .show#[j,c,e,a,d]
theorem Wm.kill:Wm Z ω H Z (ω.set i .dead) H:=#[λ_ _ h=>h,λ_ _ h _=>h,λ_ h=>.inl (IM h)]
def Vc.kill(s:Vc B K H Z ω)(i:Nat):Vc B K H Z (ω.set i .dead):=by
 let e:Wm Z ω H Z (ω.set i .dead) H:=Wm.kill;show#[by rw[Vz];show s.len,s.nd,s.bn,s.ba,s.al,λj b d f a=>?_];rcases bQ a with⟨rfl,rfl⟩|⟨g,a⟩
 .show trivial
 .show(s.cel j b d f a).ev e.ev e.pre λu q=>q
def Vc.aeF(s:Vc B K H Z ω)(g:Z[i]?=cL a):¬ow B Z (ω.set i .dead) a:=by
 rintro(z|⟨j,c,e,d,b⟩)
 .show s.adp g z
 .let:=s.nd j i a e g
  subst this;rcases bQ d with⟨_,rfl⟩|⟨f,_⟩
  .show b W
  .show f W
def j4(g:aL->SV->z (D×aL)):aL->G SV->z (G D×aL)
 |ω,[]=>cL ([],ω)
 |ω,x::r=>match g ω x with
  |some (d,ω1)=>(match j4 g ω1 r with
   |some (ds,Y)=>cL (d::ds,Y)
   |none=>P)
  |none=>P
def frz:Nat->aL->SV->z (D×aL)
 |_,ω,.fz d=>cL (d,ω)
 |0,_,_=>P
 |n+1,ω,.rf i=>match ω[i]? with
  |some (.lst xs)=>(match j4 (frz n) ω xs with
   |some (ds,ω1)=>cL (.list ds,ω1.set i .dead)
   |none=>P)
  |_=>P
 |n+1,ω,.tp l=>match j4 (frz n) ω (l.map AV.sv)with
  |some (ds,ω1)=>cL (.tuple ds,ω1)
  |none=>P
theorem tj(a:∀{ω X:aL} {v:V} {x:SV} {d:D},Vc B K H Z ω->Xl (ow B Z ω) K H Z v x->g ω x=cL (d,X)->Vc B K H Z X/\Wm Z ω H Z X H/\L3.DV (ow B Z X) K H v d):
  ∀{c:G V} {xs:G SV} {ds:G D} {ω X:aL},Vc B K H Z ω->Xd (ow B Z ω) K H Z c xs->j4 g ω xs=cL (ds,X)->Vc B K H Z X/\Wm Z ω H Z X H/\L3.Wb (ow B Z X) K H c ds
 |_,_,_,ω,X,s,.nil,e=>by ext e;show#[s,.refl,.nil]
 |_,_,_,ω,X,s,.cons (b:=x) (l₂:=xs) r t,e=>by
  unfold j4 at e;cases q:g ω x with
  |none=>simp_all
  |some p=>
   let(d,ω1):=p;rw[q]at e;dsimp only at e;let(h,e1,l):=a s r q;cases m:j4 g ω1 xs with
   |none=>simp_all
   |some i=>let(ds,Y):=i;rw[m]at e;ext e;let(f,e2,j):=tj a h (Xd.WQ e1 t) m;show#[f,e1.trans e2,.cons (l.ev e2.ev) j]
theorem uu:∀{a:G V} {l:G AV},Paired (AOk O K H Z) a l->Xd O K H Z a (l.map AV.sv)
 |_,_,.nil=>.nil
 |_,_,.cons (b:=x) h t=>.cons (by ext x<;>show h) (uu t)
theorem tQ:∀(n:Nat) {ω X:aL} {v:V} {x:SV} {d:D},Vc B K H Z ω->Xl (ow B Z ω) K H Z v x->frz n ω x=cL (d,X)->Vc B K H Z X/\Wm Z ω H Z X H/\L3.DV (ow B Z X) K H v d
 |n,ω,X,v,.fz t,d,s,h,e=>by
  let m:cL (t,ω)=cL (d,X):=by ext n<;>show e
  ext m;show#[s,.refl,h]
 |0,_,_,v,.rf i,d,s,h,e=>by ext e
 |0,_,_,v,.tp l,d,s,h,e=>by ext e
 |n+1,ω,X,v,.rf i,d,s,h,e=>by
  let(a,r,rfl):=h;unfold frz at e;cases q:ω[i]? with
  |none=>simp_all
  |some c=>
   rw[q]at e;cases c with
   |lst xs=>
    dsimp only at e;let(u,g,f):=s.cel i a _ r q;cases o:j4 (frz n) ω xs with
    |none=>simp_all
    |some p=>let(ds,ω1):=p;rw[o]at e;ext e;let(b,e1,j):=tj (λs h e=>tQ n s h e) s f o;show#[b.kill i,e1.trans Wm.kill,sM g (b.aeF r) (j.ev (Wm.kill).ev)]
   |_=>ext e
 |n+1,ω,X,v,.tp l,d,s,h,e=>by
  let(a,xs,rfl,g,f):=h;unfold frz at e;cases o:j4 (frz n) ω (l.map AV.sv)with
  |none=>simp_all
  |some p=>let(ds,ω1):=p;rw[o]at e;ext e;let(b,e1,j):=tj (λs h e=>tQ n s h e) s (uu f) o;show#[b,e1,.tup (g.ev e1.ev) j]
def Mp(x:SV)(ω:aL):RS SV:=match frz 4 ω x with
 |some (d,ω1)=>.ok (.fz d) ω1
 |none=>.bad
def jc(f:cR):cR:=λρ ω=>(f ρ ω).bind λx ω1=>Mp x ω1
def yO(h:ce K E t f):ce K E t (jc f):=by
 intro B S H Z ω ρ Q s b w;show h B S H Z ω ρ _ s b (w.bind.imp λx U ω1 N e1 g a v i=>?_);unfold Mp at a;cases q:frz 4 ω1 x with
 |none=>rw[q]at a;show a.elim
 |some p=>let(d,Y):=p;rw[q]at a;let(e,e2,j):=tQ 4 g i q;show a U N e2 e v j
def XOk.sub(h:∀b,O' b->O b)(k:XOk K O H c dx x):XOk K O' H c dx x:=by let(i,fs,g,a):=k;show#[i,fs,g,λf d e=>let#[g1,v,g2,g3]:=a f d e;#[g1,v,g2,g3.ev (Ev.sub h)]]
def wz(F:FN)(n:Nat)(xs:G SV)(ω:aL):RS SV:=if xs.length=n then(match aF uF xs with
 |some ds=>(match F ds with
  |.ok a=>jw ω a
  |.er x=>.er x ω
  |.bad=>.bad)
 |none=>(RS.VD ω (aF (BQ 6 ω) xs)).bind λds ω1=>(match F ds with
  |.ok a=>wJ ω1 a
  |_=>.bad))else .bad
def iY:RS A->RS A
 |.er _ _=>.bad
 |r=>r
def gX(F:FN)(n:Nat)(a:u6):cR:=λρ ω=>(a ρ ω).bind λxs ω1=>iY (wz F n xs ω1)
def WS.e0(h:WS K E B H Z ω b (iY r)):WS K E0 B H Z ω b r:=by
 cases r with
 |ok a ω=>show h
 |er x ω=>show h.elim
 |bad=>show h
def Hh(s:Vc B K H Z ω)(b:Xd (ow B Z ω) K H Z o xs)(w:WS K E B H Z ω (PQ B K Q) (wz F n xs ω)):zJ K n F o H Q E:=by
 unfold wz at w;by_cases hn:xs.length=n
 .rw[ax hn]at w
  show#[b.length.trans hn,?_];cases q:aF uF xs with
  |some ds=>
   rw[q]at w;show#[ow B Z ω,ds,s.owd,jq (cg (R:=Xl (ow B Z ω) K H Z) (λv x y r e=>xT r e) b q),?_];dsimp only at w;cases f:F ds with
   |ok g=>rw[f]at w;show Fo s w
   |er x=>rw[f]at w;show λc h H' e k=>w c h Z H' (Wm.same e) (s.grow e) k
   |bad=>rw[f]at w;show w.elim
  |none=>
   rw[q]at w;let(ds,d,w):=WS.VD w;show#[noO,ds,λa z=>z.elim,jq (cg (R:=Xl (ow B Z ω) K H Z) (λv x y r e=>jU s 6 r e) b d),?_];cases f:F ds with
   |ok g=>rw[f]at w;show ER s w
   |er x=>rw[f]at w;show w.elim
   |bad=>rw[f]at w;show w.elim
 .rw[aE hn]at w;show w.elim
def Ju(c:uC K E o C):ce K E (lY (zJ K n F) [] E0 o) (gX F n C):=by intro B S H Z ω ρ Q s b w;show c B S H Z ω ρ _ s b (w.bind.imp λxs U ω1 N e1 d a f e=>?_);rw[Vh];show Hh d e (WS.e0 a)
abbrev fJ:=G SV->aL->RS SV
def jR(K:lD)(n:Nat)(F:fJ):Sp:=λa H Q E=>a.length=n/\∃(B:bF) (Z:G I) (ω:aL) (xs:G SV),Vc B K H Z ω/\Xd (ow B Z ω) K H Z a xs/\WS K E B H Z ω (PQ B K Q) (F xs ω)
def NU(F:fJ)(n:Nat)(a:u6):cR:=λρ ω=>(a ρ ω).bind λxs ω1=>if xs.length=n then F xs ω1 else .bad
def jB(F:fJ)(n:Nat)(a:u6):cR:=λρ ω=>(a ρ ω).bind λxs ω1=>if xs.length=n then iY (F xs ω1)else .bad
def DN(c:uC K E o C):ce K E (lY (jR K n F) [] E o) (NU F n C):=by
 intro B S H Z ω ρ Q s d w;show c B S H Z ω ρ _ s d (w.bind.imp λxs U ω1 N e1 e a f b=>?_);rw[Vh];by_cases hn:xs.length=n
 .rw[ax hn]at a;show#[b.length.trans hn,B,U,ω1,xs,e,b,a]
 .rw[aE hn]at a;show a.elim
def Be(c:uC K E o C):ce K E (lY (jR K n F) [] E0 o) (jB F n C):=by
 intro B S H Z ω ρ Q s d w;show c B S H Z ω ρ _ s d (w.bind.imp λxs U ω1 N e1 e a f b=>?_);rw[Vh];by_cases hn:xs.length=n
 .rw[ax hn]at a;show#[b.length.trans hn,B,U,ω1,xs,e,b,WS.e0 a]
 .rw[aE hn]at a;show a.elim
def kh(ω:aL)(C m:Str):SV->Bool
 |.rf i=>match ω[i]? with
  |some (.obj D fs)=>decide (D=C)&&(fs.lookup m).isNone
  |_=>R
 |_=>R
def nt(C m:Str)(F:fJ)(n:Nat)(a:cR)(b:u6):cR:=λρ ω=>(a ρ ω).bind λx ω1=>if kh ω1 C m x=Uv then(b ρ ω1).bind λxs Y=>(if(x::xs).length=n then F (x::xs) Y else .bad)else .bad
def aM(C m:Str)(F:fJ)(n:Nat)(a:cR)(b:u6):cR:=λρ ω=>(a ρ ω).bind λx ω1=>if kh ω1 C m x=Uv then(b ρ ω1).bind λxs Y=>(if(x::xs).length=n then iY (F (x::xs) Y)else .bad)else .bad
def Dw(f:U8 K UY C=cL (cL (.ref J)))(s:Vc B K H Z ω)(b:Xl (ow B Z ω) K H Z v x)(h:kh ω C m x=Uv):∃a k fs,v=.ref a/\H a=cL (.ins J k fs)/\fs.lookup m=P:=by
 cases x with
 |fz d=>ext h
 |tp l=>ext h
 |rf i=>
  let(a,r,rfl):=b;unfold kh at h;dsimp only at h;cases q:ω[i]? with
  |none=>simp_all
  |some c=>
   rw[q]at h;cases c with
   |obj D fs=>rw[Uu]at h;let(j,g):=h;let e:=a6 j;subst e;let(p,k,ws,g0,o,n):=s.cel i a _ r q;rw[f]at g0;ext g0;show#[a,k,ws,W,o,BR n (Wt.mp g)]
   |_=>ext h
def C3(p:U8 K UY C=cL (cL (.ref Ca)))(o:ce K E to fo)(c:uC K E J fa):ce K E (sd Ca m (jR K n F) [] E to J) (nt C m F n fo fa):=by
 intro B S H Z ω ρ Q s f w;show o B S H Z ω ρ _ s f (w.bind.imp λx U ω1 N e1 g d v i=>?_);by_cases h:kh ω1 C m x=Uv
 .rw[ax h]at d
  let(a,u,fs,rfl,r,q):=Dw p g i h;show#[a,u,fs,W,r,q,?_];show c B S N U ω1 ρ _ g (f.WQ e1) (d.bind.imp λxs T Y M e2 l b t e=>?_);rw[Vh];let j:Xd (ow B T Y) K M T (.ref a::t) (x::xs):=.cons (i.WQ e2) e;by_cases hn:(x::xs).length=n
  .rw[ax hn]at b;show#[j.length.trans hn,B,T,Y,_,l,j,b]
  .rw[aE hn]at b;show b.elim
 .rw[aE h]at d;show d.elim
def Bh(p:U8 K UY C=cL (cL (.ref Ca)))(o:ce K E to fo)(c:uC K E J fa):ce K E (sd Ca m (jR K n F) [] E0 to J) (aM C m F n fo fa):=by
 intro B S H Z ω ρ Q s f w;show o B S H Z ω ρ _ s f (w.bind.imp λx U ω1 N e1 g d v i=>?_);by_cases h:kh ω1 C m x=Uv
 .rw[ax h]at d
  let(a,u,fs,rfl,r,q):=Dw p g i h;show#[a,u,fs,W,r,q,?_];show c B S N U ω1 ρ _ g (f.WQ e1) (d.bind.imp λxs T Y M e2 l b t e=>?_);rw[Vh];let j:Xd (ow B T Y) K M T (.ref a::t) (x::xs):=.cons (i.WQ e2) e;by_cases hn:(x::xs).length=n
  .rw[ax hn]at b;show#[j.length.trans hn,B,T,Y,_,l,j,WS.e0 b]
  .rw[aE hn]at b;show b.elim
 .rw[aE h]at d;show d.elim
def AY:SV->Bool
 |.fz .none=>Uv
 |_=>R
def r8(C:Str)(F:fJ)(n:Nat)(xs:G SV)(ω:aL):RS SV:=if(SV.rf ω.length::xs).length=n then(F (.rf ω.length::xs) (ω++[.obj C []])).bind λr Y=>(if AY r=Uv then .ok (.rf ω.length) Y else .bad)else .bad
def Bw(C:Str)(F:fJ)(n:Nat)(a:u6):cR:=λρ ω=>(a ρ ω).bind λxs ω1=>r8 C F n xs ω1
def p7(C:Str)(F:fJ)(n:Nat)(a:u6):cR:=λρ ω=>(a ρ ω).bind λxs ω1=>iY (r8 C F n xs ω1)
def J4(h:AY x=Uv)(a:Xl O K H Z v x):v=.WL:=by
 unfold AY at h;split at h
 .ext a;rfl
 .ext h
def FQ(o:U8 K UY C=cL (cL (.ref J)))(s:Vc B K H Z ω)(m:Xd (ow B Z ω) K H Z vs xs)(w:WS K E B H Z ω (PQ B K Q) (r8 C F n xs ω)):
  ∀x c,H x=P->H c=P->c≠x->jR K n F (.ref x::(vs++[])) (aX (aX H c (.own x)) x (.ins J c [])) (λv M=>v=.WL/\Q (.ref x) M) E:=by
 intro x c d g p;rw[Vh];unfold r8 at w;let h:Wj H (aX (aX H c (.own x)) x (.ins J c [])):=(bz g _).trans (bz (by rw[ay (λz=>p z.symm)];show d) _);let e:Wm Z ω H (Z++[x]) (ω++[.obj C []]) (aX (aX H c (.own x)) x (.ins J c [])):=Wm.aag s.len h d;let l:Vc B K (aX (aX H c (.own x)) x (.ins J c [])) (Z++[x]) (ω++[.obj C []]):=s.aag h d (by rw[aC];simp) #[J,c,[],o,aC,.nil];let a:∀{L:G I} {X:aL} {H':Hp},Wm (Z++[x]) (ω++[.obj C []]) (aX (aX H c (.own x)) x (.ins J c [])) L X H'->Xl (ow B L X) K H' L (.ref x) (.rf ω.length):=λe=>#[x,e.pre _ _ (by rw[<-s.len];show aJ),W];by_cases hn:(SV.rf ω.length::xs).length=n
 .rw[ax hn]at w
  let i:Xd (ow B (Z++[x]) (ω++[.obj C []])) K (aX (aX H c (.own x)) x (.ins J c [])) (Z++[x]) (.ref x::vs) (.rf ω.length::xs):=.cons (a .refl) (Xd.WQ e m);show#[i.length.trans hn,B,_,_,_,l,i,?_];show WS.imp (WS.from e w.bind) λr T Y M e2 j b v f=>?_;by_cases z:AY r=Uv
  .rw[ax z]at b;show#[J4 z f,WS.now j b _ (a e2)]
  .rw[aE z]at b;show b.elim
 .rw[aE hn]at w;show w.elim
def JW(f:U8 K UY C=cL (cL (.ref Ca)))(c:uC K E o J):ce K E (we Ca (jR K n F) [] E o) (Bw C F n J):=by intro B S H Z ω ρ Q s b w;show c B S H Z ω ρ _ s b (w.bind.imp λxs U ω1 N e1 d a g e=>?_);show FQ f d e a
def D6(f:U8 K UY C=cL (cL (.ref Ca)))(c:uC K E o J):ce K E (we Ca (jR K n F) [] E0 o) (p7 C F n J):=by intro B S H Z ω ρ Q s b w;show c B S H Z ω ρ _ s b (w.bind.imp λxs U ω1 N e1 d a g e=>?_);show FQ f d e (WS.e0 a)
def gH(ω:aL):SV->z (Nat×G SV)
 |.rf i=>match ω[i]? with
  |some (.lst xs)=>cL (i,xs)
  |_=>P
 |_=>P
def sQ(s:Vc B K H Z ω)(b:Xl (ow B Z ω) K H Z v x)(h:gH ω x=cL (i,xs)):ω[i]?=cL (.lst xs)/\∃a k,Z[i]?=cL a/\v=.ref a/\H a=cL (.lst k)/\Xd (ow B Z ω) K H Z k xs:=by
 cases x with
 |fz d=>ext h
 |tp l=>ext h
 |rf j=>
  let(a,n,rfl):=b;unfold gH at h;dsimp only at h;cases q:ω[j]? with
  |none=>simp_all
  |some c=>
   rw[q]at h;cases c with
   |lst m=>let e:=UT h;ext e;let(k,g,f):=s.cel i a _ n q;show#[q,a,k,n,W,g,f]
   |_=>ext h
def tH(h:Paired d o xs)(r:d v x):Paired d (o++[v]) (xs++[x]):=by
 induction h with
 |nil=>show .cons r .nil
 |cons a _ b=>show .cons a b
def pf(b c:cR):cR:=λρ ω=>(b ρ ω).bind λo ω1=>(RS.VD ω1 (gH ω1 o)).bind λ_ ω1=>(c ρ ω1).bind λx Y=>(RS.VD Y (gH Y o)).bind λp a=>
 if p.2.length<1000000 then .ok (.fz .none) (a.set p.1 (.lst (p.2++[x])))else .bad
def Ih(C:ce K E to fo)(F:ce K E te fe):ce K E (QE K "list" tM to (fZ te jf)) (pf fo fe):=by
 intro B S H Z ω ρ Q s g w;show C B S H Z ω ρ _ s g (w.bind.imp λo U ω1 N e1 l d v m=>?_);let((J,t),y,d):=WS.VD d;let(_,p,e,_,rfl,g0,_):=sQ l m y;show#[.inl #[W,e,Yr.of g0],?_];show F B S N U ω1 ρ _ l (g.WQ e1) (d.bind.imp λx T Y M e2 j b u A=>?_);let((i,xs),q,b):=WS.VD b;let(f,a,vs,ha,I,G,n):=sQ j (m.WQ e2) q;ext I;dsimp only at b;by_cases hn:xs.length<1000000
 .rw[ax hn]at b;let ev:Ev (ow B T Y) M (ow B T Y) (aX M p (.lst (vs++[u]))):=oQ ha f (by nofun);show#[p,vs,u,W,W,G,rZ (by rw[n.length];show hn),?_];show b T _ (Wm.put ha f (by nofun) (by nofun)) (j.put ha f (by nofun) (by nofun) #[_,aC,tH (Paired.X9 n λ_ _ r=>r.ev ev λ_ _ h=>h) (A.ev ev λ_ _ h=>h)]) _ .WL
 .rw[aE hn]at b;show b.elim
end
inductive FlS where
 |nx (ρ:aV)
 |bk (ρ:aV)
 |ct (ρ:aV)
 |rt (x:SV)
abbrev dH:=aV->aL->RS FlS
abbrev wY:=SV->aV->aL->RS aV
abbrev BC:=G SV->aV->aL->RS aV
def ww(B:bF)(K:lD)(D:Ends):FlS->G I->aL->Hp->Prop
 |.nx b,α,a,H=>∀σ,W7 (ow B α a) K H α σ b->D.nx σ H
 |.bk b,α,a,H=>∀σ,W7 (ow B α a) K H α σ b->D.bk σ H
 |.ct b,α,a,H=>∀σ,W7 (ow B α a) K H α σ b->D.ct σ H
 |.rt x,α,a,H=>∀v,Xl (ow B α a) K H α v x->D.rt v H
def mX(K:lD)(E:XK)(t:TS)(g:dH):Prop:=
 ∀(B:bF) (a:L2.St) (H:Hp) (α:G I) (b:aL) (d:aV) (D:Ends),Vc B K H α b->W7 (ow B α b) K H α a d->WS K E B H α b (ww B K D) (g d b)->t D a H
def Lz(K:lD)(E:XK)(g:TG)(f:wY):Prop:=
 ∀(B:bF) (e:L2.St) (H:Hp) (α:G I) (i:aL) (l:aV) (v:V) (x:SV) (Q:L2.St->Hp->Prop),Vc B K H α i->W7 (ow B α i) K H α e l->Xl (ow B α i) K H α v x->WS K E B H α i (λd a b h=>∀j,W7 (ow B a b) K h a j d->Q j h) (f x l i)->g v e H Q
def Eu(K:lD)(E:XK)(g:xK)(f:BC):Prop:=
 ∀(B:bF) (e:L2.St) (H:Hp) (α:G I) (i:aL) (l:aV) (m:G V) (xs:G SV) (Q:L2.St->Hp->Prop),Vc B K H α i->W7 (ow B α i) K H α e l->Xd (ow B α i) K H α m xs->WS K E B H α i (λd a b h=>∀j,W7 (ow B a b) K h a j d->Q j h) (f xs l i)->g m e H Q
section
variable{B O O':bF}{K:lD}{E:XK}{H H' S P:Hp}{X M U Y:bb Uz}{ω N ω1 Z:aL}{T:L2.St}{ρ:aV}{v:V}
def W7.set(a:W7 O K H X T ρ)(h:Xl O K H X v x):W7 O K H X (T.set i (cL v)) (ρ.set i (cL x)):=by
 show#[by rw[Vz,Vz];show a.1,λj y d=>?_];rcases bQ d with⟨rfl,e⟩|⟨l,b⟩
 .ext e;show#[v,?_,h];rw[VP];let:=ui d;rw[a.1];show this
 .let(u,g,f):=a.2 j y b;show#[u,by rw[Vx (λz=>l z.symm)];show g,f]
def eR(i:Nat):wY:=λx ρ ω=>.ok (ρ.set i (cL x)) ω
theorem pQ:Lz K E (lV i) (eR i):=λB T H X ω ρ v x Q s a h w=>WS.now s w _ (a.set h)
def Bx:BC:=λxs ρ ω=>match xs with
 |[]=>.ok ρ ω
 |_=>.bad
def rb(f:wY)(g:BC):BC:=λxs ρ ω=>match xs with
 |x::r=>(f x ρ ω).bind λa ω1=>g r a ω1
 |[]=>.bad
def JT:Eu K E Jf Bx:=by
 intro B T H X ω ρ b xs Q s a h w;cases h with
 |nil=>show#[W,WS.now s w _ a]
 |cons _ _=>show w.elim
def DG(o:Lz K E t f)(n:Eu K E u g):Eu K E (zX t u) (rb f g):=by
 intro B T H X ω ρ p xs Q s l h w;cases h with
 |nil=>show w.elim
 |cons a b=>show#[_,_,W,o B T H X ω ρ _ _ _ s l a (WS.imp (WS.bind w) λe U ω1 S e1 m j d i=>?_)];show n B d S U ω1 e _ _ _ m i (Xd.WQ e1 b) j
def Ez:SV->z (G SV)
 |.fz (.tuple ds)=>cL (ds.map .fz)
 |.tp l=>cL (l.map AV.sv)
 |_=>Ld
def OV(h:Xl O K H X v x)(e:Ez x=cL xs):∃a c,v=.ref a/\YE O K H a c/\Xd O K H X c xs:=by
 unfold Ez at e;split at e
 .ext e
  cases h with
  |tup h d=>show#[_,_,W,h,kq _ _ d]
 .ext e;let(a,b,rfl,g,f):=h;show#[a,b,W,g,uu f]
 .ext e
def K4(n:Nat)(f:BC):wY:=λx ρ ω=>(RS.VD ω (Ez x)).bind λxs ω1=>if xs.length=n then f xs ρ ω1 else .bad
def IJ(h:Eu K E t f):Lz K E (Hn K n t) (K4 n f):=by
 intro B T H X ω ρ v x Q s d e w;let(xs,q,w):=WS.VD w;let(a,i,rfl,g,b):=OV e q;by_cases hn:xs.length=n
 .rw[ax hn]at w;show#[a,i,W,g.1,b.length.trans hn,h B T H X ω ρ i xs Q s d b w]
 .rw[aE hn]at w;show w.elim
def bX:dH:=λρ ω=>.ok (.nx ρ) ω
def aH(f g:dH):dH:=λρ ω=>(f ρ ω).bind λa ω1=>match a with
 |.nx b=>g b ω1
 |a=>.ok a ω1
def bv(f:cR):dH:=λρ ω=>(f ρ ω).bind λ_ ω1=>.ok (.nx ρ) ω1
def cJ(f:cR)(g:wY):dH:=λρ ω=>(f ρ ω).bind λx ω1=>(g x ρ ω1).bind λa Z=>.ok (.nx a) Z
def bS(c:ri)(f g:dH):dH:=λρ ω=>(c ρ ω).bind λb ω1=>if b=Uv then f ρ ω1 else g ρ ω1
def fR(f:cR):dH:=λρ ω=>(f ρ ω).bind λx ω1=>.ok (.rt x) ω1
def oO:dH:=λ_ ω=>.ok (.rt (.fz .none)) ω
def Oo:dH:=λ_ _=>.bad
theorem Cz:mX K E Ep bX:=λB T H X ω ρ D s a w=>WS.now s w T a
theorem BS:mX K E CW Oo:=λB T H X ω ρ D s a w=>w.elim
theorem Di:mX K E Lj oO:=λB T H X ω ρ D s a w=>WS.now s w .WL .WL
def J3(l:mX K E t f)(j:mX K E u g):mX K E (Fm t u) (aH f g):=by
 intro B T H X ω ρ D s i w;show l B T H X ω ρ {D with nx:=u D} s i (WS.imp (WS.bind w) λm U ω1 S e1 d b=>?_);cases m with
 |nx a=>show λe h=>j B e S U ω1 a D d h b
 |rt x=>show WS.now (E:=E) d b
 |bk a=>show WS.now (E:=E) d b
 |ct a=>show WS.now (E:=E) d b
def Cv(h:ce K E t f):mX K E (vv t) (bv f):=by intro B T H X ω ρ D s a w;show h B T H X ω ρ _ s a (WS.imp (WS.bind w) λx U ω1 S e1 d b v e=>WS.now d b T (a.WQ e1))
def sR(h:ce K E t f)(o:Lz K E g C):mX K E (sG t g) (cJ f C):=by intro B T H X ω ρ D s d w;show h B T H X ω ρ _ s d (WS.imp (WS.bind w) λx U ω1 S e1 m j v n=>?_);show o B T S U ω1 ρ v x _ m (d.WQ e1) n (WS.imp (WS.bind j) λe Y Z P e2 l i a b=>WS.now l i a b)
def M6(h:uD K E c o)(j:mX K E t f)(i:mX K E u g):mX K E (Hd c t u) (bS o f g):=by
 intro B T H X ω ρ D s a w;show h B T H X ω ρ _ s a (WS.imp (WS.bind w) λb U ω1 S e1 e d=>?_);cases b with
 |true=>show j B T S U ω1 ρ D e (a.WQ e1) d
 |false=>show i B T S U ω1 ρ D e (a.WQ e1) d
def Kv(h:ce K E t f):mX K E (JK t) (fR f):=by intro B T H X ω ρ D s b w;show h B T H X ω ρ _ s b (WS.imp (WS.bind w) λx U ω1 S e1 d a v e=>WS.now d a v e)
def BO(i:Nat)(f:D->D->bg RV)(b:cR):dH:=λρ ω=>(ar i ρ ω).bind λx ω1=>(b ρ ω1).bind λy Z=>(mF f x y Z).bind λz a=>.ok (.nx (ρ.set i (cL z))) a
def G9(l:iZ K r f)(m:ce K E C J):mX K E (Ql i C r) (BO i f J):=by
 intro B T H X ω ρ D s a w;unfold BO ar at w;cases q:ρ[i]? with
 |none=>rw[q]at w;show w.elim
 |some o=>
  cases o with
  |none=>rw[q]at w;show w.elim
  |some x=>rw[q]at w;let(v,p,n):=a.2 i x q;show#[v,p,m B T H X ω ρ _ s a (WS.imp (WS.bind w) λy U ω1 S e1 g d u h=>?_)];show ym l g (n.WQ e1) h (WS.imp (WS.bind d) λz Y Z P e2 e b t j=>WS.now e b _ ((a.WQ (e1.trans e2)).set j))
def gG(f:Str)(x:SV):G (Str×SV)->G (Str×SV)
 |[]=>[(f,x)]
 |(g,y)::r=>if g=f then(g,x)::r else(g,y)::gG f x r
def tR(h:Xl O K H X v x):∀{ws:G (Str×V)} {fs:G (Str×SV)},Paired (λ(p:Str×V) (q:Str×SV)=>p.1=q.1/\Xl O K H X p.2 q.2) ws fs->Paired (λ(p:Str×V) (q:Str×SV)=>p.1=q.1/\Xl O K H X p.2 q.2) (gY f v ws) (gG f x fs):=by
 intro ws fs p
 induction p with
 |nil=>show .cons #[W,h] .nil
 | @cons a b _ _ q t i=>
  let(g,u):=a;let(d,y):=b;let(e,k):=q;ext e;unfold gY gG;by_cases z:g=f
  .rw[ax z,ax z];show .cons #[W,h] t
  .rw[aE z,aE z];show .cons #[W,k] i
def Gr(ω:aL)(C:Str):SV->z (Nat×G (Str×SV))
 |.rf i=>match ω[i]? with
  |some (.obj D fs)=>if D=C then cL (i,fs)else Ld
  |_=>Ld
 |_=>Ld
def Rk(s:Vc B K H X ω)(b:Xl (ow B X ω) K H X v x)(h:Gr ω C x=cL (i,fs)):ω[i]?=cL (.obj C fs)/\∃a k n ws,X[i]?=cL a/\v=.ref a/\U8 K UY C=cL (cL (.ref k))/\H a=cL (.ins k n ws)/\Paired (λ(p:Str×V) (q:Str×SV)=>p.1=q.1/\Xl (ow B X ω) K H X p.2 q.2) ws fs:=by
 cases x with
 |fz d=>ext h
 |tp l=>ext h
 |rf j=>
  let(a,o,rfl):=b;unfold Gr at h;dsimp only at h;cases q:ω[j]? with
  |none=>simp_all
  |some c=>
   rw[q]at h;cases c with
   |obj D gs=>
    dsimp only at h;by_cases z:D=C
    .subst z;rw[ax W]at h;let e:=UT h;ext e;let(k,n,ws,m,g,f):=s.cel i a _ o q;show#[q,a,k,n,ws,o,W,m,g,f]
    simp_all
   |_=>ext h
def d5(C f:Str)(b c:cR):dH:=λρ ω=>(c ρ ω).bind λx ω1=>(b ρ ω1).bind λo Z=>(RS.VD Z (Gr Z C o)).bind λp a=>if p.2.length<100 then .ok (.nx ρ) (a.set p.1 (.obj C (gG f x p.2)))else .bad
def Hv(G:jX K C L)(A:f∈L)(z:ce K E to fo)(F:ce K E te fe):mX K E (N7 K to te f) (d5 C f fo fe):=by
 intro B T H X ω ρ D s e w;show F B T H X ω ρ _ s e (WS.imp (WS.bind w) λx U ω1 S e1 p n v t=>?_);show z B T S U ω1 ρ _ p (e.WQ e1) (WS.imp (WS.bind n) λo Y Z P e2 j b u y=>?_);let((i,fs),q,b):=WS.VD b;let(g,a,d,dx,ws,ha,rfl,m,I,l):=Rk j y q;let(Cb,g0,Q,J):=G;rw[m]at g0;ext g0;dsimp only at b;by_cases hn:fs.length<100
 .rw[ax hn]at b;let ev:Ev (ow B Y Z) P (ow B Y Z) (aX P a (.ins d dx (gY f v ws))):=oQ ha g (by simp_all);let e3:Wm Y Z P Y (Z.set i (.obj C (gG f x fs))) (aX P a (.ins d dx (gY f v ws))):=Wm.put ha g (by simp_all) (by simp_all);let R:=Paired.length l;show#[a,d,dx,ws,W,I,Q,J f A,by ext,?_];show b Y _ e3 (j.put ha g (by simp_all) (by simp_all) #[d,dx,_,m,aC,tR ((t.WQ e2).ev ev λ_ _ h=>h) (Paired.X9 l λ_ _ r=>#[r.1,r.2.ev ev λ_ _ h=>h])]) T ((e.WQ (e1.trans e2)).WQ e3)
 .rw[aE hn]at b;show b.elim
abbrev N3:=aV->aL->RS (G D)
def QK(K:lD)(E:XK)(b:TI)(d:N3):Prop:=
 ∀(B:bF) (T:L2.St) (H:Hp) (X:G I) (ω:aL) (ρ:aV) (a:It->Hp->Prop),Vc B K H X ω->W7 (ow B X ω) K H X T ρ->WS K E B H X ω (λds M N H'=>∀J,wT K J (ow B M N) H' ds->a J H') (d ρ ω)->b T H a
def kg(f:FI):N3:=λρ ω=>match f (bP ρ)with
 |.ok (ds,_)=>.ok ds ω
 |.er x=>.er x ω
 |.bad=>.bad
def Du(h:IO K E C f):QK K E C (kg f):=by
 intro B T H X ω ρ i s d w;show h (ow B X ω) H (ow B X ω) T H (bP ρ) i (DS s d) ?_;unfold kg at w;cases q:f (bP ρ)with
 |bad=>rw[q]at w;show w.elim
 |er x=>rw[q]at w;show λc l H' e k=>w c l X H' (Wm.same e) (s.grow e) k
 |ok r=>let(ds,a):=r;rw[q]at w;show λO' J H' e R g=>w X H' (Wm.same R.same) (s.grow R.same) J λj P e2 n=>g j P (λb o h z=>e2 b o h λy=>z (R.bo b y)) n
def ie(a:cR):N3:=λρ ω=>(a ρ ω).bind λx ω1=>(match frz 4 ω1 x with
 |some (d,Z)=>RS.VD Z (dY d)
 |none=>.bad)
def HL(h:ce K E o C):QK K E (EL K o) (ie C):=by
 intro B T H X ω ρ l s f w;show h B T H X ω ρ _ s f (WS.imp (WS.bind w) λx U ω1 S e1 g a v i=>?_);cases q:frz 4 ω1 x with
 |none=>rw[q]at a;show a.elim
 |some p=>
  let(d,Z):=p;rw[q]at a;let(e,e2,j):=tQ 4 g i q;dsimp only at a;cases m:dY d with
  |none=>rw[m]at a;show a.elim
  |some ds=>
   rw[m]at a;cases j with
   |tup h b=>ext m;show#[_,W,.inr #[#[_,h.1],a U S e2 e _ (EH h b)]]
   |lst h b=>ext m;show#[_,W,.inl #[#[_,h.1.sq],a U S e2 e _ (Ao h b)]]
   |_=>ext m
def ji(gt:wY)(b:dH):G D->dH
 |[],ρ,ω=>.ok (.nx ρ) ω
 |d::r,ρ,ω=>(gt (.fz d) ρ ω).bind λa ω1=>(b a ω1).bind λe Z=>match e with
  |.nx f=>ji gt b r f Z
  |.ct f=>ji gt b r f Z
  |.bk f=>.ok (.nx f) Z
  |.rt x=>.ok (.rt x) Z
def tF(a:N3)(gt:wY)(b:dH):dH:=λρ ω=>(a ρ ω).bind λds ω1=>ji gt b ds ρ ω1
def Jq(c:QK K E wi fi)(k:Lz K E g gt)(hb:mX K E tb b):mX K E (Iw wi g tb) (tF fi gt b):=by
 intro B T H X ω ρ D s Q w;show c B T H X ω ρ _ s Q (WS.imp (WS.bind w) λds U ω1 S e1 s1 w1 J it=>?_);show#[λi m a H'=>m=ds.length - i/\i<=ds.length/\∃Y Z ρ2,Wm U ω1 S Y Z H'/\Vc B K H' Y Z/\W7 (ow B Y Z) K H' Y a ρ2/\WS K E B H' Y Z (ww B K D) (ji gt b (ds.drop i) ρ2 Z),#[_,W,Vq _,U,ω1,ρ,.refl,s1,Q.WQ e1,w1],?_];rintro i m l P ⟨rfl,c,Y,Z,ρ2,e2,s2,sl2,w2⟩;let(go,o):=it (ow B Y Z) P e2.ev s2.noO;by_cases u:i<ds.length
 .let(g1,g2):=go i u
  show .inr #[g1,λa H'=>i+1<=ds.length/\∃Y Z ρ2,Wm U ω1 S Y Z H'/\Vc B K H' Y Z/\W7 (ow B Y Z) K H' Y a ρ2/\WS K E B H' Y Z (ww B K D) (ji gt b (ds.drop (i+1)) ρ2 Z),λa H' #[h1,h2]=>#[ds.length - (i+1),by ext,W,h1,h2],λx L y=>?_];let(R,d,hd,dv):=g2 x L y;let ed:ds.drop i=d::ds.drop (i+1):=by let(_,q):=Uw.mp hd;rw[W6 u,q]
  rw[ed]at w2;let e3:Wm Y Z P Y Z L:=Wm.same R;show k B l L Y Z ρ2 x (.fz d) _ (s2.grow R) (sl2.WQ e3) dv (WS.imp (WS.bind (WS.from e3 w2)) λF G z H4 e4 s4 w3 C I=>?_);show hb B C H4 G z F _ s4 I (WS.imp (WS.bind w3) λfl n j H5 e5 t r=>?_);let p:=e2.trans (e3.trans (e4.trans e5));cases fl with
  |nx f=>show λA h=>#[u,n,j,f,p,t,h,r]
  |ct f=>show λA h=>#[u,n,j,f,p,t,h,r]
  |bk f=>show WS.now (E:=E) t r
  |rt x=>show WS.now (E:=E) t r
 .let e:i=ds.length:=by ext
  subst e;rw[Xm (UG _)]at w2;show .inl #[o,WS.now s2 w2 l sl2]
def ro(c:ri)(b:dH):Nat->dH
 |0,_,_=>.bad
 |n+1,ρ,ω=>(c ρ ω).bind λk ω1=>if k=Uv then(b ρ ω1).bind λa Z=>match a with
  |.nx d=>ro c b n d Z
  |.ct d=>ro c b n d Z
  |.bk d=>.ok (.nx d) Z
  |.rt x=>.ok (.rt x) Z else .ok (.nx ρ) ω1
def mG(c:ri)(b:dH):dH:=ro c b 1000000
def AG(F:uD K E c fc)(G:mX K E tb b):mX K E (DM c tb) (mG fc b):=by
 intro B T H X ω ρ D s A w;show#[λm d H'=>∃Y Z a,Wm X ω H Y Z H'/\Vc B K H' Y Z/\W7 (ow B Y Z) K H' Y d a/\WS K E B H' Y Z (ww B K D) (ro fc b m a Z),#[_,X,ω,ρ,.refl,s,A,w],?_];rintro m f P ⟨Y,Z,a,e2,C,h,y⟩;cases m with
 |zero=>show y.elim
 |succ m=>
  show F B f P Y Z a _ C h (WS.imp (WS.bind y) λk u r J e3 z o=>?_);cases k with
  |true=>
   rw[ax W]at o⊢;show#[λd H'=>∃Y Z a,Wm X ω H Y Z H'/\Vc B K H' Y Z/\W7 (ow B Y Z) K H' Y d a/\WS K E B H' Y Z (ww B K D) (ro fc b m a Z),λd H' q=>#[m,XB m,q],?_];show G B f J u r a _ z (h.WQ e3) (WS.imp (WS.bind o) λI j i L e5 p n=>?_);let l:=e2.trans (e3.trans e5);cases I with
   |nx e=>show λt g=>#[j,i,e,l,p,g,n]
   |ct e=>show λt g=>#[j,i,e,l,p,g,n]
   |bk e=>show WS.now (E:=E) p n
   |rt x=>show WS.now (E:=E) p n
  |false=>rw[aE UQ]at o⊢;show WS.now z o f (h.WQ e3)
end
section
variable{B O O':bF}{K:lD}{E:XK}{H H' T M:Hp}{U S X Y:bb Uz}{ω ω' ω1 Z:aL}{R:L2.St}{ρ:aV}{v:V}
def dc(gt:wY)(c:ri)(f:cR):G D->aV->aL->G SV->RS (G SV)
 |[],_,ω,acc=>.ok acc ω
 |d::r,ρ,ω,acc=>(gt (.fz d) ρ ω).bind λa ω1=>(c a ω1).bind λb Z=>if b=Uv then(f a Z).bind λx e=>(if acc.length<1000000 then dc gt c f r a e (acc++[x])else .bad)else dc gt c f r a Z acc
def nj(n:Nat)(a:G Nat)(ρ:aV):aV:=UH n P++a.map λj=>(ρ[j]?).join
def i8(n:Nat)(c:G Nat)(a:N3)(gt:wY)(b:ri)(d:cR):cR:=λρ ω=>(a ρ ω).bind λds ω1=>(iY (dc gt b d ds (nj n c ρ) ω1 [])).bind λxs Z=>.ok (.rf Z.length) (Z++[.lst xs])
def Kx{own:G Str}{d:G (Str×Nat)}{n:Nat}{c:G Nat}(k:own.length=n)(g:d.map (·.2)=c)(h:W7 O K H U R ρ):W7 O K H U (g6 own d R) (nj n c ρ):=by
 unfold g6 nj;rw[z0 k];let i:d.length=c.length:=by rw[<-g,Uy]
 show#[by simp_all,λj x b=>?_];by_cases f:j<n
 .rw[UL (by rw[VR];show f),WG,ax f]at b;ext b
 .rw[Va (by simp_all),VR,UJ]at b⊢
  subst g;rw[UJ]at b;cases q:d[j - n]? with
  |none=>simp_all
  |some p=>
   rw[q]at b;let a:(ρ[p.2]?).join=cL x:=UT b;let e:ρ[p.2]?=cL (cL x):=by
    cases r:ρ[p.2]? with
    |none=>rw[r]at a;ext a
    |some o=>rw[r]at a;show ef cL a
   let(u,m,l):=h.2 p.2 x e;simp_all
def v5{p:I}{c:Cell}(a:U.length=ω.length)(e:c≠.dead):ow (bK B p) U ω=ow B (U++[p]) (ω++[c]):=by
 funext b;show propext #[λz=>?_,λz=>?_]
 .rcases z with(z|z)|⟨i,d,h1,g,f⟩
  .show .inl z
  .show .inr #[U.length,c,by rw[z];show aJ,by rw[a];show aJ,e]
  .show .inr #[i,d,dP h1,dP g,f]
 .rcases z with z|z
  .show .inl (.inl z)
  .rcases oV a z with z|z
   .show .inr z
   .show .inl (.inr z)
def Vc.adopt{p:I}{c:G V}{xs:G SV}(s:Vc (bK B p) K H U ω)(l:H p=cL (.lst c))(g:Xd (ow (bK B p) U ω) K H U c xs)(n:¬B p):Vc B K H (U++[p]) (ω++[.lst xs]):=by
 let eo:ow (bK B p) U ω=ow B (U++[p]) (ω++[.lst xs]):=v5 s.len (by simp_all);let b:∀(i:Nat) (a:I),U[i]?=cL a->(U++[p])[i]?=cL a:=λi a h=>dP h;let m:∀i:Nat,U[i]?≠cL p:=s.ba p (.inr W);show#[by rw[UE,UE,s.len];rfl,λi j a e f=>?_,λa h=>s.bn a (.inl h),λa h i q=>?_,λi a h=>?_,λi a d e f=>?_]
 .rcases aY e with g1|⟨e1,e2⟩<;>rcases aY f with g2|⟨e3,e4⟩
  .show s.nd i j a g1 g2
  .simp_all
  .simp_all
  .omega
 .rcases aY q with q|⟨_,e2⟩
  .show s.ba a (.inl h) i q
  simp_all
 .rcases aY h with h|⟨_,e2⟩
  .show s.al i a h
  simp_all
 .rw[<-eo]
  rcases aY f with g2|⟨e1,e2⟩
  .rcases aY e with g1|⟨e1,_⟩
   .show(s.cel i a d g1 g2).ev .refl b λo q=>q
   .let:=(Uw.mp g2).1;let:=s.len;ext
  .rcases aY e with g1|⟨_,e3⟩
   .let:=(Uw.mp g1).1;let:=s.len;ext
   .rw[e2,e3];show#[c,l,Paired.X9 g λ_ _ r=>r.ev .refl b]
def Vc.hide{p:I}{o:HO}(s:Vc B K H U ω)(f:H p=P):Vc (bK B p) K (aX H p o) U ω:=by let d:Wj H (aX H p o):=bz f o;let g:=s.grow d;let ev:Ev (ow B U ω) H (ow (bK B p) U ω) (aX H p o):=λb u h n=>#[d b u h,λz=>z.elim (λz=>z.elim (λz=>n (.inl z)) λz=>by simp_all) λz=>n (.inr z)];show#[g.len,g.nd,λa h=>h.elim (g.bn a) λe=>by rw[e,aC];simp,λa h i q=>h.elim (λh=>g.ba a h i q) λe=>by rw[e]at q;show s.al i p q f,g.al,λi a c l j=>?_];show(s.cel i a c l j).ev ev (λ_ _ h=>h) λo q=>d _ _ q
def Vc.af5{p:I}{o d:HO}(s:Vc (bK B p) K H U ω)(g:H p=cL o):Vc (bK B p) K (aX H p d) U ω:=by
 let ev:Ev (ow (bK B p) U ω) H (ow (bK B p) U ω) (aX H p d):=Ev.mut (.inl (.inr W)) d;let n:∀b,H b≠P->aX H p d b≠P:=λb h=>by
  by_cases z:b=p
  .subst z;rw[aC];simp
  .rw[ay z];show h
 show#[s.len,s.nd,λa h=>n a (s.bn a h),s.ba,λi a h=>n a (s.al i a h),λi a c e f=>(s.cel i a c e f).ev ev (λ_ _ h=>h) λu q=>?_];let:a≠p:=λz=>s.ba p (.inr W) i (by rw[<-z];show e);rw[ay this];show q
theorem Wm.dd{p:I}{o:HO}(e:Wm X ω1 T U ω H)(a:T p=P):Wm X ω1 T U ω (aX H p o):=#[e.pre,λb u h n=>by rw[ay (bB h a)];show e.kp b u h n,e.lv]
theorem Vc.aen{p:I}(s:Vc (bK B p) K H U ω):Vc B K H U ω:=
 #[s.len,s.nd,λa h=>s.bn a (.inl h),λa h=>s.ba a (.inl h),s.al,λi a c e d=>(s.cel i a c e d).ev (λb o h n=>#[h,λy=>n (y.elim (λy=>.inl (.inl y)) .inr)]) (λ_ _ h=>h) λ_ h=>h]
def yq{own:bb Str}{fv:bb (Str×Nat)}{g:TG}{tc:TT}{te:TE}{gt:wY}{s:ri}{k:cR}{n:Nat}{fj:bb Nat}{J:It}{Q:VK}{ds:bb D}(hn:own.length=n)(hf:fv.map (·.2)=fj)
  (hg:Lz K E g gt) (ht:uD K E tc s) (he:ce K E te k) (s1:Vc B K T X ω1) (sl1:W7 (ow B X ω1) K T X R ρ) (it:wT K J (ow B X ω1) T ds) (w1:WS K E B T X ω1 (PQ B K Q) ((dc gt s k ds (nj n fj ρ) ω1 []).bind λxs Z=>.ok (.rf Z.length) (Z++[.lst xs]))):
  ∀D,T D=Ld->DF J D (g6 own fv R) g tc te T λH'=>Q (.ref D) H':=by
 intro p hD;let slc:W7 (ow B X ω1) K T X (g6 own fv R) (nj n fj ρ):=Kx hn hf sl1;generalize qr:dc gt s k ds (nj n fj ρ) ω1 []=rr at w1;by_cases C:rr=.bad
 .subst C;show w1.elim
 .
  let hB:¬B p:=λz=>s1.bn p z hD;let evH:∀{Y:bb Uz} {Z:aL} {H':Hp},Wm X ω1 T Y Z H'->Ev (ow B X ω1) T (ow (bK B p) Y Z) H':=λe b o h n=>#[e.kp b o h λz=>n (.inr z),λz=>by
   rcases z with(z|z)|z
   .show n (.inl z)
   .simp_all
   .show(e.lv b z).elim (λq=>n (.inr q)) λq=>by simp_all]
  show#[λi m σ' H'=>m=ds.length - i/\i<=ds.length/\∃Y Z ρc acc ys,Wm X ω1 T Y Z H'/\Vc (bK B p) K H' Y Z/\W7 (ow (bK B p) Y Z) K H' Y σ' ρc/\H' p=cL (.lst ys)/\Xd (ow (bK B p) Y Z) K H' Y ys acc/\dc gt s k (ds.drop i) ρc Z acc=rr,
   #[_,W,Vq _,X,ω1,nj n fj ρ,[],[],Wm.same (bz hD _),s1.hide hD,?_,aC,.nil,qr],?_]
  .show#[slc.1,λj x hx=>let#[v,h1,h2]:=slc.2 j x hx;#[v,h1,h2.ev (evH (Wm.same (bz hD _))) λ_ _ h=>h]]
  .rintro i m σ2 M ⟨rfl,hi,Y,Z,ρ2,acc,ys,e2,s2,sl2,hy,vy,f⟩
   let(go,stop):=it (ow (bK B p) Y Z) M (evH e2) s2.noO;by_cases XU:i<ds.length
   .let(g1,g2):=go i XU
    show .inr #[g1,λσ5 G=>i+1<=ds.length/\∃Y Z ρc acc ys,Wm X ω1 T Y Z G/\Vc (bK B p) K G Y Z/\W7 (ow (bK B p) Y Z) K G Y σ5 ρc/\G p=cL (.lst ys)/\Xd (ow (bK B p) Y Z) K G Y ys acc/\dc gt s k (ds.drop (i+1)) ρc Z acc=rr,
     λσ5 G #[h1,h2]=>#[ds.length - (i+1),by ext,W,h1,h2],λx H3 y=>?_]
    let(s3,d,hd,dv):=g2 x H3 y;let ed:ds.drop i=d::ds.drop (i+1):=by let(_,q):=Uw.mp hd;rw[W6 XU,q]
    rw[ed]at f;unfold dc at f;let e3:Wm Y Z M Y Z H3:=Wm.same s3;let kD:∀{αx αy:bb Uz} {ωx ωy:aL} {Hx Hy:Hp} {o:HO},Vc (bK B p) K Hx αx ωx->Wm αx ωx Hx αy ωy Hy->Hx p=cL o->Hy p=cL o:=λsx ex h=>ex.kp _ _ h λ#[i,c,q,_]=>sx.ba p (.inr W) i q;let w:∀{N:bb Uz} {u:aL} {H3:Hp} {z:Xc} {t:aL},Wm X ω1 T N u H3->RS.er z t=rr->∀c dx S H',Wm N u H3 S t H'->Vc (bK B p) K H' S t->XOk K (ow (bK B p) S t) H' c dx z->E c dx H':=λ{N u H3 z t} e3 q c dx S H' e s' x'=>by subst q;show w1 c dx S H' (e3.trans e) s'.aen (XOk.sub (λb y=>y.elim (λy=>.inl (.inl y)) .inr) x')
    show hg (bK B p) σ2 H3 Y Z ρ2 x (.fz d) _ (s2.grow s3) (sl2.WQ e3) dv ?_;cases qg:gt (.fz d) ρ2 Z with
    |er z t=>rw[qg]at f;show w (e2.trans e3) f
    |bad=>rw[qg]at f;show C f.symm
    |ok l I=>
     rw[qg]at f;intro α4 H4 e4 s4 σ4 sl4;show ht (bK B p) σ4 H4 α4 I l _ s4 sl4 ?_;let f:((s l I).bind λb Z=>if b=Uv then(k l Z).bind λx u=>(if acc.length<1000000 then dc gt s k (ds.drop (i+1)) l u (acc++[x])else .bad)else dc gt s k (ds.drop (i+1)) l Z acc)=rr:=f;cases qt:s l I with
     |er z t=>rw[qt]at f;show w (e2.trans (e3.trans e4)) f
     |bad=>rw[qt]at f;show C f.symm
     |ok b A=>
      rw[qt]at f;intro α5 G e5 s5;let P:=sl4.WQ e5;let Mu:=e3.trans (e4.trans e5);cases b with
      |false=>let f:dc gt s k (ds.drop (i+1)) l A acc=rr:=f;show#[XU,α5,A,l,acc,ys,e2.trans Mu,s5,P,kD s2 Mu hy,Xd.WQ Mu vy,f]
      |true=>
       let f:((k l A).bind λx u=>(if acc.length<1000000 then dc gt s k (ds.drop (i+1)) l u (acc++[x])else .bad))=rr:=f;rw[ax W];show he (bK B p) σ4 G α5 A l _ s5 P ?_;cases qe:k l A with
       |er z t=>rw[qe]at f;show w (e2.trans Mu) f
       |bad=>rw[qe]at f;show C f.symm
       |ok x6 F=>
        rw[qe]at f;intro L H6 e6 s6 v6 hv6;let f:(if acc.length<1000000 then dc gt s k (ds.drop (i+1)) l F (acc++[x6])else .bad)=rr:=f;by_cases hl6:acc.length<1000000
        .rw[ax hl6]at f;let QT:=Mu.trans e6;let hy6:H6 p=cL (.lst ys):=kD s2 QT hy;let vy6:=Xd.WQ QT vy;let em:Ev (ow (bK B p) L F) H6 (ow (bK B p) L F) (aX H6 p (.lst (ys++[v6]))):=Ev.mut (.inl (.inr W)) _;let sl6:=P.WQ e6;show#[ys,hy6,rZ (by rw[vy6.length];show hl6),XU,L,F,l,acc++[x6],ys++[v6],(e2.trans QT).dd hD,s6.af5 hy6,#[sl6.1,λj x hx=>let#[v,h1,h2]:=sl6.2 j x hx;#[v,h1,h2.ev em λ_ _ h=>h]],aC,tH (Paired.X9 vy6 λ_ _ r=>r.ev em λ_ _ h=>h) (hv6.ev em λ_ _ h=>h),f]
        .rw[aE hl6]at f;show a7 f.symm C
   .let e:i=ds.length:=by ext
    subst e;rw[Xm (UG _)]at f;let f:RS.ok acc Z=rr:=f;subst f;show .inl #[stop,?_];show w1 (Y++[p]) M #[λi a h=>dP (e2.pre i a h),e2.kp,λb z=>(oV s2.len z).elim (e2.lv b) λz=>.inr (by rw[z];show hD)] (s2.adopt hy vy hB) (.ref p) #[p,by rw[<-s2.len];show aJ,W]
def OS{A C:Type}{P:C->G I->aL->Hp->Prop}{r:RS A}{k:A->aL->C}{m:A->aL->aL}(w:WS K E B H U ω P ((iY r).bind λa o=>.ok (k a o) (m a o))):WS K E0 B H U ω P (r.bind λa o=>.ok (k a o) (m a o)):=by
 cases r with
 |ok a o=>show w
 |er x o=>show w.elim
 |bad=>show w
def vG{own:G Str}{f:G (Str×Nat)}{a:TI}{g:TG}{d:TT}{b:TE}{h:N3}{gt:wY}{c:ri}{r:cR}{n:Nat}{k:G Nat}(t:own.length=n)(p:f.map (·.2)=k)
  (u:QK K E a h) (o:Lz K E0 g gt) (m:uD K E0 d c) (q:ce K E0 b r):ce K E (rC own f a g d b) (i8 n k h gt c r):=by
 intro B R H U ω ρ Q s e w;show u B R H U ω ρ _ s e (WS.imp (WS.bind w) λds X ω1 T e1 j i J l=>?_);show yq t p o m q j (e.WQ e1) l (OS i)
def cH(N:Nat)(g:dH):fJ:=λxs ω=>(g (xs.map cL++UH (N - xs.length) P) ω).bind λa ω1=>match a with
 |.rt x=>.ok x ω1
 |.nx _=>.ok (.fz .none) ω1
 |_=>.bad
def DD{N:G Str}{c:G V}{xs:G SV}(h:Xd O K H U c xs):W7 O K H U (L2.start N c) (xs.map cL++UH (N.length - xs.length) P):=by
 let e:c.length=xs.length:=Paired.length h;ext L2.start;show#[by simp_all,λi x a=>?_];by_cases hi:i<xs.length
 .rw[UL (by simp_all),UJ]at a
  cases q:xs[i]? with
  |none=>rw[q]at a;ext a
  |some d=>rw[q]at a;ext a;let(v,b,f):=xb h q;show#[v,?_,f];rw[UL (by rw[Uy,e];show hi),UJ,b];rfl
 .rw[Va (by rw[Uy];ext),WG]at a;split at a<;>ext a
def xP{N:G Str}{c:G V}{xs:G SV}{g:dH}{t:TS}{Q:VK}{n:Nat}(e:mX K E t g)(h:jR K n (cH N.length g) c H Q E):t {nx:=λ_ H'=>Q .WL H',rt:=Q} (L2.start N c) H:=by
 let(j,B,U,ω,xs,s,d,w):=h;show e B _ H U ω _ _ s (DD d) (WS.imp (WS.bind w) λf X ω1 T e1 b a=>?_);cases f with
 |rt x=>show WS.now (E:=E) b a
 |nx ρ=>show λR i=>WS.now (E:=E) b a .WL .WL
 |bk ρ=>show a.elim
 |ct ρ=>show a.elim
end
def Tl{P:UZ}{w:Vf}{K:lD}{q:Str->z U}{base:Heap}{x a:Str}{b:Wk}{f:I}{fd:VG}{N c:G Str}{k n m:Nat}{g:dH}{e:fJ}(F:ZL K x a b f fd)(S:WK N c (az b))(u:c.length=n)(hm:N.length=m)(o:e=cH m g)
  (p:∀(d:U) (A:Vb) (outer:G Env) (s:UC) (H:Hp) (E:XK),Wr k (A.deeper (Vi a (az b) s.heap.objs.size f d))->
   ∃t,Z2 (eP jY P w K q base N a (az b) f d A outer s H E).nox (bO b) t/\mX K E t g):FnOk P w K q base jY (k+1) f fd c (jR K n e):=by
 subst o hm;show F.ok S (λr H Q E h=>h.1.trans u.symm) (λd A outer s H r Q E l h=>?_);let(t,i,j):=p d A outer s H E l;show#[t,i,xP (xs:=[]) j h]
def S8{P:UZ}{w:Vf}{K:lD}{D:Str->bg U}{base:Heap}{x a:Str}{b:Wk}{f:I}{fd:VG}{N c:bb Str}{k n m:Nat}{g:dH}{j:fJ}(F:ZL K x a b f fd)(S:WK N c (az b))(L:c.length=n)(hm:N.length=m)(u:j=cH m g)
  (y:∀(d:U) (A:Vb) (outer:bb Env) (s:UC) (H:Hp) (E:XK),Wr k (A.deeper (Vi a (az b) s.heap.objs.size f d))->
   ∃t,Z2 (eP (L4.kK P w) P w K D base N a (az b) f d A outer s H E) (bO b) t/\mX K E t g):FnOk P w K D base (L4.kK P w) (k+1) f fd c (jR K n j):=by
 subst u hm;let(C,B,kV,v,z,G,d,ct,l,rfl,o,i):=F.ex;show CZ o i S (λJ H Q E h=>h.1.trans L.symm) λA outer s H J Q E r e=>?_;let(t,p,q):=y d A outer s H E r;show#[t,p,xP (xs:=[]) q e]
end L10
namespace PySem.W
open PySem PySem.Calls PyProof.Rows PyProof.V PySem.Spec
section
variable{Y:UZ}{w:Vf}{A:Vb}{E:Ut->UC->Prop}{s:UC}{T:String}{r d:Uz}{n:Nat}{P:Nat->Ut->Prop}{X:Heap->Prop}
def collect_kdl(K:KdlSrc Y w T r d n P X)(l:A.handled=Ld)(VQ:X s.heap)(u:n<=UK)
  (p:∀c k acc,(∀b o,s.heap.get? b=M o->c.get? b=M o)->YU P acc n->Q acc.toList {s with heap:=c,toks:=k}):wpAny (model Y w) A (collect (.ref r)) Q E s:=by
 let h:=K.there _ VQ;ext collect;show CL (wpAny_runValue (Xp F.entry_proto_collect ?_));rw[Vb.under_plainId F.plain_proto_collect _];show CL (Vw ?_);show UD #[W2 F.plain_list_iadd _,Xp F.entry_list_iadd ?_];rw[Vb.under_plainId F.plain_list_iadd _];let m:(s.heap.push {cls:=.type "list",data:=.seq ([]:G U).toArray}).get? s.heap.objs.size=M {cls:=.type "list",data:=.seq ([]:G U).toArray}:=cc _ W;show kdl_extend (R:=wants (λv i=>wpAny (model Y w) A (match v with|.ref a=>(load a>>=λo=>match o.data with|.seq xs _=>pure xs.toList|_=>unsupported "internal:collect")|_=>unsupported "internal:collect") Q E i) E) (s:={s with heap:=s.heap.push {cls:=.type "list",data:=.seq ([]:G U).toArray}}) K l (K.keep _ _ VQ λb _ o e=>b3 _ e) _ (VI h.1) (VI h.2) _ 0 m (λc k q t j f g=>?_) u;show CL (ad5 f ?_);show UD (p c k q (λb o e=>j b o (U3 (b4 e)) (b3 _ e)) g)
end
end PySem.W
namespace PyProof.Rows
open PySem
section
variable{Y:UZ}{w:Vf}{A:Vb}{E:Ut->UC->Prop}{s:UC}{T:String}{r d:Uz}{n:Nat}{P:Nat->Ut->Prop}{X:Heap->Prop}
def xY(K:PySem.W.KdlSrc Y w T r d n P X)(p:A.handled=Ld)(VQ:X s.heap)(l:n<64)(t:∀acc:Array U,YU P acc n->IntsAre acc.toList ns)
  (h:∀(a c:Heap) (g:Nat) (out:Array U) (e:Nat) (f:G Int),(∀b o,s.heap.get? b=M o->a.get? b=M o)->c.get? a.objs.size=M (seqObj "list" out e)->(∀b o,a.get? b=M o->c.get? b=M o)->IntsAre out.toList f->f.Perm ns->f.Pairwise (·<=·)->Q (.ref a.objs.size) {s with heap:=c,toks:=g}):
  wpAny (model Y w) A (call (.builtin "sorted") [.ref r]) Q E s:=by
 show Calls.call_function_entry kind_sorted plain_sorted entry_sorted (args_sorted1 _) (CL (UD (CL (PySem.W.collect_kdl K p VQ (by rw[WB];ext) (λa g acc m C=>CL (ajz ?_ (hsz:=by rw[Vv,C.1,WB];ext)))))));let i:(a.push (seqObj "list" acc.toList.toArray 0)).get? a.objs.size=M (seqObj "list" acc.toList.toArray 0):=cc _ W;let j:=t acc C;show CL (VW (Wf slot_list_sort #[_,i,W] entry_list_sort (list_sort_tree i j (by rw[Vv,C.1];show l) λout f y v u=>#[_,W,UD #[_,W,?_]]) (args_list_sort _)));let(e,q):=pP i;show h a _ g out e f m q (λb B z=>m9 (U3 (b4 z)) (b3 _ z)) y v u
end
end PyProof.Rows
namespace L10
open PySem PySem.Spec PyProof.Rows L2 L3
def RY(p d:I):HO:=.ext λh=>h.IsValuesView p d
theorem QD(x:h.IsValuesView p d):ObjOk g w H h p (RY p d):=#[x,let#[o,a,_]:=x;#[o,a],λf e #[o,a,b] k=>#[o,k o a,b]]
def Lm:V->G V->Hp->VK->Prop:=λx b H Q=>∃a d,x=.ref a/\b=[]/\H a=M (.dK d)/\∀p,H p=P->Q (.ref p) (aX H p (RY p a))
def Bi:Qa X "dict.values" Lm:=by intro f s l H x xs v m Q I g d h;let(a,p,rfl,rfl,e,q):=h;ext g;ext d;let(z,j,n,i,dd):=vE I.VQ e;show call_meetsIn aab dd.typeIs PySem.F.entry_dict_values (PySem.F.args_dict_values_1 _) (meets_dict_values (cA X.prog X.w) a j) #[#[n,dd],?_];show#[.ref s.heap.objs.size,_,I.laid (λb o e=>b3 _ e) (UG _) (QD #[_,cc _ W,W,W]),W,q _ (I.VQ.fresh (UG _))]
def Eh:G V->Hp->VK->Prop:=λxs H Q=>∃p a b,xs=[.ref p]/\H p=M (RY p a)/\H a=M (.dK b)/\∀l,H l=P->Q (.ref l) (aX H l (.lst (b.map (·.2))))
def Jg:∀{c:G (o×V)} {b:G (o×U)},KV c b->Vals (c.map (·.2)) (b.map (·.2)):=by
 intro _ _ a
 induction a with
 |nil=>show .nil
 | @cons _ _ _ _ h t d=>show .cons h.2 (d)
def xu(m:X.calm=S):W3 X (.type "list") Eh:=by intro f s B H xs C Q I r h;let(p,a,N,rfl,t,e,q):=h;let(u,rfl,i):=jj r;ext i;let(z,F,T,b,dd):=vE I.VQ e;let(J,A):=dd.dictAt;let(g,_,_):=I.VQ p _ t;show PySem.W.kdl_call (PySem.W.kdl_values) (I.ok.hd m) #[g,A] (by rw[<-b.length];show z) λG E d c l n L=>?_;let y:=PySem.W.kdl_vals_eq d.toList (by rw[Vv];show L.1) λj v w=>L.2 j v (by rw[<-Xv];show w);show#[.ref s.heap.objs.size,_,I.laid (o:=.lst (N.map (·.2))) l (UG _) #[by rw[Uy];show z,d.toList,c,by rw[y];show Jg b,by rw[abg];show n],W,q _ (I.VQ.fresh (UG _))]
def yj:G V->Hp->VK->Prop:=λxs H Q=>∃(p:I) (d:G (b5×V)) (a:G Int),xs=[.ref p]/\H p=M (.dK d)/\d.map (·.1)=a.map Sum.inl/\a.length<64/\∀(l:I) (b:G Int),H l=P->b.Perm a->b.Pairwise (·<=·)->Q (.ref l) (aX H l (.lst (b.map V.int)))
theorem oW:∀{c:G (b5×U)} {a:G Int} {us:G U},c.map (·.1)=a.map Sum.inl->us.length=c.length->(∀(j:Nat) (u:U),us[j]?=M u->∃k x,c[j]?=M (k,x)/\(cA prog w).is k u=S)->IntsAre us a
 |[],[],[],_,_,_=>.nil
 |[],[],_::_,_,h,_=>by simp at h
 |[],_::_,_,h,_,_=>by simp at h
 |_::_,[],_,h,_,_=>by simp at h
 |_::_,_::_,[],_,h,_=>by simp at h
 |(k,y)::c,n::a,u::us,h1,l,i=>by rw[UU,UU,alj]at h1;let(g,x,e,d):=i 0 u W;ext e;let f:=h1.1;subst f;let(t,rfl):=Ut.isInt_shape (show Ut.isInt n u=S from d);show .cons _ _ (oW h1.2 (by simpa using l) λj b e=>i (j+1) b (by simpa using e))
def xL(C:X.calm=Uv):W3 X (.builtin "sorted") yj:=by
 intro g s M H xs N Q I r h;let(p,U7,i,rfl,e,G,E,q):=h;let(u,rfl,o):=jj r;ext o;let(z,B,Y,b,dd):=vE I.VQ e;let(S,K):=dd.dictAt;let l:Y.map (·.1)=i.map Sum.inl:=by rw[<-b.keys];show G
 let P:Y.length=i.length:=by let:=ef Yd l;simpa using this
 show xY (PySem.W.kdl_dict B) (I.ok.hd C) K () (λL T=>oW l (by rw[Vv];show T.1) λj v J=>T.2 j v (by rw[<-Xv];show J)) λF R O d e2 t y A f T m w=>?_;let a:=m.length_eq;let n:=I.kept (t':=s.toks) y;show#[.ref F.objs.size,_,n.laid f (UG _) ?_,W,q _ t (n.VQ.fresh (UG _)) m w];show#[?_,d.toList,e2,ia T,A];rw[Uy,a];let:(64:Nat)<=UK:=by decide
 ext
end L10
namespace PySem
open Sem (wp)
namespace F
def lk_tuple_keys:typeLookup (.type "tuple") "keys"=pure P:=by rw[Zb,XN];kernel_rfl
def lk_tuple_hook:typeLookup (.type "tuple") "__getattr__"=pure P:=by rw[Zb,XN];kernel_rfl
def sub_ae:isSubtype (.type "AttributeError") (.type "AttributeError")=pure S:=by rw[ahD];kernel_rfl
end F
section
variable{Y:UZ}{w:Vf}{A:Vb}{E:Ut->UC->Prop}{h:Heap}{g:Array YR}{d:acd}{t:Nat}{X:aa0}{a:Uz}{o:Obj}
def yc{α:Type}{name f:Str}{Q:α->UC->Prop}{E:U->UC->Prop}(hm:f.length<=UK)(l:A.handled=P)(i:∀e c k,(∀b o,h.get? b=M o->c.get? b=M o)->(#[c,g,d,k,X]:UC).TypeIs e "AttributeError"->E e #[c,g,d,k,X]):
  wpAny (model Y w) A (raiseAttrError (.ref a) name f:Sem α) Q E #[h,g,d,t,X]:=by
 let j:¬f.length>UK:=Nat.not_lt.mpr hm;unfold raiseAttrError newExc newTuple
 repeat (any_goals (first|assumption|wp_step))
 show aaD (a:=S) F.sub_ae ?_
 repeat (any_goals (first|assumption|wp_step))
 show adN l (i _ _ _ (λb o e=>?_) ?_)
 .show(ck _ _ (dN (U3 (b4 (b3 _ e))))).trans (b3 _ (b3 _ e))
 .show#[_,cn _ (cc _ W) W,W]
def mK{f:Tok}{Q:Fin->UC->Prop}{E:U->UC->Prop}{p:Array U}{n:Nat}{i:Array (z U)}(j:h.get? a=M #[.type "tuple",P,.seq p n,i])(m:A.handled=P)(l:∀e c k,(∀b o,h.get? b=M o->c.get? b=M o)->(#[c,g,d,k,X]:UC).TypeIs e "AttributeError"->E e #[c,g,d,k,X]):
  wpAny (model Y w) A (Builtin.«object.__getattribute__» #[[.ref a,.str "keys" f],[]]) Q E #[h,g,d,t,X]:=by
 let q:(#[h,g,d,t,X]:UC).TypeIs (.ref a) "tuple":=#[_,j,W];let r:=F.lk_tuple_keys
 repeat (any_goals (first|assumption|wp_step))
 show yc (by left) m l
def rq{f:Tok}{Q:U->UC->Prop}{E:U->UC->Prop}{u:Array U}{n:Nat}{l:Array (bg U)}(i:h.get? a=M #[.type "tuple",P,.seq u n,l])(q:A.handled=P)(m:∀e c k,(∀b o,h.get? b=M o->c.get? b=M o)->(#[c,g,d,k,X]:UC).TypeIs e "AttributeError"->E e #[c,g,d,k,X]):
  wpAny (model Y w) A (getAttrBy (.ref a) (.str "keys" f) R) Q E #[h,g,d,t,X]:=by
 let r:(#[h,g,d,t,X]:UC).TypeIs (.ref a) "tuple":=#[_,i,W];let z:=F.slot_tuple_getattribute.lookup;let y:=F.slot_tuple_getattribute.bind (.ref a);let v:=F.lk_tuple_hook
 repeat (any_goals (first|assumption|wp_step))
 show XZ F.slot_tuple_getattribute.plain F.entry_tuple_ga (F.slot_tuple_getattribute.check _ _ _ _ _ _ _ _ r (F.args_tuple_getattribute_2 _ _) (mK i q λe c k p j=>?_));let fs:=F.sub_ae;show wpAny (model Y w) A (getattributeRaised (Ut.ref a) (Ut.str (Str.ofString "keys") f) (Ut.type "tuple") e P R R) Q E _;ext getattributeRaised;show CL (YT j fs ?_)
 repeat (any_goals (first|assumption|wp_step))
 show m e c k p j
def nI(f:h.get? a=M #[.type "tuple",P,.seq J n,C])(l:A.handled=P)(i:∀c k,(∀b o,h.get? b=M o->c.get? b=M o)->Q P #[c,g,d,k,X]):
  wpAny (model Y w) A (getAttr? (.ref a) "keys") Q E #[h,g,d,t,X]:=by
 unfold getAttr? getAttrBy?;let fs:=F.sub_ae;show CL ?_
 repeat (any_goals (first|assumption|(specialize rq f l λe c k j m=>?_)|wp_step))
 show i c k j
namespace F
theorem entry_upd_loop:entryFor table "dict.update.loop"=M Builtin.«dict.update.loop»:=entryFor_of_tree (by kernel_rfl)
def plain_upd_loop:plainId "dict.update.loop"=S:=by left
end F
end
section
variable{prog:UZ}{w:Vf}{A:Vb}{E:Ut->UC->Prop}{s:UC}{K:Type}[DecidableEq K]{knd:KeyKind prog w K}{I dd Z:Uz}{items:Array Ut}{ks:bb (K×Ut)}{R:Zr->UC->Prop}
def xq(a:G (K×U))(k:K)(v:U):(stored a k v).length<=a.length+1:=by
 ext stored;split
 .rw[Uy];ext
 .rw[UE];show UG _
theorem nv:∀(a c:G (K×U)),(merged c a).length<=c.length+a.length
 |[],c=>UG _
 |p::r,c=>by let d:=nv r (stored c p.1 p.2);let b:=xq c p.1 p.2;show(merged (stored c p.1 p.2) r).length<=_;rw[UO];ext
def xm(a:G (K×U)):(merged [] a).length<=a.length:=by let:=nv a [];simpa using this
def EY{O:Heap}(V:A.handled=Ld)(YI:Z≠I)(N:I≠dd)(M:Z≠dd)(D:∀(i:Nat) (v:Ut),items[i]?=cL v->∃q key k x,v=.ref q/\q≠dd/\q≠I/\ks[i]?=cL (k,x)/\knd.is k key=Uv/\O.IsTuple q #v[key,x])(hs:ks.length=items.size)(hz:items.size<=UK)
  (hR:∀c j,c.DictOf knd dd (merged [] ks)->(∀b o,b≠dd->b≠I->O.get? b=cL o->c.get? b=cL o)->R (.ok (.ret .none)) {s with heap:=c,toks:=j}):
  ∀(m i:Nat) (h:Heap) (j:Nat),items.size - i=m->i<=items.size->h.IsTupleIter I Z i->h.IsTuple Z items->h.DictOf knd dd (merged [] (ks.take i))->(∀b o,b≠dd->b≠I->O.get? b=cL o->h.get? b=cL o)->
   codeAny (model prog w) A (.builtin "dict.update.loop" #[[.ref dd,.ref I,rawInt i,.none],[]]) R {s with heap:=h,toks:=j}:=by
 let W:=aeK.tuple (prog:=prog) (w:=w) (A:=A.in1) V I Z YI items;intro m
 induction m with
 |zero=>
  intro i h j hm hi y t r p;let e:i=items.size:=by ext
  subst e;show Xp F.entry_upd_loop ?_;rw[Vb.under_plainId F.plain_upd_loop _];show CL (W.done _ _ _ #[y,t] λc d f=>?_);rw[List.take_of_length_le ()]at r;show CL (UD (UD ?_));show hR c d (r.at λo e=>f dd o (by simp;show λz=>N z.symm) e) λb o g a e=>f b o (by simp;show a) (p b o g a e)
 |succ m Y=>
  intro i h j hm hi y t r p;let S:i<items.size:=by ext
  show Xp F.entry_upd_loop ?_;rw[Vb.under_plainId F.plain_upd_loop _];show CL (W.item i _ _ _ S #[y,t] λv c d hv Q f=>?_);let(q,key,k,x,rfl,C,l,H,G,ht):=D i v hv;let B:=ht.at λo e=>f q o (by simp;show l) (p q o C l e);let P:=r.at λo e=>f dd o (by simp;show λz=>N z.symm) e;let u:=λb o g a e=>f b o (by simp;show a) (p b o g a e);let(X,n,L,nq,J):=B;let(cq,dq,dtq,T):=X;ext L;ext J;let hT:({s with heap:=c,toks:=d}:UC).TypeIs (.ref q) "tuple":=#[_,n,rfl];show CL (VW (CL ?_));show Zu ?_;ext Builtin.Dict.pairItems;show CL (Xb hT ?_);rw[ax ()];show CL ?_;unfold seqItems?;show CL (ad5 n (UD (UD ?_)));show VW (wpAny_dictSet_pairs G P (λa d2 U=>?_) ?_)
  .show UD #[W2 F.plain_upd_loop _,?_];let e2:∀b o,b≠dd->c.get? b=cL o->a.get? b=cL o:=λb o hb e=>(U.2 b hb).trans e;show Y (i+1) a (d+1) () S (Q.1.at λo e=>e2 I o N e) (Q.2.at λo e=>e2 Z o M e) ?_ λb o g a e=>e2 b o g (u b o g a e);rw[merged_take_succ [] ks i (k,x) H];show d2
  .let:(merged [] (ks.take i)).length<=(ks.take i).length:=xm _;rw[VY]at this;ext
end
end PySem
namespace PySem
open Sem (wp)
open PyProof.Rows
section
variable{T:UZ}{w:Vf}{A:Vb}{E:Ut->UC->Prop}{s:UC}{K:Type}[DecidableEq K]{X:KeyKind T w K}{Z:Uz}{Y:Array Ut}{N:bb (K×Ut)}{R:Zr->UC->Prop}
def nG(z:A.handled=P)(y:s.heap.get? Z=M #[.type "tuple",P,.seq Y n,sl])(C:N.length=Y.size)(V:Y.size<=UK)
  (G:∀(i:Nat) (v:U),Y[i]?=M v->∃q key k x,v=.ref q/\N[i]?=M (k,x)/\X.is k key=S/\s.heap.IsTuple q #v[key,x])
  (h:∀c D,c.DictOf X s.heap.objs.size (merged [] N)->(∀b o,s.heap.get? b=M o->c.get? b=M o)->Q (.ref s.heap.objs.size) {s with heap:=c,toks:=D}):
  wpAny (model T w) A (call (.type "dict") [.ref Z]) Q E s:=by
 show ahE (Q₁:=λobj d=>obj=.ref s.heap.objs.size/\d={s with heap:=s.heap.push {cls:=.type "dict",data:=.dict #v[]}}) F.kt_called_dict (F.kt_typeCall_dict_1 _) F.entry_dict_init (kt_code_dict_new _ #[W,W]) ?_;rintro obj d ⟨rfl,rfl⟩;let a:(s.heap.push {cls:=.type "dict",data:=.dict #v[]}).DictOf X s.heap.objs.size []:=Heap.DictOf.new s.heap;let f:(s.heap.push {cls:=.type "dict",data:=.dict #v[]}).get? Z=M #[.type "tuple",P,.seq Y n,sl]:=b3 _ y;let H:({s with heap:=s.heap.push {cls:=.type "dict",data:=.dict #v[]}}:UC).TypeIs (.ref Z) "tuple":=#[_,f,W];show#[a.typeIs,F.args_dict_init_2 _ _,?_];unfold Builtin.«dict.__init__»;show CL ?_;ext Builtin.Dict.selfAndRest;show CL (wpAny_notOrdered_dict a.typeIs ?_);show UD ?_;show wpAny _ _ (Builtin.Dict.updateFrom "dict.__init__" s.heap.objs.size (.ref Z) [] .none) _ _ _;ext Builtin.Dict.updateFrom;show CL (Xb H ?_);rw[ax ()];show CL (nI f z λc B l=>?_);rw[ax (show(P:bg U).isNone=S from rfl)];show CL (Y4 ?_);let j:=l _ _ f;let r:c.IsTuple Z Y:=#[_,j,W,n,W];show CL (Zg r ?_);show UD #[W2 F.plain_upd_loop _,?_];let Py:s.heap.objs.size<c.objs.size:=by let(o,_,_,m,_):=a;show b4 (l _ _ m)
 let g:=b4 y;show EY (A:=A.in1) (knd:=X) z (U3 (Xs g Py)) (VI Py) (U3 g) (λi v e=>?_) C V (λt p L k2=>?_) Y.size 0 _ B () (Vq _) #[_,cc _ W,W,W] #[_,b3 _ j,W,n,W] ?_ λb o _ _ e=>e
 .let(q,key,k,x,rfl,J,t,o,m,I):=G i v e;let u:=b4 m;show#[q,key,k,x,W,U3 u,U3 (Xs u Py),J,t,o,b3 _ (l _ _ (b3 _ m)),I]
 .show#[W,h t p L λb o e=>?_];let lb:=b4 e;show k2 b o (U3 lb) (U3 (Xs lb Py)) (b3 _ (l _ _ (b3 _ e)))
 .let:=a.at (h':=c.push {cls:=.type "tuple_iterator",data:=.fields #v[.ref Z,.int 0 0]}) λo e=>b3 _ (l _ _ e);show this
end
end PySem
namespace L10
open PySem PySem.Spec PyProof.Rows L2 L3
inductive aan(K:lD)(H:Hp):G V->G (b5×V)->Prop
 |nil:aan K H [] []
 |cons {q:I} {k:b5} {v:V} {vs:G V} {U7:G (b5×V)}:Ya K H q [kV k,v]->aan K H vs U7->aan K H (.ref q::vs) ((k,v)::U7)
def xl(K:lD):G V->Hp->VK->Prop:=λxs H Q=>∃p ys a,xs=[.ref p]/\Ya K H p ys/\aan K H ys a/\∀d,H d=P->Q (.ref d) (aX H d (.dK (mz [] a)))
theorem C2(I:Inv X pins σ H s):∀{g:G V} {A:G (b5×V)} {us:G U},aan X.K H g A->Vals g us->∃y:G (b5×U),KV A y/\y.length=us.length/\∀(i:Nat) (v:U),us[i]?=M v->∃q key k x,v=.ref q/\y[i]?=M (k,x)/\(cA X.prog X.w).is k key=S/\s.heap.IsTuple q #v[key,x]
 |_,_,_,.nil,.nil=>#[[],.nil,W,λi v e=>by simp at e]
 |_,_,_,.cons (q:=q) (k:=k) (v:=v) h t,.cons r rs=>by
  let(y,o,n,m):=C2 I t rs;let(p,B,pl,_):=I.tuple h;ext r;obtain⟨f,d,rfl,l,j⟩:∃f d,p=[f,d]/\RelV (kV k) f/\RelV v d:=by
   cases B with
   |cons a b=>cases b with
    |cons b c=>ext c;show#[_,_,W,a,b]
  show#[(k,d)::y,.cons #[W,j] o,by rw[UO,UO,n],λi u e=>?_];cases i with
  |zero=>ext e;show#[q,f,k,d,W,W,sj l,pl]
  |succ i=>show m i u (by simpa using e)
def xk(C:X.calm=S):W3 X (.type "dict") (xl X.K):=by
 intro d s E H xs G Q I r h;let(p,F,Y,rfl,m,t,q):=h;let(u,rfl,f):=jj r;ext f;let(P,T,(o,w,(b,n,B),a),l):=I.aek m;let(N,k1,k2,k3):=C2 I t T;let(M,L,j,g):=o;ext b;ext B;ext a;let y:=T.length;let z:=k1.length;show nG (I.ok.hd C) w (by rw[UN];show k2) (by rw[UN,<-y];show l) (λi v e=>k3 i v (by simpa using e)) λO J dd A=>?_;show#[.ref s.heap.objs.size,_,I.laid A (UG _) ?_,W,q _ (I.VQ.fresh (UG _))];show xI ?_ ?_ (KV.merge k1 .nil) dd
 .let:=j9 Y [];rw[V7]at this;ext
 .show beq_eq_false_iff_ne.mpr (VI I.big)
end L10
namespace L10
open PySem PyProof.Rows L2 L3
def ND:VF "dict"=M (.type "dict"):=by left
section
variable{B O O':bF}{K:lD}{E:XK}{H H' S R:Hp}{Y α' X U:bb Uz}{ω ω' ω1 Z:aL}{T:L2.St}{ρ:aV}{v:V}
def rB:SV->z b5
 |.fz (.int i)=>M (.inl i)
 |.fz (.str x)=>M (.inr x)
 |_=>P
def om(e:rB x=M k)(h:Xl O K H Y v x):v=kV k:=by
 unfold rB at e;split at e
 .ext e;ext h;rfl
 .ext e;ext h;rfl
 .ext e
abbrev sJ(O:bF)(K:lD)(H:Hp)(Y:G I):G (b5×V)->G (b5×SV)->Prop:=Paired (λ(p:b5×V) (q:b5×SV)=>p.1=q.1/\Xl O K H Y p.2 q.2)
def gA(ω:aL):SV->z (Nat×G (b5×SV))
 |.rf i=>match ω[i]? with
  |some (.Zm a)=>M (i,a)
  |_=>P
 |_=>P
def kJ(s:Vc B K H Y ω)(b:Xl (ow B Y ω) K H Y v x)(h:gA ω x=M (i,o)):ω[i]?=M (.Zm o)/\∃a ws,Y[i]?=M a/\v=.ref a/\H a=M (.dK ws)/\sJ (ow B Y ω) K H Y ws o:=by
 cases x with
 |fz d=>ext h
 |tp l=>ext h
 |rf j=>
  let(a,n,rfl):=b;unfold gA at h;dsimp only at h;cases q:ω[j]? with
  |none=>rw[q]at h;ext h
  |some c=>
   rw[q]at h;cases c with
   |Zm m=>let e:=UT h;ext e;let(ws,g,f):=s.cel i a _ n q;show#[q,a,ws,n,W,g,f]
   |_=>ext h
def iH(b:G (b5×SV))(k:b5):z SV:=(b.find? λa=>decide (a.1=k)).map (·.2)
def i6(b:G (b5×SV))(k:b5)(x:SV):G (b5×SV):=
 if(b.any λa=>decide (a.1=k))=Uv then b.map (λa=>if a.1=k then(a.1,x)else a)else b++[(k,x)]
def kE(b:G (b5×SV))(k:b5):G (b5×SV):=b.filter λa=>decide (a.1≠k)
def uv:∀{ws:G (b5×V)} {c:G (b5×SV)},sJ O K H Y ws c->(∀x,iH c k=M x->∃v,i9 ws k=M v/\Xl O K H Y v x)/\(iH c k=P->i9 ws k=P):=by
 intro _ _ d
 induction d with
 |nil=>show#[λx e=>(by ext e),λ_=>W]
 | @cons l j ws c i t m=>
  let(a,u):=l;let(b,y):=j;let(g,f):=i;ext g;unfold iH i9;rw[Vl,Vl];by_cases e:a=k
  .simp only[a4 e];show#[λx h=>#[u,W,by ext h;show f],λh=>by ext h]
  .simp only[a5 e];show m
def Ss:∀{ws:G (b5×V)} {g:G (b5×SV)},sJ O K H Y ws g->(ws.any λc=>decide (c.1=k))=g.any λc=>decide (c.1=k):=by
 intro _ _ d
 induction d with
 |nil=>show W
 | @cons j i ws g h t l=>let(a,u):=j;let(b,y):=i;let(e,f):=h;ext e;rw[XD,XD,l]
def S6(f:Xl O K H Y v x):∀{ws:G (b5×V)} {i:G (b5×SV)},sJ O K H Y ws i->sJ O K H Y (ws.map (λc=>if c.1=k then(c.1,v)else c)) (i.map (λc=>if c.1=k then(c.1,x)else c)):=by
 intro _ _ d
 induction d with
 |nil=>show .nil
 | @cons n m ws i l t j=>
  let(a,u):=n;let(b,y):=m;let(h,g):=l;ext h;rw[UU,UU];by_cases e:a=k
  .rw[ax e,ax e];show .cons #[W,f] (j)
  .rw[aE e,aE e];show .cons #[W,g] (j)
def DY(h:sJ O K H Y ws o)(r:p.1=q.1/\Xl O K H Y p.2 q.2):sJ O K H Y (ws++[p]) (o++[q]):=by
 induction h with
 |nil=>show .cons r .nil
 |cons a _ b=>show .cons a b
def zu(a:Xl O K H Y v x)(h:sJ O K H Y ws o):sJ O K H Y (ip ws k v) (i6 o k x):=by
 unfold ip i6;rw[Ss h];split
 .show S6 a h
 .show DY h #[W,a]
def F9:∀{ws:G (b5×V)} {c:G (b5×SV)},sJ O K H Y ws c->sJ O K H Y (lX ws k) (kE c k):=by
 intro _ _ d
 induction d with
 |nil=>show .nil
 | @cons l j ws c i t h=>
  let(a,u):=l;let(b,y):=j;let(g,f):=i;ext g;unfold lX kE;rw[W5,W5];by_cases e:a=k
  .let z:decide (a≠k)=Ux:=a5 λn=>n e;simp only[z];show h
  .let z:=a4 e;simp only[z];show .cons #[W,f] (h)
def rl(neg:Bool)(a fd:cR):cR:=λρ ω=>(a ρ ω).bind λx ω1=>(fd ρ ω1).bind λo Z=>(RS.VD Z (rB x)).bind λk Z=>(RS.VD Z (gA Z o)).bind λp Z=>.ok (.fz (.bool ((iH p.2 k).isSome !=neg))) Z
def Fz(h:sJ O K H Y ws o):(i9 ws k).isSome=(iH o k).isSome:=by
 let(b,a):=uv h;cases q:iH o k with
 |none=>rw[a q];rfl
 |some x=>let(u,e,_):=b x q;rw[e];rfl
def Jt(n:ce K E C fk)(hd:ce K E J fd):ce K E (Rs C J) (rl Ux fk fd):=by intro B T H Y ω ρ Q s d w;show n B T H Y ω ρ _ s d (w.bind.imp λx X ω1 S e1 g f v l=>?_);show hd B T S X ω1 ρ _ g (d.WQ e1) (f.bind.imp λo U Z R e2 e b u m=>?_);let(k,j,b):=WS.VD b;let((i,t),h,b):=WS.VD b;let(_,a,ws,r,rfl,q,p):=kJ e m h;show#[a,i9 ws k,W,by rw[om j l];show aaz.k q,?_];rw[Fz p];show WS.now e b _ ?_;rw[adO];show .bl _
def p9(fd a:cR):cR:=λρ ω=>(fd ρ ω).bind λo ω1=>(a ρ ω1).bind λx Z=>(RS.VD Z (rB x)).bind λk Z=>(RS.VD Z (gA Z o)).bind λp Z=>RS.VD Z (iH p.2 k)
def Er(hd:ce K E J fd)(r:ce K E C fk):ce K E (K9 J C) (p9 fd fk):=by
 intro B T H Y ω ρ Q s d w;show hd B T H Y ω ρ _ s d (w.bind.imp λo X ω1 S e1 h f u p=>?_);show r B T S X ω1 ρ _ h (d.WQ e1) (f.bind.imp λx U Z R e2 e b v n=>?_);let(k,l,b):=WS.VD b;let((i,L),j,b):=WS.VD b;let(_,a,ws,N,rfl,A,t):=kJ e (p.WQ e2) j;dsimp only at b;cases q:iH L k with
 |none=>rw[q]at b;show b.elim
 |some y=>rw[q]at b;let(z,m,g):=(uv t).1 y q;show#[a,z,W,by rw[om l n,<-m];show aaz.k A,WS.now e b z g]
def rQ(fd c b:cR):dH:=λρ ω=>(b ρ ω).bind λy ω1=>(fd ρ ω1).bind λo Z=>(c ρ Z).bind λx a=>(RS.VD a (rB x)).bind λk a=>(RS.VD a (gA a o)).bind λp a=>if p.2.length<1000000 then .ok (.nx ρ) (a.set p.1 (.Zm (i6 p.2 k y)))else .bad
def EJ(hd:ce K E td fd)(M:ce K E tk fk)(J:ce K E tv fv):mX K E (KA td tk tv) (rQ fd fk fv):=by
 intro B T H Y ω ρ D s f w;show J B T H Y ω ρ _ s f (WS.imp (WS.bind w) λy X ω1 S e1 C t m l=>?_);show hd B T S X ω1 ρ _ C (f.WQ e1) (WS.imp (WS.bind t) λo U Z R e2 A q u L=>?_);show M B T R U Z ρ _ A (f.WQ (e1.trans e2)) (WS.imp (WS.bind q) λx b d g e3 n e z I=>?_);let(k,G,e):=WS.VD e;let((i,U7),F,e):=WS.VD e;let(j,a,ws,Q,rfl,N,p):=kJ n (L.WQ e3) F;dsimp only at e;by_cases hn:U7.length<1000000
 .rw[ax hn]at e;let ev:Ev (ow B b d) g (ow B b d) (aX g a (.dK (ip ws k m))):=oQ Q j (by nofun);let e4:Wm b d g b (d.set i (.Zm (i6 U7 k y))) (aX g a (.dK (ip ws k m))):=Wm.put Q j (by nofun) (by nofun);let P:=Paired.length p;show#[a,_,W,by rw[om G I];show acJ.k N (rZ ()),?_];show e b _ e4 (n.put Q j (by nofun) (by nofun) #[_,aC,zu ((l.WQ (e2.trans e3)).ev ev λ_ _ h=>h) (Paired.X9 p λ_ _ r=>#[r.1,r.2.ev ev λ_ _ h=>h])]) T ((f.WQ (e1.trans (e2.trans e3))).WQ e4)
 .rw[aE hn]at e;show e.elim
def rY(fd a:cR):cR:=λρ ω=>(fd ρ ω).bind λo ω1=>(RS.VD ω1 (gA ω1 o)).bind λ_ ω1=>(a ρ ω1).bind λx Z=>(RS.VD Z (rB x)).bind λk Z=>(RS.VD Z (gA Z o)).bind λp Z=>(RS.VD Z (iH p.2 k)).bind λy Z=>.ok y (Z.set p.1 (.Zm (kE p.2 k)))
def B1(hd:ce K E td fd)(I:ce K E tk fk):ce K E (Cc td tk) (rY fd fk):=by intro B T H Y ω ρ Q s g w;show hd B T H Y ω ρ _ s g (w.bind.imp λo X ω1 S e1 l e u m=>?_);let((N,M),C,e):=WS.VD e;let(_,a,d,_,rfl,g0,_):=kJ l m C;show#[a,W,.inl #[d,.inl g0],?_];show I B T S X ω1 ρ _ l (g.WQ e1) (e.bind.imp λx U Z R e2 j b v G=>?_);let(k,A,b):=WS.VD b;let((i,U7),t,b):=WS.VD b;let(f,P,ws,ha,L,J,n):=kJ j (m.WQ e2) t;ext L;dsimp only at b;let(y,q,b):=WS.VD b;let(z,F,p):=(uv n).1 y q;let ev:Ev (ow B U Z) R (ow B U Z) (aX R a (.dK (lX ws k))):=oQ ha f (by nofun);let e4:Wm U Z R U (Z.set i (.Zm (kE U7 k))) (aX R a (.dK (lX ws k))):=Wm.put ha f (by nofun) (by nofun);show#[ws,k,z,J,om A G,F,?_];show b U _ e4 (j.put ha f (by nofun) (by nofun) #[_,aC,F9 (Paired.X9 n λ_ _ r=>#[r.1,r.2.ev ev λ_ _ h=>h])]) z (p.WQ e4)
def lS(s:Vc B K H Y ω)(a:H p=P)(w:WS K E B H Y ω (PQ B K Q) (.ok (.rf ω.length) (ω++[c])))(d:∀e:Wm Y ω H (Y++[p]) (ω++[c]) (aX H p o),COk (ow B (Y++[p]) (ω++[c])) K (aX H p o) (Y++[p]) p c):Q (.ref p) (aX H p o):=by let b:Wj H (aX H p o):=bz a _;let e:Wm Y ω H (Y++[p]) (ω++[c]) (aX H p o):=Wm.aag s.len b a;show w _ _ e (s.aag b a (by rw[aC];simp) (d e)) _ #[p,by rw[<-s.len];show aJ,W]
def u9(fd:cR):cR:=λρ ω=>(fd ρ ω).bind λo ω1=>(RS.VD ω1 (gA ω1 o)).bind λp ω1=>.ok (.rf ω1.length) (ω1++[.lst (p.2.map (·.2))])
def Ex:∀{ws:G (b5×V)} {b:G (b5×SV)},sJ O K H Y ws b->Xd O K H Y (ws.map (·.2)) (b.map (·.2)):=by
 intro _ _ a
 induction a with
 |nil=>show .nil
 | @cons _ _ _ _ h t d=>show .cons h.2 (d)
def Eo(hd:ce K E C fd):ce K E (Ew Eh (fZ (PX K "dict" Lm C) jf)) (u9 fd):=by intro B T H Y ω ρ Q s j w;show hd B T H Y ω ρ _ s j (w.bind.imp λo X ω1 S e1 g d u q=>?_);let((i,L),n,d):=WS.VD d;let(A,a,ws,J,rfl,f,z):=kJ g q n;show#[.inr (.inr (.inl #[W,.inl #[ws,f]])),a,ws,W,W,f,λp t=>?_];let b:Wj S (aX S p (RY p a)):=bz t _;let m:=g.grow b;let h:=WS.from (Wm.same b) d;show#[p,a,ws,W,aC,b _ _ f,λl y=>?_];show lS m y h λe=>#[_,aC,Ex (Paired.X9 z λ_ _ r=>#[r.1,(r.2.WQ (Wm.same b)).WQ e])]
def wR:b5->z Int
 |.inl i=>M i
 |.inr _=>P
def qU(fd:cR):cR:=λρ ω=>(fd ρ ω).bind λo ω1=>(RS.VD ω1 (gA ω1 o)).bind λp ω1=>(RS.VD ω1 (aF wR (p.2.map (·.1)))).bind λa ω1=>if a.length<64 then .ok (.rf ω1.length) (ω1++[.lst ((jx a).map λi=>SV.fz (.int i))])else .bad
theorem pJ:∀{c:G b5} {a:G Int},aF wR c=M a->c=a.map Sum.inl
 |[],_,e=>by ext e;rfl
 |k::r,a,e=>by
  unfold aF at e;cases k with
  |inr x=>ext e
  |inl i=>
   dsimp only[wR]at e;cases q:aF wR r with
   |none=>rw[q]at e;ext e
   |some b=>rw[q]at e;ext e;rw[UU,<-pJ q]
def Dm:∀{ws:G (b5×V)} {b:G (b5×SV)},sJ O K H Y ws b->ws.map (·.1)=b.map (·.1):=by
 intro _ _ a
 induction a with
 |nil=>show W
 | @cons _ _ _ _ h t d=>rw[UU,UU,h.1,d]
theorem yU(O:bF)(K:lD)(H:Hp)(Y:G I):∀ns:G Int,Xd O K H Y (ns.map V.int) (ns.map λi=>SV.fz (.int i))
 |[]=>.nil
 |n::r=>.cons (.int n) (yU O K H Y r)
def FC(hd:ce K E C fd):ce K E (Ew yj (fZ C jf)) (qU fd):=by
 intro B T H Y ω ρ Q s g w;show hd B T H Y ω ρ _ s g (w.bind.imp λo X ω1 S e1 f b u m=>?_);let((i,L),j,b):=WS.VD b;let(z,a,ws,J,rfl,t,r):=kJ f m j;let(d,h,b):=WS.VD b;by_cases hn:d.length<64
 .rw[ax hn]at b;show#[a,ws,d,W,t,by rw[Dm r];show pJ h,hn,λl A q p n=>?_];let y:=jQ (p.trans (dX d).symm) n (dC d);subst y;show lS f q b λe=>#[_,aC,yU _ _ _ _ _]
 .rw[aE hn]at b;show b.elim
def pA:D->z (b5×SV)
 |.tuple [.int i,d]=>M (.inl i,.fz d)
 |.tuple [.str x,d]=>M (.inr x,.fz d)
 |_=>P
def tq:SV->z (G (b5×SV))
 |.fz (.tuple ds)=>aF pA ds
 |_=>P
def A7(e:tq x=M o):∃ds,x=.fz (.tuple ds)/\aF pA ds=M o:=by
 unfold tq at e;split at e
 .show#[_,W,e]
 .ext e
def kG(c a:G (b5×SV)):G (b5×SV):=a.foldl (λb d=>i6 b d.1 d.2) c
def rJ(b:cR):cR:=λρ ω=>(b ρ ω).bind λx ω1=>(RS.VD ω1 (tq x)).bind λa ω1=>.ok (.rf ω1.length) (ω1++[.Zm (kG [] a)])
theorem vS:∀{k:G V} {ds:G D} {j:G (b5×SV)},L3.Wb O K H k ds->aF pA ds=M j->∃g,aan K H k g/\sJ O K H Y g j
 |_,_,_,.nil,e=>by ext e;show#[[],.nil,.nil]
 |_,_,_,.cons (d:=d) (ds:=ds) h t,e=>by
  unfold aF at e;cases q:pA d with
  |none=>rw[q]at e;ext e
  |some p=>
   rw[q]at e;dsimp only at e;cases i:aF pA ds with
   |none=>rw[i]at e;ext e
   |some j=>
    rw[i]at e;ext e;let(g,k1,k2):=vS t i;unfold pA at q;split at q
    .ext q
     cases h with
     |tup h f=>cases f with
      |cons a b=>cases b with
       |cons b c=>ext c;ext a;show#[(.inl _,_)::g,.cons h.1 k1,.cons #[W,b] k2]
    .ext q
     cases h with
     |tup h f=>cases f with
      |cons a b=>cases b with
       |cons b c=>ext c;ext a;show#[(.inr _,_)::g,.cons h.1 k1,.cons #[W,b] k2]
    .ext q
theorem yG:∀{d:G (b5×V)} {e:G (b5×SV)} {ws:G (b5×V)} {c:G (b5×SV)},sJ O K H Y d e->sJ O K H Y ws c->sJ O K H Y (mz ws d) (kG c e)
 |_,_,_,_,.nil,h=>h
 |(a,u)::d,(b,y)::e,_,_,.cons r t,h=>by let(g,f):=r;ext g;show sJ O K H Y (mz (ip _ a u) d) (kG (i6 _ a y) e);show yG t (zu f h)
def Gz(l:ce K E o C):ce K E (Ew (xl K) (fZ o jf)) (rJ C):=by
 intro B T H Y ω ρ Q s f w;show l B T H Y ω ρ _ s f (w.bind.imp λx X ω1 S e1 g b u i=>?_);let(p,q,a):=WS.VD b;let(ds,rfl,q):=A7 q;let a:=a;cases i with
 |tup h j=>let(n,k1,k2):=vS j q;show#[_,_,n,W,h.1,k1,λd m=>lS g m a λe=>#[_,aC,yG (Paired.X9 k2 λ_ _ r=>#[r.1,r.2.WQ e]) .nil]]
end
end L10
namespace PySem
open PyProof.Rows
def j6:z Int->Int->z Int
 |none,x=>M x
 |some m,x=>M (if x>m then x else m)
def QU:z (Int×Tok)->Array U
 |none=> #v[]
 |some (m,t)=> #v[.int m t,.int m t]
def LK(d:U):z (Int×Tok)->U
 |none=>d
 |some (m,t)=>.int m t
namespace F
def args_maxd(a b:U):checkBuiltinCall "max" #[[a],[("default",b)]]=pure ⟨⟩:=by kernel_rfl
end F
section
variable{prog:UZ}{w:Vf}{A:Vb}{E:Ut->UC->Prop}{R:Zr->UC->Prop}{I l S:Uz}{vs:bb Ut}{d:Ut}
def Ij(V:A.handled=Ld)(YI:l≠I)(r:S≠I)(O:S≠l){s:UC}:
  ∀{B:bb Ut} {Y:bb Int},IntsAre B Y->∀(i:Nat) (h:Heap) (M:Nat) (b:bg (Int×Tok)) (c:Nat),vs=vs.take i++B->i<=vs.length->h.IsListIter I l i->h.IsList l vs.toArray->h.get? S=cL {cls:=.type "list",dict:=Ld,data:=.seq (QU b) c,slots:= #v[]}->
  (∀x M D,D.map (·.1)=Y.foldl j6 (b.map (·.1))->(∀a o,a≠I->a≠S->h.get? a=cL o->x.get? a=cL o)->R (.ok (.ret (LK d D))) {s with heap:=x,toks:=M})->
  codeAny (model prog w) A (.builtin "max.loop" #[[.ref I,.none,.ref S],[("default",d)]]) R {s with heap:=h,toks:=M}:=by
 let W:=aeK.list (prog:=prog) (w:=w) (A:=A.in1) V I l YI vs.toArray;intro B Y hi
 induction hi with
 |nil=>
  intro i h M b c u hi it Z Q L;let e:i=vs.toArray.size:=by rw[Vh]at u;let:=ef Yd u;rw[VY]at this;rw[UN];ext
  show Xp F.entry_max_loop ?_;rw[Vb.under_plainId F.plain_max_loop _];show CL (VX Q rfl ?_);show CL (Zu (W.done _ _ _ (e▸#[it,Z]) λx g y=>?_));let f:=y S _ (by simpa using r) Q;cases b with
  |none=>show CL (Y4 (UD ?_));show L x g Ld rfl λa o j z e=>y a o (by simpa using j) e
  |some p=>let(m,t):=p;show CL (Zc f rfl (CL (W9 (UD ?_))) (hz:=by show 2<=UK;decide));show L _ g (cL (m,t)) rfl λa o j z e=>(ck _ _ (dN z)).trans (y a o (by simpa using j) e)
 | @cons n t ai7 afy hr ih=>
  intro i h M b c u hi it Z Q L;let XU:i<vs.toArray.size:=by let:=ef Yd u;rw[UE,VY,UO]at this;rw[UN];ext
  let N:vs[i]?=cL (.int n t):=by rw[u,Va (by rw[VY];ext),VY,YK hi,afr];rfl
  let C:vs=vs.take (i+1)++ai7:=by rw[Yf,N];rw[Ve];show u
  let G:i+1<=vs.length:=by rw[UN]at XU;show XU
  show Xp F.entry_max_loop ?_;rw[Vb.under_plainId F.plain_max_loop _];show CL (VX Q rfl ?_);show CL (Zu (W.item i _ _ _ XU #[it,Z] λv x g hP K y=>?_));let ev:v=.int n t:=by let T:=hP;rw[List.getElem?_toArray,N]at T;show(UT T).symm
  subst ev;let f:=y S _ (by simpa using r) Q;let J:(toString "max"++toString ".loop":String)= "max.loop":=by decide
  cases b with
  |none=>
   show wpAny _ A.in1 (updateSeq S (λ_=> #v[Ut.int n t,Ut.int n t])>>=_) _ _ _;show CL (Zc f rfl ?_);rw[J];show UD #[W2 F.plain_max_loop _,ih (i+1) _ g (cL (n,t)) _ C G (K.1.at λo e=>?_) (K.2.at λo e=>?_) (cn _ f rfl) λz q U e2 k2=>L z q U e2 λa o j H e=>k2 a o j H ((ck _ _ (dN H)).trans (y a o (by simpa using j) e))]
   .show(ck _ _ r).trans e
   .show(ck _ _ O).trans e
  |some p=>
   let(m,t0):=p;show wpAny _ A.in1 (tryCatch (holding [Ut.int n t,Ut.int n t] (richCompare .Gt (Ut.int n t) (Ut.int m t0)>>=_)) _>>=_) _ _ _;let aiJ:=CmpOf.ints_gt (prog:=prog) (w:=w) (A:=A.in1) (P:=λ(k:Nat) v=>(k=0/\v=Ut.int n t)\/(k=1/\v=Ut.int m t0)) (λk=>if k=0 then n else m) λk v u=>by
    rcases u with⟨rfl,rfl⟩|⟨rfl,rfl⟩
    .show#[t,rfl]
    .show#[t0,rfl]
   show CL (Zu (VW (CL (aiJ 0 1 _ _ _ _ _ (.inl #[rfl,rfl]) (.inr #[rfl,rfl]) ?_))));show CL (VW (Wl ?_));show CL (W9 (UD ?_));show wpAny _ A.in1 (if decide (n>m)=Uv then _ else _) _ _ _;by_cases X:n>m
   .rw[ax (a4 X)]
    show CL (Zc f rfl (CL (W9 ?_)) (hz:=by show 2<=UK;decide));rw[J];show UD #[W2 F.plain_max_loop _,ih (i+1) _ g (cL (n,t)) _ C G (K.1.at λo e=>?_) (K.2.at λo e=>?_) (cn _ f rfl) λz q U e2 k2=>L z q U ?_ λa o j H e=>k2 a o j H ((ck _ _ (dN H)).trans (y a o (by simpa using j) e))]
    .show(ck _ _ r).trans e
    .show(ck _ _ O).trans e
    .rw[e2];show _=afy.foldl j6 (cL (if n>m then n else m));rw[ax X];rfl
   .rw[aE (by rw[a5 X];show UQ)];show CL (W9 ?_);rw[J];show UD #[W2 F.plain_max_loop _,ih (i+1) _ g (cL (m,t0)) c C G K.1 K.2 f λz q U e2 k2=>L z q U ?_ λa o j H e=>k2 a o j H (y a o (by simpa using j) e)];rw[e2];show _=afy.foldl j6 (cL (if n>m then n else m));rw[aE X];rfl
def Bm(n:A.handled=P)(g:s.heap.IsList l vs.toArray)(r:IntsAre vs ns)
  (q:∀c k b,b.map (·.1)=ns.foldl j6 P->(∀a o,s.heap.get? a=M o->c.get? a=M o)->Q (LK d b) {s with heap:=c,toks:=k}):
  wpAny (model prog w) A (call (.builtin "max") [.ref l] [("default",d)]) Q E s:=by
 let j:l<s.heap.objs.size:=by let(_,e,_):=g;show b4 e
 let h:(toString "max"++toString ".loop":String)= "max.loop":=by decide
 show Y0 (XZ F.plain_max F.entry_max (aaD (F.args_maxd _ _) ?_));show CL (aaD (show Builtin.Builtins.bindParams "max" ["key","default"] 0 #[[],[("default",d)]]=pure [P,M d]from rfl) ?_);show CL (UD ?_);show CL (Xj g ?_);show CL (Vw ?_);rw[h];let f:(s.heap.push {cls:=.type "list_iterator",data:=.fields #v[.ref l,.int 0 0]}).objs.size=s.heap.objs.size+1:=cv _ _;show UD #[W2 F.plain_max_loop _,Ij n (U3 j) (by rw[f];show Nat.succ_ne_self _) (by rw[f];show VI (Yk j)) r 0 _ s.toks P 0 W (Vq _) #[_,b3 _ (cc _ W),W,W] ((g.push _).push _) (cc _ W) λc k b p m=>?_];show q c k b p λa o e=>?_;let i:=b4 e;show m a o (U3 i) (by rw[f];show U3 (Yk i)) (b3 _ (b3 _ e))
end
end PySem
namespace L10
open PySem PySem.Spec PyProof.Rows L2 L3
def KU(K:lD)(i:Int):G V->Hp->VK->Prop:=λxs H Q=>∃(p:I) (a:G Int),xs=[.ref p]/\Yr K H p (a.map V.int)/\Q (.int ((a.foldl j6 P).getD i)) H
def Kh(B:X.calm=S)(A:Gl X "max")(hm:X.mg "max"=P)(c:PA X [l] ta)(f:OG l=R:=by rfl):
  PE X (.Call (.Name "max" p) [l] [#[cL "default",.Constant (.int i) j p1,p2]] pos) (Ew (KU X.K i) ta):=by
 intro d s g H Q I h;show Ww (kI I A hm Lh (callWith_kw (bT (c pos d s g H _ I h) λF n #[Y,E,e,r,v]=>?_) (by rw[rE _ _ _ f];rfl) (by rw[rE _ _ _ f];rfl) W W));let(a,w,rfl,y,q):=v;let(u,rfl,o):=jj r;ext o;let(M,T,pl,J):=e.list y;show agn (ad3 (ago ?_));let N:=e.tok (n.toks+1);show Bm (e.ok.hd B) pl.isList (kB T) λL G b C z=>?_;show#[.int ((w.foldl j6 P).getD i),E,e.kept z,?_,q];rw[<-C];cases b with
 |none=>show#[_,W]
 |some p=>let(m,t):=p;show#[t,W]
def Ap(i:Int):G D->z RV
 |[.list ds]=>(l8 ds).map λa=>.fz (.int ((a.foldl j6 P).getD i))
 |_=>P
def GN{K:lD}:AW K (KU K i) (Ap i):=by
 intro O H xs ds o Q n d e q;unfold Ap at e;split at e
 .rename_i es
  cases d with
  |cons j h=>
   ext h;cases l:l8 es with
   |none=>rw[l]at e;ext e
   |some b=>rw[l]at e;ext e;let(a,m,rfl,g,f):=BM j;obtain rfl:=nY f l;show#[a,b,W,g.sq,q.at (.int _)]
 .ext e
end L10
namespace L10
open PySem L2 L3
section
variable{B O O':bF}{K:lD}{E:XK}{H H' H1 H2:Hp}{X Y U α2:bb Uz}{ω Z ω1 ω2:aL}{σ:L2.St}{ρ:aV}{v:V}
def gq{l r:G A}(h:(l++r)[i]?=M y):l[i]?=M y\/∃j,i=l.length+j/\r[j]?=M y:=by
 by_cases hi:i<l.length
 .rw[UL hi]at h;show .inl h
 .rw[Va ()]at h;show .inr #[i - l.length,by ext,h]
def JN{l r:G A}{i:Nat}(h:l[i]?=M y):(l++r)[i]?=M y:=by rw[UL (Uw.mp h).1];show h
def Cq{l r:G A}(h:r[i]?=M y):(l++r)[l.length+i]?=M y:=by rw[Va (),Yt];show h
def Dk(g:X.length=ω.length)(h:Lv (X++o) (ω++cs) b):Lv X ω b\/b∈o:=by
 let(i,d,f,e,a):=h;rcases gq f with g1|⟨j,e1,g1⟩
 .rcases gq e with g2|⟨k,e2,g2⟩
  .show .inl #[i,d,g1,g2,a]
  .let:=(Uw.mp g1).1;ext
 .show .inr (UX g1)
theorem Wm.aaB(s:Vc B K H X ω)(e:Wj H H')(d:∀p∈ps,H p=P):Wm X ω H (X++ps) (ω++cs) H':=
 #[λi a h=>JN h,λb u q _=>e b u q,λb z=>(Dk s.len z).imp id λz=>d b z]
def Vc.aaB(s:Vc B K H X ω)(e:Wj H H')(f:∀p∈ps,H p=P)(m:∀p∈ps,H' p≠P)(nd:∀(i j:Nat) (a:I),ps[i]?=M a->ps[j]?=M a->i=j)(t:ps.length=cs.length)
  (new:∀(i:Nat) (a:I) (c:Cell),ps[i]?=M a->cs[i]?=M c->COk (ow B (X++ps) (ω++cs)) K H' (X++ps) a c):Vc B K H' (X++ps) (ω++cs):=by
 let ev:Wm X ω H (X++ps) (ω++cs) H':=Wm.aaB s e f;let n:∀b,H b≠P->H' b≠P:=λb h z=>h (e.free z);show#[by rw[UE,UE,s.len,t],λi j a g l=>?_,λa h=>n a (s.bn a h),λa h i q=>?_,λi a h=>?_,λi a d g l=>?_]
 .rcases gq g with g1|⟨y,e1,g1⟩<;>rcases gq l with g2|⟨u,e2,g2⟩
  .show s.nd i j a g1 g2
  .show a7 (f a (UX g2)) (s.al i a g1)
  .show a7 (f a (UX g1)) (s.al j a g2)
  .let:=nd y u a g1 g2;ext
 .rcases gq q with q|⟨j,_,q⟩
  .show s.ba a h i q
  .show s.bn a h (f a (UX q))
 .rcases gq h with h|⟨j,_,h⟩
  .show n a (s.al i a h)
  .show m a (UX h)
 .let r:=s.len
  rcases gq l with g2|⟨j,e2,g2⟩
  .rcases gq g with g1|⟨k,e1,g1⟩
   .show(s.cel i a d g1 g2).ev ev.ev ev.pre λo q=>e _ _ q
   .let:=(Uw.mp g2).1;ext
  .rcases gq g with g1|⟨k,e1,g1⟩
   .let:=(Uw.mp g1).1;ext
   .let:k=j:=by ext
    subst this;show new k a d g1 g2
def BV(Z:aL):Nat->G AV->z (G AV×G (G D)×G Nat)
 |_,[]=>M ([],[],[])
 |n,.fz d::r=>match BV Z n r with
  |some (l,cs,a)=>M (.fz d::l,cs,a)
  |none=>P
 |n,.rf i::r=>match sh Z (.rf i)with
  |some (.list ds)=>(match BV Z (n+1) r with
   |some (l,cs,a)=>M (.rf n::l,ds::cs,i::a)
   |none=>P)
  |_=>P
def Sa(ds:G D):Cell:=.lst (ds.map .fz)
def ox(x:SV)(Z ω:aL):RS SV:=match x with
 |.fz d=>.ok (.fz d) ω
 |.rf i=>(match sh Z (.rf i)with
  |some (.list ds)=>jw ω (.ow ds)
  |_=>.bad)
 |.tp l=>(match BV Z ω.length l with
  |some (a,cs,b)=>if b.Nodup then .ok (.tp a) (ω++cs.map Sa)else .bad
  |none=>.bad)
def on(h:sh ω (.rf i)=M (.list ds)):∃xs,ω[i]?=M (.lst xs)/\aF uF xs=M ds:=by
 unfold sh at h;dsimp only at h;cases q:ω[i]? with
 |none=>rw[q]at h;ext h
 |some c=>
  rw[q]at h;cases c with
  |lst xs=>
   dsimp only at h;cases a:aF uF xs with
   |none=>rw[a]at h;ext h
   |some es=>rw[a]at h;ext h;show#[xs,W,a]
  |_=>ext h
def gB(s:Vc B K H X ω)(h:sh ω (.rf i)=M (.list ds)):∃a c,X[i]?=M a/\H a=M (.lst c)/\L3.Wb (ow B X ω) K H c ds/\ow B X ω a:=by let(xs,b,d):=on h;let(a,j):=s.at b;let(c,g,f):=s.cel i a _ j b;show#[a,c,j,g,jq (cg (R:=Xl (ow B X ω) K H X) (λv x y r e=>xT r e) f d),.inr #[i,_,j,b,by intro z;ext z]]
def Q5{o:bF}(s:Vc o K H' Y Z):∀{n:Nat} {l u:bb AV} {cs:bb (bb D)} {g:bb Nat} {xs:bb V},BV Z n l=cL (u,cs,g)->Paired (AOk (ow o Y Z) K H' Y) xs l->
  ∃c:bb Uz,c.length=g.length/\cs.length=g.length/\(∀(k j:Nat),g[k]?=cL j->∃a ds Q,c[k]?=cL a/\cs[k]?=cL ds/\Y[j]?=cL a/\H' a=cL (.lst Q)/\L3.Wb (ow o Y Z) K H' Q ds/\ow o Y Z a)/\
   ∀(b:bb Uz),b.length=n->Paired (AOk (ow o Y Z) K H' (b++c)) xs u:=by
 intro n l u cs g xs e p
 induction p generalizing n u cs g with
 |nil=>ext e;show#[[],W,W,λk j h=>by simp at h,λb _=>.nil]
 | @cons _ x _ r h t ih=>
  cases x with
  |fz d=>
   unfold BV at e;cases q:BV Z n r with
   |none=>rw[q]at e;ext e
   |some p=>let(I,F,w):=p;rw[q]at e;ext e;let(c,C,A,z,y):=ih q;show#[c,C,A,z,λb f=>.cons h (y b f)]
  |rf i=>
   unfold BV at e;cases T:sh Z (.rf i)with
   |none=>rw[T]at e;ext e
   |some d=>
    rw[T]at e;cases d with
    |list ds=>
     dsimp only at e;cases q:BV Z (n+1) r with
     |none=>rw[q]at e;ext e
     |some p=>
      let(I,F,w):=p;rw[q]at e;ext e;let(c,C,A,z,y):=ih q;let(a,Q,ha,J,M,L):=gB s T;show#[a::c,by rw[UO,UO,C],by rw[UO,UO,A],λk j G=>?_,λb f=>?_]
      .cases k with
       |zero=>ext G;show#[a,ds,Q,W,W,ha,J,M,L]
       |succ k=>show z k j (by simpa using G)
      .let e2:b++a::c=(b++[a])++c:=by simp
       let(N,m,rfl):=h;rw[ha]at m;ext m;show .cons #[a,by rw[<-f];show Cq (l:=b) (r:=a::c) (i:=0) W,W] ?_;rw[e2];show y (b++[a]) (by rw[UE,f];rfl)
    |_=>ext e
def AU(s:Vc B K H X ω)(w:WS K E B H X ω (PQ B K Q) (ox x Z ω))(D:Wm [] [] H Y Z H')(G:Vc (ow B X ω) K H' Y Z)(J:Xl (ow (ow B X ω) Y Z) K H' Y v x):Q v H':=by
 let C:=λb o h=>D.kp b o h λ#[i,c,q,_]=>by simp at q
 let sub:∀b,ow B X ω b->ow (ow B X ω) Y Z b:=λb z=>.inl z;let fr:=λi a c R h2 h3=>(D.lv a #[i,c,R,h2,h3]).elim (λ#[i,c,q,_]=>by simp at q) id;cases x with
 |fz d=>show w X H' (Wm.same C) (s.grow C) v (DV.ev (Ev.sub sub) J)
 |rf i=>
  unfold ox at w;dsimp only at w;cases qs:sh Z (.rf i)with
  |none=>rw[qs]at w;show w.elim
  |some d=>
   rw[qs]at w;cases d with
   |list ds=>let(a,vs,ha,R,hd,M):=gB G qs;let(xs,e,_):=on qs;let(a',F,rfl):=J;rw[ha]at F;ext F;show pT s w C (fr i a _ ha e (by nofun)) R hd sub M
   |_=>show w.elim
 |tp l=>
  unfold ox at w;dsimp only at w;cases qg:BV Z ω.length l with
  |none=>rw[qg]at w;show w.elim
  |some p=>
   let(l',cs,I):=p;rw[qg]at w;dsimp only at w;by_cases hn:I.Nodup
   .rw[ax hn]at w
    let(a,xs,rfl,ht,hl):=J;let(ps,g1,g2,g3,g4):=Q5 G qg hl;let A:∀(k:Nat) (b:Uz),ps[k]?=cL b->∃j ds vs,I[k]?=cL j/\cs[k]?=cL ds/\Y[j]?=cL b/\H' b=cL (.lst vs)/\L3.Wb (ow (ow B X ω) Y Z) K H' vs ds/\ow (ow B X ω) Y Z b:=λk b hb=>by
     let f:k<I.length:=by rw[<-g1];show(Uw.mp hb).1
     let(b',ds,vs,e,y,u,m,t,g):=g3 k _ (UI f);rw[hb]at e;ext e;show#[_,ds,vs,UI f,y,u,m,t,g]
    let nB:∀(j:Nat) (b:Uz),Y[j]?=cL b->ow (ow B X ω) Y Z b->H b=Ld:=λj b N M=>by
     rcases M with z|⟨i,c,z1,z2,z3⟩
     .show a7 N (G.ba b z j)
     .show fr i b c z1 z2 z3
    let fp:∀p∈ps,H p=Ld:=λp L=>by let(k,f):=VS.mp L;let(j,ds,vs,e,y,u,m,t,g):=A k p f;show nB j p u g
    let n:∀b,ow B (X++ps) (ω++cs.map Sa) b->ow (ow B X ω) Y Z b:=λb z=>by
     rcases z with z|z
     .show .inl (.inl z)
     .rcases Dk s.len z with z|z
      .show .inl (.inr z)
      .let(k,f):=VS.mp z;let(j,ds,vs,e,y,u,m,t,g):=A k b f;show g
    let ev:=Wm.aaB (cs:=cs.map Sa) s C fp;show w (X++ps) H' ev (s.aaB C fp (λp L=>?_) (λi j b hi N=>?_) (by rw[Uy,g1,g2]) λi b c hi T=>?_) (.ref a) #[a,xs,W,ht.ev (Ev.sub n),Paired.X9 (g4 X s.len) λ_ _ r=>r.ev (Ev.sub n) λ_ _ h=>h]
    .let(k,f):=VS.mp L;let(j,ds,vs,e,y,u,m,t,g):=A k p f;rw[m];simp
    .let(j1,_,_,S,_,p3,_):=A i b hi;let(j2,_,_,r1,_,r3,_):=A j b N;let:=G.nd j1 j2 b p3 r3;subst this;let P:=(Uw.mp S).1;show(List.getElem?_inj P hn).mp (S.trans r1.symm)
    .let(j,ds,vs,e,y,u,m,t,g):=A i b hi;rw[UJ,y]at T;ext T;show#[vs,m,kq _ _ (t.ev (Ev.sub n))]
   .rw[aE hn]at w;show w.elim
def rK(F:fJ)(n:Nat)(xs:G SV)(ω:aL):RS SV:=if xs.length=n then(match aF uF xs with
 |some ds=>(match F (ds.map .fz) []with
  |.ok x Z=>ox x Z ω
  |.er x _=>.er x ω
  |.bad=>.bad)
 |none=>.bad)else .bad
def jt(F:fJ)(n:Nat)(a:u6):cR:=λρ ω=>(a ρ ω).bind λxs ω1=>iY (rK F n xs ω1)
theorem yd(h:∀a,B a->H a≠P):Vc B K H [] []:=#[W,λi j a h=>by simp at h,h,λa h i=>by simp,λi a h=>by simp at h,λi a c h=>by simp at h]
theorem zZ:∀{xs:G SV} {ds:G D},aF uF xs=M ds->xs=ds.map .fz
 |[],_,e=>by ext e;rfl
 |x::r,ds,e=>by
  unfold aF at e;cases x with
  |fz d=>
   dsimp only[uF]at e;cases q:aF uF r with
   |none=>rw[q]at e;ext e
   |some es=>rw[q]at e;ext e;rw[UU,<-zZ q]
  |rf i=>ext e
  |tp l=>ext e
def Cw(s:Vc B K H X ω)(d:Xd (ow B X ω) K H X C xs)(w:WS K E B H X ω (PQ B K Q) (rK F n xs ω)):jR K n F C H Q E:=by
 unfold rK at w;by_cases hn:xs.length=n
 .rw[ax hn]at w
  show#[d.length.trans hn,?_];cases q:aF uF xs with
  |none=>rw[q]at w;show w.elim
  |some ds=>
   rw[q]at w;dsimp only at w;let j:=zZ q;show#[ow B X ω,[],[],ds.map .fz,yd s.owd,?_,?_]
   .rw[j]at d;show kq _ _ ((Cr d).ev (Ev.sub λb z=>z.elim id λ#[i,c,q,_]=>by simp at q))
   .cases l:F (ds.map .fz) []with
    |bad=>rw[l]at w;show w.elim
    |ok x Z=>rw[l]at w;show λY H' e g v a=>AU s w e g a
    |er x Z=>
     rw[l]at w;intro c m Y H' e g k;let f:=λb o h=>e.kp b o h λ#[i,c,q,_]=>by simp at q
     show w c m X H' (Wm.same f) (s.grow f) (XOk.sub (λb z=>.inl z) k)
 .rw[aE hn]at w;show w.elim
def Bo(c:uC K E o C):ce K E (lY (jR K n F) [] E0 o) (jt F n C):=by intro B σ H X ω ρ Q s b w;show c B σ H X ω ρ _ s b (w.bind.imp λxs U ω1 H1 e1 d a f e=>?_);rw[Vh];show Cw d e (WS.e0 a)
def Q1(F:fJ):FN:=λds=>match F (ds.map .fz) []with
 |.ok (.fz d) _=>.ok (.fz d)
 |.ok (.rf i) ω=>(match sh ω (.rf i)with
  |some (.list ds)=>.ok (.ow ds)
  |_=>.bad)
 |.ok (.tp _) _=>.bad
 |.er x _=>.er x
 |.bad=>.bad
def LV(h:zJ K n (Q1 F) vs H Q E):jR K n F vs H Q E:=by
 let(u,B,ds,A,G,w):=h;show#[u,B,[],[],ds.map .fz,yd A,kq _ _ (G.ev (Ev.sub λb z=>z.elim id λ#[i,c,q,_]=>by simp at q)),?_];unfold Q1 at w;cases L:F (ds.map .fz) []with
 |bad=>rw[L]at w;show w.elim
 |er x Z=>rw[L]at w;intro c T Y H' f j k;show w c T H' (λb o h=>f.kp b o h λ#[i,c,q,_]=>by simp at q) (XOk.sub (λb z=>.inl z) k)
 |ok x Z=>
  rw[L]at w;intro Y H' f j v m;let g:=λb o h=>f.kp b o h λ#[i,c,q,_]=>by simp at q
  cases x with
  |fz d=>show w v H' g (DV.ev (Ev.sub λb z=>.inl z) m)
  |tp l=>show w.elim
  |rf i=>
   dsimp only at w;cases J:sh Z (.rf i)with
   |none=>rw[J]at w;show w.elim
   |some d=>
    rw[J]at w;cases d with
    |list es=>let(a,p,N,C,y,t):=gB j J;let(xs,r,_):=on J;let(I,e,rfl):=m;rw[N]at e;ext e;show w a p H' g ((f.lv a #[i,_,N,r,by intro z;ext z]).elim (λ#[i,c,q,_]=>by simp at q) id) C (y.ev (Ev.sub λb z=>z.elim (λz=>.inl z) λz=>by rw[z];show t))
    |_=>show w.elim
end
def mZ(P:UZ)(w:Vf)(K:lD)(d:Str->z U)(base:Heap)(a:sU)(k:Nat)(C m:Str)(c:G Str)(sp:Sp):Prop:=
 ∃b f fd,U8 K UY C=M (M (.ref b))/\Cls K b/\Meth K b m f/\FnOk P w K d base a k f fd c sp/\Binds K fd c []
def v3(P:UZ)(w:Vf)(K:lD)(d:Str->z U)(base:Heap)(a:sU)(k:Nat)(C:Str)(c:G Str)(sp:Sp):Prop:=
 ∃b f fd,U8 K UY C=M (M (.ref b))/\d C=M (.ref b)/\Mk K b f/\FnOk P w K d base a k f fd c sp/\Binds K fd c []
def l9(K:lD)(C m:Str)(sp:Sp)(E:XK)(c:TE)(t:TA):TE:=λa H Q=>∃b,U8 K UY C=M (M (.ref b))/\sd b m sp [] E c t a H Q
def x9(K:lD)(C:Str)(sp:Sp)(E:XK)(t:TA):TE:=λa H Q=>∃b,U8 K UY C=M (M (.ref b))/\we b sp [] E t a H Q
section
variable{X:Cx}{Y:sU}{E:XK}{k j:Nat}{C m:Str}{A:bb Str}{N:Sp}{o e:U4}{es:bb U4}{U:TE}{t:TA}{Z T p:Pos}
def Q4(M:mZ X.prog X.w X.K X.mg X.base Y k C m A N)(i:dr Y X E)(n:Wr j X.A)(q:PE X o U)(c:PA X (e::es) t)(b:k<=j:=by decide)
  (cX:UW (e::es) X.env=(R,eval e X.env)::UW es X.env:=by rfl) (B:(backTo T (UW es X.env)).any (·.1)=R:=by rfl)
  (l:eval (.Call (.Attribute o m Z) (e::es) [] T) X.env=(do
   let ov<-eval o X.env
   standAt Z.atName
   let(f,first)<-holding [ov] (getMethod ov m pl)
   callWith T f first (backTo T (UW (e::es) X.env)) (backToKw T (keywordEach [] X.env))):=by rfl):PE X (.Call (.Attribute o m Z) (e::es) [] T) (l9 X.K C m N E U t):=by
 let(J,f,F,z,y,v,u,r):=M;intro a s g H Q I #[G,d,h];rw[z]at d;ext d;show G3 q y v u (n.mono b) r .nil i c cX B l a s g H Q I h
def Pj(M:mZ X.prog X.w X.K X.mg X.base Y k C m A N)(i:dr Y X E)(n:Wr j X.A)(q:PE X o U)(b:k<=j:=by decide)
  (l:eval (.Call (.Attribute o m Z) [] [] T) X.env=(do
   let J<-eval o X.env
   standAt Z.atName
   let(f,first)<-holding [J] (getMethod J m pl)
   callWith T f first (backTo T (UW [] X.env)) (backToKw T (keywordEach [] X.env))):=by rfl):PE X (.Call (.Attribute o m Z) [] [] T) (l9 X.K C m N E U jf):=by
 let(G,f,B,z,y,v,u,r):=M;intro a s g H Q I #[F,d,h];rw[z]at d;ext d;show DW q y v u (n.mono b) r .nil i l a s g H Q I h
def Ky(M:v3 X.prog X.w X.K X.mg X.base Y k C A N)(l:dr Y X E)(n:Wr j X.A)(c:PA X (e::es) t)(b:k+1<=j:=by decide)(q:Gl X C:=by rfl)
  (d:(C==("__debug__":Str))=R:=by decide) (r:UW (e::es) X.env=(R,eval e X.env)::UW es X.env:=by rfl) (F:(backTo T (UW es X.env)).any (·.1)=R:=by rfl):
  PE X (.Call (.Name C p) (e::es) [] T) (x9 X.K C N E t):=by
 let(L,f,G,B,z,y,v,u):=M;intro a s i H Q I #[J,g,h];rw[B]at g;ext g;show Kn y v (n.mono b) q z u .nil l c d r F a s i H Q I h
end
section
variable{K:lD}{E:XK}{C m:Str}{F:fJ}{n:Nat}{to:TE}{Z:TA}{X:cR}{Y:u6}{L:bb Str}
def MH(a:jX K C L)(e:ce K E to X)(c:uC K E Z Y):ce K E (l9 K C m (jR K n F) E to Z) (nt C m F n X Y):=by let(f,a,_):=a;show λB b H α g h Q s d w=>#[f,a,C3 a e c B b H α g h Q s d w]
def zm(a:jX K C L)(e:ce K E to X)(c:uC K E Z Y):ce K E (l9 K C m (jR K n F) E0 to Z) (aM C m F n X Y):=by let(f,a,_):=a;show λB b H α g h Q s d w=>#[f,a,Bh a e c B b H α g h Q s d w]
def Pv(a:jX K C L)(c:uC K E Z Y):ce K E (x9 K C (jR K n F) E Z) (Bw C F n Y):=by let(e,a,_):=a;show λB b H α f g Q s d w=>#[e,a,JW a c B b H α f g Q s d w]
def IP(a:jX K C L)(c:uC K E Z Y):ce K E (x9 K C (jR K n F) E0 Z) (p7 C F n Y):=by let(e,a,_):=a;show λB b H α f g Q s d w=>#[e,a,D6 a c B b H α f g Q s d w]
end
section
variable{ρ ρ1 L:aV}{T X Z Q J:aL}{x y z:SV}{i n:Nat}{d dx Y:D}{ds:bb D}{b:Bool}
def a9(h:ρ[i]?=M (M x)):ar i ρ T=.ok x T:=by ext ar;rw[h]
def ai(h:f (bP ρ)=.ok (.fz d,ρ')):ag f ρ T=.ok (.fz d) T:=by ext ag;rw[h]
def eJ(h:f (bP ρ)=.ok (.ow ds,ρ')):ag f ρ T=.ok (.rf T.length) (T++[.lst (ds.map .fz)]):=by ext ag;rw[h];rfl
def aW(h:f (bP ρ)=.ok (b,o)):bq f ρ T=.ok b T:=by ext bq;rw[h]
def qL(h:f (bP ρ)=.ok (ds,o)):kg f ρ T=.ok ds T:=by ext kg;rw[h]
def g8(g:e ρ T=.ok (.rf i) X)(h:X[i]?=M (.obj C fs))(a:fs.lookup f=M x):aU C f e ρ T=.ok x X:=by ext aU;rw[g,ej];dsimp only;rw[h];dsimp only;rw[ax W,a];rfl
def b7(c:o ρ T=.ok x X)(e:fb ρ X=.ok y Z)(a:mF f x y Z=.ok z Q):jd f o fb ρ T=.ok z Q:=by ext jd;rw[c,ej,e,ej,a]
def bH(h:f dx Y=M (.fz d)):mF f (.fz dx) (.fz Y) T=.ok (.fz d) T:=by ext mF;show((RS.VD T (f dx Y)).bind λa X=>jw X a)=_;rw[h];rfl
def xN(e:sh T x=M dx)(a:sh T y=M Y)(h:f dx Y=M (.fz d)):mF f x y T=.ok (.fz d) T:=by ext mF;rw[e,a];show((RS.VD T (f dx Y)).bind λg X=>jw X g)=_;rw[h];rfl
theorem lR:∀ds:G D,aF uF (ds.map .fz)=M ds
 |[]=>rfl
 |d::r=>by rw[UU];ext aF;rw[lR r];rfl
def eW(h:T[i]?=M (.lst (ds.map .fz))):sh T (.rf i)=M (.list ds):=by ext sh;dsimp only;rw[h];dsimp only;rw[lR];rfl
def aR(h:o ρ T=.ok (.fz (.bool b)) X):bc o ρ T=.ok b X:=by ext bc;rw[h];rfl
def eY(h:o ρ T=.ok S X)(k:fb ρ X=r):jW o fb ρ T=r:=by ext jW;rw[h,ej,ax W,k]
def eT(h:o ρ T=.ok R X):jW o fb ρ T=.ok R X:=by ext jW;rw[h,ej,aE UQ]
def pW(h:o ρ T=.ok S X):BT o fb ρ T=.ok S X:=by ext BT;rw[h,ej,ax W]
def lC(h:o ρ T=.ok R X)(k:fb ρ X=r):BT o fb ρ T=r:=by ext BT;rw[h,ej,aE UQ,k]
def tI(h:o ρ T=.ok b X):sD o ρ T=.ok (!b) X:=by ext sD;rw[h];rfl
def A4(h:bc o ρ T=.ok S X)(k:fb ρ X=r):xB o fb ρ T=r:=by ext xB;rw[h,ej,ax W,k]
def Bf(h:bc o ρ T=.ok R X):xB o fb ρ T=.ok (.fz (.bool R)) X:=by ext xB;rw[h,ej,aE UQ]
def J5(h:c ρ T=.ok S X)(k:o ρ X=r):K6 c o fb ρ T=r:=by ext K6;rw[h,ej,ax W,k]
def Ig(h:c ρ T=.ok R X)(k:fb ρ X=r):K6 c o fb ρ T=r:=by ext K6;rw[h,ej,aE UQ,k]
theorem aI:aG ρ T=.ok [] T:=W
def am(c:o ρ T=.ok x X)(a:fr ρ X=.ok xs Z):aj o fr ρ T=.ok (x::xs) Z:=by ext aj;rw[c,ej,a,ej]
def qZ(c:o ρ T=.ok (ds.map .fz) X)(a:ds.length<=1000):hV o ρ T=.ok (.fz (.tuple ds)) X:=by ext hV;rw[c,ej,Uy,ax a];ext RZ;rw[lR];rfl
def yF(c:o ρ T=.ok xs X)(a:xs.length<=1000)(f:aF uF xs=P)(e:aF Sg xs=M l):hV o ρ T=.ok (.tp l) X:=by ext hV;rw[c,ej,ax a];ext RZ;rw[f];dsimp only;rw[e];rfl
def wv(c:o ρ T=.ok xs X)(a:aF (sh X) xs=M ds)(h:f ds=M (.fz d)):xE f o ρ T=.ok (.fz d) X:=by ext xE;rw[c,ej];ext OH;rw[a];show((RS.VD X (f ds)).bind λe X=>jw X e)=_;rw[h];rfl
def w6(e:o ρ T=.ok (ds.map .fz) X)(c:ds.length=n)(a:F ds=.ok (.fz d)):gX F n o ρ T=.ok (.fz d) X:=by ext gX;rw[e,ej];ext wz;rw[Uy,ax c,lR];dsimp only;rw[a];rfl
def tm(e:o ρ T=.ok (ds.map .fz) X)(c:ds.length=n)(a:F ds=.ok (.ow es)):gX F n o ρ T=.ok (.rf X.length) (X++[.lst (es.map .fz)]):=by ext gX;rw[e,ej];ext wz;rw[Uy,ax c,lR];dsimp only;rw[a];rfl
theorem lJ:iY (RS.ok a T)=.ok a T:=W
def Ah(e:o ρ T=.ok (.rf i) X)(f:X[i]?=M (.obj C fs))(hm:fs.lookup m=P)(h:fa ρ X=.ok xs Z)(c:(SV.rf i::xs).length=n)(g:F (.rf i::xs) Z=.ok x Q):aM C m F n o fa ρ T=.ok x Q:=by
 let a:kh X C m (.rf i)=S:=by ext kh;dsimp only;rw[f];dsimp only;rw[hm,a4 W];rfl
 ext aM;rw[e,ej,ax a,h,ej,ax c,g];rfl
def Nr(e:o ρ T=.ok xs X)(c:(SV.rf X.length::xs).length=n)(a:F (.rf X.length::xs) (X++[.obj C []])=.ok (.fz .none) Z):p7 C F n o ρ T=.ok (.rf X.length) Z:=by ext p7;rw[e,ej];ext r8;rw[ax c,a,ej,ax (show AY (.fz .none)=S from rfl)];rfl
def bZ(c:o ρ T=.ok (.fz dx) X)(a:fb ρ X=.ok (.fz Y) Z)(h:aO dx Y=M (.fz d)):eO o fb ρ T=.ok (.fz d) Z:=by ext eO;rw[c,ej,a,ej];show bH h
def sC(a:fo ρ T=.ok (.rf i) X)(h:X[i]?=M (.lst xs))(f:fe ρ X=.ok x Z)(g:Z[i]?=M (.lst ys))(e:ys.length<1000000):pf fo fe ρ T=.ok (.fz .none) (Z.set i (.lst (ys++[x]))):=by
 let e1:gH X (.rf i)=M (i,xs):=by ext gH;dsimp only;rw[h]
 let e2:gH Z (.rf i)=M (i,ys):=by ext gH;dsimp only;rw[g]
 ext pf;rw[a,ej,e1];show((fe ρ X).bind _)=_;rw[f,ej,e2];show(if ys.length<1000000 then _ else _)=_;rw[ax e]
def kA(h:T[i]?=M (.Zm o)):gA T (.rf i)=M (i,o):=by ext gA;dsimp only;rw[h]
def xy(a:o ρ T=.ok x X)(hd:fd ρ X=.ok (.rf i) Z)(f:rB x=M k)(e:Z[i]?=M (.Zm C)):rl neg o fd ρ T=.ok (.fz (.bool ((iH C k).isSome !=neg))) Z:=by ext rl;rw[a,ej,hd,ej,f];show((RS.VD Z (gA Z (.rf i))).bind _)=_;rw[kA e];rfl
def Kc(hd:fd ρ T=.ok (.rf i) X)(a:C ρ X=.ok x Z)(g:rB x=M k)(f:Z[i]?=M (.Zm o))(e:iH o k=M y):p9 fd C ρ T=.ok y Z:=by ext p9;rw[hd,ej,a,ej,g];show((RS.VD Z (gA Z (.rf i))).bind _)=_;rw[kA f];show RS.VD Z (iH o k)=_;rw[e];rfl
def HR(a:C ρ T=.ok y X)(hd:fd ρ X=.ok (.rf i) Z)(f:fk ρ Z=.ok x Q)(h:rB x=M k)(g:Q[i]?=M (.Zm o))(e:o.length<1000000):rQ fd fk C ρ T=.ok (.nx ρ) (Q.set i (.Zm (i6 o k y))):=by ext rQ;rw[a,ej,hd,ej,f,ej,h];show((RS.VD Q (gA Q (.rf i))).bind _)=_;rw[kA g];show(if o.length<1000000 then _ else _)=_;rw[ax e]
def JP(hd:fd ρ T=.ok (.rf i) X)(h:X[i]?=M (.Zm aim))(a:C ρ X=.ok x Z)(g:rB x=M k)(f:Z[i]?=M (.Zm o))(e:iH o k=M y):rY fd C ρ T=.ok y (Z.set i (.Zm (kE o k))):=by ext rY;rw[hd,ej,kA h];show((C ρ X).bind _)=_;rw[a,ej,g];show((RS.VD Z (gA Z (.rf i))).bind _)=_;rw[kA f];show((RS.VD Z (iH o k)).bind _)=_;rw[e];rfl
def JE(hd:fd ρ T=.ok (.rf i) X)(h:X[i]?=M (.Zm o)):u9 fd ρ T=.ok (.rf X.length) (X++[.lst (o.map (·.2))]):=by ext u9;rw[hd,ej,kA h];rfl
def Jn(hd:fd ρ T=.ok (.rf i) X)(h:X[i]?=M (.Zm o))(e:aF wR (o.map (·.1))=M ns)(a:ns.length<64):qU fd ρ T=.ok (.rf X.length) (X++[.lst ((jx ns).map λi=>SV.fz (.int i))]):=by ext qU;rw[hd,ej,kA h];show((RS.VD X (aF wR (o.map (·.1)))).bind _)=_;rw[e];show(if ns.length<64 then _ else _)=_;rw[ax a]
def GZ(a:C ρ T=.ok x X)(h:tq x=M o):rJ C ρ T=.ok (.rf X.length) (X++[.Zm (kG [] o)]):=by ext rJ;rw[a,ej,h];rfl
variable{B:FlS}{r:RS FlS}
def b8(h:f ρ T=.ok (.nx ρ1) X)(k:g ρ1 X=r):aH f g ρ T=r:=by ext aH;rw[h,ej];show k
def mE(h:f ρ T=.ok (.rt x) X):aH f g ρ T=.ok (.rt x) X:=by ext aH;rw[h];rfl
def ez(h:c ρ T=.ok S X)(k:f ρ X=r):bS c f g ρ T=r:=by ext bS;rw[h,ej,ax W,k]
def gy(h:c ρ T=.ok R X)(k:g ρ X=r):bS c f g ρ T=r:=by ext bS;rw[h,ej,aE UQ,k]
def gW(h:f ρ T=.ok x X):fR f ρ T=.ok (.rt x) X:=by ext fR;rw[h];rfl
def gQ(h:f ρ T=.ok x X):bv f ρ T=.ok (.nx ρ) X:=by ext bv;rw[h];rfl
def oS(h:f ρ T=.ok x X)(e:ρ.set i (M x)=ρ1):cJ f (eR i) ρ T=.ok (.nx ρ1) X:=by subst e;ext cJ;rw[h];rfl
theorem gu:bX ρ T=.ok (.nx ρ) T:=W
def mS(h:fe ρ T=.ok x X)(a:o ρ X=.ok (.rf i) Z)(j:Z[i]?=M (.obj C fs))(g:fs.length<100):d5 C f o fe ρ T=.ok (.nx ρ) (Z.set i (.obj C (gG f x fs))):=by
 let e:Gr Z C (.rf i)=M (i,fs):=by ext Gr;dsimp only;rw[j];dsimp only;rw[ax W]
 ext d5;rw[h,ej,a,ej,e];show(if fs.length<100 then _ else _)=_;rw[ax g]
def iS(h:f ρ T=.ok x X)(k:frz 4 X x=M (d,Z)):jc f ρ T=.ok (.fz d) Z:=by ext jc;rw[h,ej];ext Mp;rw[k]
def iR(e:xs.map M++UH (N - xs.length) P=ρ)(h:g ρ T=.ok (.rt x) X):cH N g xs T=.ok x X:=by subst e;ext cH;rw[h];rfl
def kT(e:xs.map M++UH (N - xs.length) P=ρ)(h:g ρ T=.ok (.nx ρ1) X):cH N g xs T=.ok (.fz .none) X:=by subst e;ext cH;rw[h];rfl
end
section
variable{ρ Q J:aV}{Y X Z B A:aL}{x y z:SV}{i n:Nat}{d u t:D}{ds:bb D}{b:Bool}
theorem jO(e:α->D)(f:α->SV)(Y:aL)(I:aV->Prop):∀(xs:G α) (ρ:aV) (acc:G SV),I ρ->acc.length+xs.length<=1000000->(∀x∈xs,∀ρ,I ρ->∃c,gt (.fz (e x)) ρ Y=.ok c Y/\ft c Y=.ok S Y/\fe c Y=.ok (f x) Y/\I c)->dc gt ft fe (xs.map e) ρ Y acc=.ok (acc++xs.map f) Y
 |[],ρ,acc,_,_,_=>by show RS.ok acc Y=_;rw[W4,Vh]
 |x::r,ρ,acc,h0,o,m=>by let(c,l,j,h,g):=m x UP ρ h0;rw[UO]at o;show((gt (.fz (e x)) ρ Y).bind _)=_;rw[l,ej,j,ej,ax W,h,ej,ax (),jO e f Y I r c _ g (by rw[UE,WO];ext) λy a=>m y (UM _ a),Ve];rfl
def ot(c:C ρ Y=.ok ds X)(a:dc gt o fe ds (nj n fj ρ) X []=.ok xs Z):i8 n fj C gt o fe ρ Y=.ok (.rf Z.length) (Z++[.lst xs]):=by ext i8;rw[c,ej,a,lJ,ej]
theorem oa(m:Nat):∀(ds:G D),j4 (frz m) Y (ds.map .fz)=M (ds,Y)
 |[]=>rfl
 |d::r=>by rw[UU];ext j4;rw[show frz m Y (.fz d)=M (d,Y) by ext m<;>rfl];dsimp only;rw[oa m r]
def lu(h:Y[i]?=M (.lst (ds.map .fz))):frz 4 Y (.rf i)=M (.list ds,Y.set i .dead):=by ext frz;rw[h];dsimp only;rw[oa]
def ul(h:fe ρ Y=.ok (.rf i) X)(a:X[i]?=M (.lst (ds.map .fz))):ie fe ρ Y=.ok ds (X.set i .dead):=by ext ie;rw[h,ej,lu a];rfl
def SY(N C:aV->aL->Prop)(T:SV->aL->Prop):RS FlS->Prop
 |.ok (.nx ρ) Y=>N ρ Y
 |.ok (.ct ρ) Y=>C ρ Y
 |.ok (.rt v) Y=>T v Y
 |_=>False
structure XX(r:RS FlS)(N C:aV->aL->Prop)(T:SV->aL->Prop):Prop where
 out:SY N C T r
variable{f g:dH}{L:cR}{N C:aV->aL->Prop}{T:SV->aL->Prop}
def XX.eq(e:r=r')(h:XX r' N C T):XX r N C T:=by rw[e];show h
def o0(h:XX (f ρ Y) (λr o=>XX (g r o) N C T) C T):XX (aH f g ρ Y) N C T:=by
 show#[?_];let h:=h.out;ext aH;cases q:f ρ Y with
 |bad=>rw[q]at h;show h.elim
 |er x o=>rw[q]at h;show h.elim
 |ok a o=>
  rw[q]at h;cases a with
  |nx r=>show(show XX (g r o) N C T from h).out
  |ct r=>show h
  |rt v=>show h
  |bk r=>show h.elim
def vT(h:c ρ Y=.ok b X)(a:b=S->XX (f ρ X) N C T)(e:b=R->XX (g ρ X) N C T):XX (bS c f g ρ Y) N C T:=by
 ext bS;rw[h,ej];cases b with
 |true=>show a W
 |false=>show e W
theorem oP(e:c ρ Y=.ok S X)(a:XX (f ρ X) N C T):XX (bS c f g ρ Y) N C T:=vT e (λ_=>a) λh=>by ext h
theorem dk(e:c ρ Y=.ok R X)(a:XX (g ρ X) N C T):XX (bS c f g ρ Y) N C T:=vT e (λh=>by ext h) λ_=>a
def Nl(e:L ρ Y=.ok x X)(a:gt x ρ X=.ok Q Z)(h:N Q Z):XX (cJ L gt ρ Y) N C T:=by show#[?_];ext cJ;rw[e,ej,a,ej];show h
theorem lO(a:f ρ Y=.ok (.nx Q) X)(h:N Q X):XX (f ρ Y) N C T:=#[by rw[a];show h]
theorem QG(a:f ρ Y=.ok (.rt x) X)(h:T x X):XX (f ρ Y) N C T:=#[by rw[a];show h]
theorem gL(a:L ρ Y=.ok x X)(h:N ρ X):XX (bv L ρ Y) N C T:=lO (gQ a) h
theorem ON(a:L ρ Y=.ok x X)(h:T x X):XX (fR L ρ Y) N C T:=QG (gW a) h
theorem J1(h:T (.fz .none) Y):XX (oO ρ Y) N C T:=#[h]
theorem jG(h:N ρ Y):XX (bX ρ Y) N C T:=#[h]
theorem iL{gt:wY}(e:L ρ Y=.ok x X)(a:gt x ρ X=.ok Q Z)(h:XX (g Q Z) N C T):XX (aH (cJ L gt) g ρ Y) N C T:=o0 (Nl e a h)
theorem yE(a:f ρ Y=.ok (.nx Q) X)(h:XX (g Q X) N C T):XX (aH f g ρ Y) N C T:=o0 (lO a h)
theorem jE(a:L ρ Y=.ok x X)(h:XX (g ρ X) N C T):XX (aH (bv L) g ρ Y) N C T:=o0 (gL a h)
def wy{h a:dH}(m:c ρ Y=.ok b X)(j:b=S->XX (aH h g ρ X) N C T)(l:b=R->XX (aH a g ρ X) N C T):XX (aH (bS c h a) g ρ Y) N C T:=by
 let e:aH (bS c h a) g ρ Y=if b=S then aH h g ρ X else aH a g ρ X:=by unfold aH bS;rw[m,ej];ext b<;>rfl
 show .eq e ?_;cases b with
 |true=>show j W
 |false=>show l W
theorem uo{a l:dH}(j:c ρ Y=.ok S X)(e:XX (aH a g ρ X) N C T):XX (aH (bS c a l) g ρ Y) N C T:=wy j (λ_=>e) λh=>by ext h
theorem oZ{l a:dH}(j:c ρ Y=.ok R X)(e:XX (aH a g ρ X) N C T):XX (aH (bS c l a) g ρ Y) N C T:=wy j (λh=>by ext h) λ_=>e
theorem tL(h:T (.fz .none) Y):XX (aH oO g ρ Y) N C T:=o0 (J1 h)
theorem lQ(h:XX (g ρ Y) N C T):XX (aH bX g ρ Y) N C T:=o0 (jG h)
def MV{a e:dH}(h:XX (aH a (aH e g) ρ Y) N C T):XX (aH (aH a e) g ρ Y) N C T:=by
 show .eq ?_ h;ext aH;cases a ρ Y with
 |bad=>rfl
 |er x o=>rfl
 |ok j o=>ext j<;>rfl
def M8(a:xs.map M++UH (n - xs.length) P=ρ)(h:XX (g ρ Y) (λ_ c=>T (.fz .none) c) (λ_ _=>False) T):∃x c,cH n g xs Y=.ok x c/\T x c:=by
 let h:=h.out;ext cH;rw[a];cases q:g ρ Y with
 |bad=>rw[q]at h;show h.elim
 |er x o=>rw[q]at h;show h.elim
 |ok e o=>
  rw[q]at h;cases e with
  |nx r=>show#[_,_,W,h]
  |ct r=>show h.elim
  |rt v=>show#[_,_,W,h]
  |bk r=>show h.elim
def g9{W:aL->Prop}(a:xs.map M++UH (n - xs.length) P=ρ)(h:XX (g ρ Y) (λ_ c=>SV.fz .none=v/\W c) (λ_ _=>False) (λr c=>r=v/\W c)):∃c,cH n g xs Y=.ok v c/\W c:=by let(x,c,l,j,e):=M8 (T:=λr c=>r=v/\W c) a h;show#[c,by rw[l,j],e]
end
def Sk(a:aL):AV->z D
 |.fz d=>M d
 |.rf i=>sh a (.rf i)
def RB(F:fJ):FN:=λds=>match F (ds.map .fz) []with
 |.ok (.fz d) _=>.ok (.fz d)
 |.ok (.rf i) a=>(match sh a (.rf i)with
  |some (.list ds)=>.ok (.ow ds)
  |_=>.bad)
 |.ok (.tp l) a=>(match aF (Sk a) l with
  |some ds=>.ok (.fz (.tuple ds))
  |none=>.bad)
 |.er x _=>.er x
 |.bad=>.bad
section
variable{B O O':bF}{K:lD}{E:XK}{H T H1 H2:Hp}{X Y α1 α2:bb Uz}{ω Z ω1 ω2:aL}{σ:L2.St}{ρ:aV}{v:V}
def Ry(s:Vc B K H X ω)(h:AOk (ow B X ω) K H X v x)(e:Sk ω x=M d):L3.DV B K H v d:=by
 let sub:∀b,B b->ow B X ω b:=λb z=>.inl z;cases x with
 |fz n=>ext e;show DV.ev (Ev.sub sub) h
 |rf i=>
  let(a,p,rfl):=h;let f:sh ω (.rf i)=M d:=e;let:∃ds,d=.list ds:=by
   unfold sh at f;dsimp only at f;split at f
   .rename_i xs _
    cases q:aF uF xs with
    |none=>rw[q]at f;ext f
    |some ds=>rw[q]at f;ext f;show#[_,W]
   .ext f
  let(ds,rfl):=this;let(o,r,g,l,j,m):=gB s f;rw[p]at g;ext g;show .lst #[XS.of l,λz=>a7 p (s.ba a z i)] (j.ev (Ev.sub sub))
def Oe(h:zJ K n (RB F) vs H Q E):jR K n F vs H Q E:=by
 let(I,B,ds,L,N,w):=h;show#[I,B,[],[],ds.map .fz,yd L,kq _ _ (N.ev (Ev.sub λb z=>z.elim id λ#[i,c,q,_]=>by simp at q)),?_];unfold RB at w;cases qF:F (ds.map .fz) []with
 |bad=>rw[qF]at w;show w.elim
 |er x Z=>rw[qF]at w;intro c dx Y T g m k;show w c dx T (λb o h=>g.kp b o h λ#[i,c,q,_]=>by simp at q) (XOk.sub (λb z=>.inl z) k)
 |ok x Z=>
  rw[qF]at w;intro Y T g m v p;let j:=λb o h=>g.kp b o h λ#[i,c,q,_]=>by simp at q
  cases x with
  |fz d=>show w v T j (DV.ev (Ev.sub λb z=>.inl z) p)
  |tp l=>
   dsimp only at w;cases qs:aF (Sk Z) l with
   |none=>rw[qs]at w;show w.elim
   |some es=>rw[qs]at w;let(a,xs,rfl,A,C):=p;show w (.ref a) T j (.tup (A.ev (Ev.sub λb z=>.inl z)) (jq (cg (R:=AOk (ow B Y Z) K T Y) (λv x y r e=>Ry m r e) C qs)))
  |rf i=>
   dsimp only at w;cases qs:sh Z (.rf i)with
   |none=>rw[qs]at w;show w.elim
   |some d=>
    rw[qs]at w;cases d with
    |list es=>let(a,t,ha,M,J,G):=gB m qs;let(xs,u,_):=on qs;let(P,f,rfl):=p;rw[ha]at f;ext f;show w a t T j ((g.lv a #[i,_,ha,u,by intro z;ext z]).elim (λ#[i,c,q,_]=>by simp at q) id) M (J.ev (Ev.sub λb z=>z.elim (λz=>.inl z) λz=>by rw[z];show G))
    |_=>show w.elim
end
end L10
namespace L10
open PySem PyProof.Rows L2 L3
section
variable{B O C:bF}{K:lD}{E:XK}{H A u t:Hp}{r Q N L:bb Uz}{T J Y Z:aL}{q:L2.St}{X:aV}{v:V}
def sS{c fb:cR}{y z:SV}{i:Nat}{n:Int}{xs:G SV}(f:c X T=.ok (.rf i) Y)(d:fb X Y=.ok y Z)(e:Ba y=M n)(a:Z[i]?=M (.lst xs))(b:jV xs n=M z):eO c fb X T=.ok z Z:=by ext eO;rw[f,ej,d,ej];ext Jo;simp only[a,e];show RS.VD Z (jV xs n)=_;rw[b];rfl
end
end L10
namespace L10
open PySem PyProof.Rows L2 L3
section
variable{O Z:bF}{K:lD}{H X:Hp}{a b:Uz}{T:bb V}{Y:Heap->Prop}
def Sc(a:I)(O:bF)(H:Hp)(Z:bF)(X:Hp):Prop:=∀b o,b≠a->H b=M o->¬O b->X b=M o/\¬Z b
def ZM.evx(g:H a=M (.ext Y))(h:ZM O K H b T)(e:Sc a O H Z X):ZM Z K X b T:=by
 let(h,k):=h;by_cases z:O b
 .show#[XS.same (jN X) (k z),λ_=>k z]
 .rcases h with(h|⟨o,h⟩)|h
  .let(f,d):=e b _ (λy=>by rw[y,g]at h;ext h) h z;show#[.inl (.inl f),λy=>a7 y d]
  .let(f,d):=e b _ (λy=>by rw[y,g]at h;ext h) h z;show#[.inl (.inr #[o,f]),λy=>a7 y d]
  .show#[.inr h,λ_=>.inr h]
def YE.evx(g:H a=M (.ext Y))(h:YE O K H b T)(e:Sc a O H Z X):YE Z K X b T:=by
 let(h,k):=h;by_cases z:O b
 .show#[(jN X).tup (k z),λ_=>k z]
 .rcases h with(h|⟨o,h⟩)|h
  .let(f,d):=e b _ (λy=>by rw[y,g]at h;ext h) h z;show#[.inl (.inl f),λy=>a7 y d]
  .let(f,d):=e b _ (λy=>by rw[y,g]at h;ext h) h z;show#[.inl (.inr #[o,f]),λy=>a7 y d]
  .show#[.inr h,λ_=>.inr h]
mutual
theorem DV.evx(f:H a=cL (.ext Y))(e:Sc a O H Z X):∀{v:V} {d:D},L3.DV O K H v d->L3.DV Z K X v d
 |_,_,.WL=>.WL
 |_,_,.bl b=>.bl b
 |_,_,.int i=>.int i
 |_,_,.str x=>.str x
 |_,_,.tup h hs=>.tup (YE.evx f h e) (Wb.evx f e hs)
 |_,_,.lst h hs=>.lst (ZM.evx f h e) (Wb.evx f e hs)
theorem Wb.evx(d:H a=cL (.ext Y))(e:Sc a O H Z X):∀{vs:bb V} {ds:bb D},L3.Wb O K H vs ds->L3.Wb Z K X vs ds
 |_,_,.nil=>.nil
 |_,_,.cons h hs=>.cons (DV.evx d e h) (Wb.evx d e hs)
end
end
end L10
namespace L10
open PySem PyProof.Rows L2 L3
section
variable{B O C:bF}{K:lD}{E:XK}{H A y u:Hp}{Z X T Q:bb Uz}{Y N L J:aL}{t:L2.St}{ρ:aV}{v:V}
def Vc.aev(s:Vc (bK B p) K H Z Y)(l:c≠.dead)(g:H p≠P)(f:COk (ow (bK B p) Z Y) K H Z p c)(m:¬B p):Vc B K H (Z++[p]) (Y++[c]):=by
 let eo:ow (bK B p) Z Y=ow B (Z++[p]) (Y++[c]):=v5 s.len l;let hn:=s.ba p (.inr W);let ev:Ev (ow (bK B p) Z Y) H (ow B (Z++[p]) (Y++[c])) H:=by rw[eo];show λb o h n=>#[h,n]
 show#[by rw[UE,UE,s.len];rfl,λi j a d e=>?_,λa h=>s.bn a (.inl h),λa h i z=>?_,λi a h=>?_,λi a r d e=>?_]
 .rcases aY d with g1|⟨e1,e2⟩<;>rcases aY e with g2|⟨e3,e4⟩
  .show s.nd i j a g1 g2
  .rw[e4]at g1;show a7 g1 (hn i)
  .rw[e2]at g2;show a7 g2 (hn j)
  .omega
 .rcases aY z with z|⟨_,rfl⟩
  .show s.ba a (.inl h) i z
  .show m h
 .rcases aY h with h|⟨_,rfl⟩
  .show s.al i a h
  .show g
 .rcases aY e with e|⟨e2,rfl⟩
  .rcases aY d with d|⟨e1,rfl⟩
   .show(s.cel i a r d e).ev ev (λ_ _ h=>dP h) λ_ q=>q
   .let:=(Uw.mp e).1;rw[<-s.len]at this;ext
  .rcases aY d with d|⟨e1,rfl⟩
   .let:=(Uw.mp d).1;rw[s.len]at this;ext
   .show f.ev ev (λ_ _ h=>dP h) λ_ q=>q
end
end L10
namespace L3
open PySem L2
structure NI(K:lD)(f:I)(n:Str)(t:Wk):Prop where
 a:U8 K UY n=M (M (.ref f))
 F:∃fd,ZL K n n t f fd
structure MI(K:lD)(C f:I)(m q:Str)(t:Wk):Prop where
 a:Vt K (.ref C) m=M (M (.ref f))
 i:WH K (.ref f)=S
 F:∃fd,ZL K m q t f fd
structure CI(K:lD)(C:I)(n:Str)(fs:G Str):Prop where
 a:U8 K UY n=M (M (.ref C))
 pg:Xr K C Str.empty=S
 hd:X2 K C=S
 po:Ze K C=S
 sa:Vt K (.ref C) "__setattr__"=M (M (.builtin "object.__setattr__"))
 mm:ZF K C=S
 kc:Wa K (.ref C)=S
 fl:∀x∈fs,X8 K C x
def BA(n q:Str)(t:Wk)(c:G Str):Prop:=∀(kV b d:U) (e:z I) (f ct:U) (a:G U),a.length=c.length->bindArgs (V3 n q (eC t) (bO t) (az t) .none kV b d e f ct) #[a,[]]=pure (c.zip a)
section
variable{P:UZ}{w:Vf}{K:lD}{Y:Str->bg Ut}{base h:Heap}{f C:Uz}{n m q:Str}{t:Wk}{Q fs:bb Str}{Z k:Nat}{T N:Sp}
theorem CI.cls(c:CI K C n fs):Cls K C:=#[c.pg,c.hd,c.po,c.sa]
theorem CI.cf(c:CI K C n fs):L10.jX K n fs:=#[C,c.a,c.cls,c.fl]
theorem NI.cal(i:NI K f n t)(X:K.In h)(G:h.Ns UY Y)(b:BA n n t Q)(ok:∀fd,ZL K n n t f fd->FnOk P w K Y base jY Z f fd Q T):wb P w K Y base Z n Q T:=
 let#[fd,z]:=i.F;#[f,fd,ok fd z,z.binds b,z.kp,Wx X G i.a]
def NI.law(i:NI K f "law" t)(X:K.In h)(G:h.Ns UY Y)(b:Y "law"=M (.ref fa))(o:BA "law" "law" t [x])(ok:∀base fd,ZL K "law" "law" t f fd->FnOk P w K Y base jY Z f fd [x] T):∃fd:VG,(∀(s:UC) (v:U),YZ s fd #[[v],[]] [(x,v)])/\∀base:Heap,K.In base->base.Ns UY Y->FnOk P w K Y base jY Z fa fd [x] T:=by let e:=b.symm.trans (Wx X G i.a);ext e;let(fd,z):=i.F;let(y,u,kV,d,g,p,r,ct,j,rfl,A,l):=z.ex;show#[_,λs v=>.of_eq (o kV d g p r ct [v] W),λbase _ _=>ok base _ z]
def ze(a:Wr k A):A.units+65<cLine:=by let:=a.un;ext
theorem Ib{W:I}{a:Array U}{g:Nat}{e:Array (z U)}{xs:G V}{ds:G D}(l:K.lookup W=M #[.type "tuple",Ld,.seq a g,e])(d:a.size<=UK)(b:Vals xs a.toList)(hd:∀O H,Wb O K H xs ds):∀O H,DV O K H (.ref W) (.tuple ds):=λO H=>
 .tup (xs:=xs) #[.inr #[_,_,_,l,#[rfl,rfl],rfl,d,b],λ_=>.inr #[_,_,_,l,#[rfl,rfl],rfl,d,b]] (hd O H)
end
end L3
namespace L10R
open PySem PySem.Calls PyProof.Rows
def Mf:typeLookup (.type "list_reverseiterator") "__len__"=pure P:=by rw[Zb,XN];kernel_rfl
def AF:typeLookup (.type "list_reverseiterator") "__length_hint__"=pure (M (.builtin "list_reverseiterator.__length_hint__")):=by rw[Zb,XN];kernel_rfl
section
variable{Y:UZ}{w:Vf}{A:Vb}{E:Ut->UC->Prop}{s:UC}{r l:Uz}{items:Array Ut}
def Cj{Q:Bool->UC->Prop}(d:s.TypeIs (.ref r) "list_reverseiterator")(h:Q R s):wpAny (model Y w) A (Builtin.List.listLengthHint (.ref r)) Q E s:=by
 ext Builtin.List.listLengthHint;show CL (Za d Mf ?_);dsimp only;show Xq (λa=>a7 a ()) (λ_=>?_);show Xq (λa=>a7 a ()) (λ_=>?_);show CL (Za d AF ?_);generalize e:("list_reverseiterator.__length_hint__":String)=f
 wp_delta
 rw[show splitId f=M ("list_reverseiterator","__length_hint__")from by subst e;left];subst e;show CL (YT (T:= "list_reverseiterator") (b:=S) d (by rw[ahD];kernel_rfl) ?_);show Xq (λa=>a7 a ()) (λ_=>?_);show Xq (λ_=>?_) (λa=>a7 (by left) a);show Xq (λa=>a7 a (by left)) (λ_=>?_);show UD h
def yk{R:Zr->UC->Prop}(B:A.handled=P)(L:l≠r)(z:s.heap.IsList l items)(h:s.heap.IsRevIter r l ((items.size:Int) - 1))(S:Uz)(g:S≠r)(q:S≠l)(res:U)(a:Nat)(G:s.heap.get? S=M {cls:=.type "list",data:=.seq #v[] a})
  (H:∀D F x k,(∀b o,b≠S->b≠r->s.heap.get? b=M o->D.get? b=M o)->D.get? S=M {cls:=.type "list",dict:=P,data:=.seq x k,slots:= #v[]}->YU (λi v=>items[items.size - 1 - i]?=M v) x items.size->R (.ok (.ret res)) {s with heap:=D,toks:=F}) (N:items.size<=UK):
  wpAny (model Y w) A.in1 (Builtin.List.listExtendWith (.ref S) (.ref r) res)
   (λfin c=>match fin with|.done f=>R (.ok f) c|.again k=>k.quiet=Uv/\codeAny (model Y w) A k R c) (λe c=>R (.error e) c) s:=by
 let p:S∉[r,l]:=by simp only[U5,V0,or_false,not_or];show#[g,q]
 let W:=aeK.listRev (prog:=Y) (w:=w) (A:=A.in1) B r l L items;let y:0<=items.size/\s.heap.IsRevIter r l ((items.size:Int) - 1 - ((0:Nat):Int))/\s.heap.IsList l items:=#[Vq _,by rw[show(items.size:Int) - 1 - ((0:Nat):Int)=(items.size:Int) - 1 by ext];show h,z];let j:codeAny (model Y w) A (.builtin "list.extend.loop" #[[.ref S,.ref r,res],[]]) R s:=by
  show codeAny_extend_loopS W.toS N S p res items.size 0 _ #v[] a rfl (Vq _) y G (YU.nil _) λc x k hm t u=>?_;rw[Moved.eq_with hm];show H c.heap c.toks x k (λb o C m e=>hm.heap b o (λd=>?_) e) t u;rcases U5.mp d with Q|d
  .show C Q
  .show m (US.mp d)
 ext Builtin.List.listExtendWith;show CL (Xb (T:= "list_reverseiterator") h.typeIs ?_);let K:Builtin.List.listSameRef (.ref S) (.ref r)=Ux:=by simp[Builtin.List.listSameRef,g]
 let J:(Ut.type "list_reverseiterator"==Ut.type "list")=Ux:=by left
 let I:(Ut.type "list_reverseiterator"==Ut.type "tuple")=Ux:=by left
 simp only[K,J,I,aaC,WM,if_false];show CL (wpAny_pyIter_revIter h ?_);show CL (VW (Cj h.typeIs ?_));show Xq (λn=>a7 n (by left)) (λ_=>UD #[W2 PySem.F.plain_extend_loop _,j])
def Gk{R:Zr->UC->Prop}(z:A.handled=P)(C:l≠r)(u:s.heap.IsList l items)(t:s.heap.IsRevIter r l ((items.size:Int) - 1))(S:I)(d:S≠r)(g:S≠l)(n:s.heap.get? S=M {cls:=.type "list",data:=.seq #v[]})
  (B:∀k F D c,(∀b o,b≠S->b≠r->s.heap.get? b=M o->k.get? b=M o)->k.get? S=M {cls:=.type "list",dict:=P,data:=.seq D c,slots:= #v[]}->YU (λi v=>items[items.size - 1 - i]?=M v) D items.size->R (.ok (.ret .none)) {s with heap:=k,toks:=F}) (J:items.size<=UK):
  wpAny (model Y w) A.in1 (Builtin.«list.__init__» #[[.ref S,.ref r],[]])
   (λfin x=>match fin with|.done f=>R (.ok f) x|.again c=>c.quiet=Uv/\codeAny (model Y w) A c R x) (λe x=>R (.error e) x) s:=by
 show wpAny _ _ (do let old<-Builtin.List.listItems (.ref S);Builtin.List.listUpdate (.ref S) (λ_=> #v[]);letGo old.toList.reverse;Builtin.List.listExtendWith (.ref S) (.ref r) .none) _ _ s;show CL ?_;ext Builtin.List.listItems;show CL (VX n W (UD ?_));show wpAny _ _ (updateSeq S (λ_=> #v[])>>=λ_=>letGo (#v[]:Array U).toList.reverse>>=λ_=>Builtin.List.listExtendWith (.ref S) (.ref r) .none) _ _ s;show CL (Zc n W ?_);let a:=cn (Obj.mapSeq (λ_=>(#v[]:Array U))) n W
 let q:∀b o,b≠S->s.heap.get? b=M o->(s.heap.update S (Obj.mapSeq (λ_=>(#v[]:Array U)))).get? b=M o:=
  λb o h e=>(ck _ _ (dN h)).trans e
 show CL (W9 ?_);show yk z C (u.at λo e=>q l o g.symm e) (t.at λo e=>q r o d.symm e) S d g .none _ a (λk F D c y m p=>?_) J;show B k F D c (λb o h j e=>y b o h j (q b o h e)) m p
def acD{Q:U->UC->Prop}(t:A.handled=P)(z:l≠r)(j:s.heap.IsList l items)(h:s.heap.IsRevIter r l ((items.size:Int) - 1))(C:items.size<=UK)
  (y:∀c x k B,(∀b o,b≠r->s.heap.get? b=M o->c.get? b=M o)->c.get? s.heap.objs.size=M {cls:=.type "list",dict:=P,data:=.seq k B,slots:= #v[]}->YU (λi v=>items[items.size - 1 - i]?=M v) k items.size->Q (.ref s.heap.objs.size) {s with heap:=c,toks:=x}):
  wpAny (model Y w) A (call (.type "list") [.ref r]) Q E s:=by
 show ahE (Q₁:=λobj a=>obj=.ref s.heap.objs.size/\a={s with heap:=s.heap.push {cls:=.type "list",data:=.seq #v[]}}) PySem.F.called_list (PySem.F.typeCall_list_1 _) PySem.F.entry_list_init
  (code_list_new _ #[W,W]) λobj a d=>?_
 let(rfl,rfl):=d;let m:(s.heap.push {cls:=.type "list",data:=.seq #v[]}).get? s.heap.objs.size=M {cls:=.type "list",data:=.seq #v[]}:=cc _ W;let n:r<s.heap.objs.size:=by let(o,e,_):=h;show b4 e
 let p:l<s.heap.objs.size:=by let(o,e,_):=j;show b4 e
 show#[#[_,m,W],PySem.F.args_list_init_2 _ _,Gk (A:=A.in1) t z (j.at λo e=>b3 _ e) (h.at λo e=>b3 _ e) _ (VI n) (VI p) m (λc x k B q f g=>?_) C];show#[W,y c x k B (λb o u e=>q b o (U3 (b4 e)) u (b3 _ e)) f g]
end
end L10R
namespace L2
open PySem PySem.Spec PyProof.Rows
section
variable{X:Cx}{e:U4}{Z:TE}{p q p1 Y:Pos}
def u7(K:lD)(Z:TE):TE:=λd H Q=>Z d H λx b=>∃a xs,x=.ref a/\Yr K b a xs/\∀l,b l=P->Q (.ref l) (aX b l (.lst xs.reverse))
def xA:VF "reversed"=M (.type "reversed"):=by rfl
def AA{xs:G V}{us:G U}(h:Vals xs us):Vals xs.reverse us.reverse:=by
 induction h with
 |nil=>show .nil
 |cons h _ a=>rw[Wg,Wg];show a.append (.cons h .nil)
def A9{items acc:Array U}(h:YU (λi v=>items[items.size - 1 - i]?=M v) acc items.size):acc.toList=items.toList.reverse:=by
 apply List.ext_getElem?;intro j;by_cases a:j<items.size
 .let b:j<acc.size:=by rw[h.1];show a
  let e:=h.2 j _ (aaj b);rw[Xv,aaj b,List.getElem?_reverse (by rw[Vv];show a),Vv,Xv];show e.symm
 .rw[abh (by rw[Vv,h.1];ext),abh (by rw[WC,Vv];ext)]
def Df{a:G (Uz×Obj)}{i:St}{H:Hp}{s:UC}{e:Uz}{o:HO}(I:Inv X a i H s)(f:lA X a H e)(v:X.s₀.heap.get? e=P)(new:ObjOk X.prog X.w (aX H e o) s.heap e o):Inv X a i (aX H e o) s:=by
 let(ne,m,_,_,t,h):=f;let l:∀b o,X.s₀.heap.get? b=M o->b≠e:=λb o z y=>by rw[y,v]at z;ext z
 let d:∀b o,H b=M o->b≠e:=λb o z y=>by rw[y,ne]at z;ext z
 let B:=I.base;show#[I.ok,I.os,I.bare,#[B.keep,B.slot,λb o z n x=>?_,B.there,λb xs z=>?_,λb o u z=>?_,λb A z=>?_],I.loc,I.cell,?_,λx c z=>?_,λp j=>?_,λb u z=>?_,I.len]
 .rw[ay (l b o z)];show B.free b o z n x
 .let:=B.Z1 b xs z;rw[ay (d b _ this)];show this
 .let:=B.ZK b o u z;rw[ay (d b _ this)];show this
 .let(g,y):=B.ZY b A z;show#[g,by rw[ay (d b _ y)];show y]
 .rw[ay m.symm];show I.free
 .rw[ay (t x c z)];show I.XH x c z
 .let(z,n,r):=I.pin p j;show#[z,by rw[ay (h p j)];show n,r]
 .by_cases y:b=e
  .subst y;rw[aC]at z;ext z;show new
  .rw[ay y]at z;show(I.VQ b u z).YF (λ_ _ _ y=>y) (λc y=>by rw[ay (d c _ y)];show y) λc xs y=>by rw[ay (d c _ y)];show y
def wX(U:X.calm=Uv)(B:Gl X "list")(y:X.mg "list"=Ld)(A:Gl X "reversed")(w:X.mg "reversed"=Ld)(T:PE X e Z)
  (J:UW [.Call (.Name "reversed" q) [e] [] Y] X.env=[(Ux,eval (.Call (.Name "reversed" q) [e] [] Y) X.env)]:=by rfl) (G:UW [e] X.env=[(Ux,eval e X.env)]:=by rfl):
  PE X (.Call (.Name "list" p) [.Call (.Name "reversed" q) [e] [] Y] [] p1) (u7 X.K Z):=by
 intro f s t H Q I h;show Ww (kI I B y yu ?_);show Wd ?_ J W;rw[J];show wpAny _ _ (spliced ((Ux,eval (.Call (.Name "reversed" q) [e] [] Y) X.env)::[])) _ _ s;show Calls.spliced_cons ?_;show Ww (kI I A w xA ?_);show Wd ?_ G W;rw[G];show wpAny _ _ (spliced ((Ux,eval e X.env)::[])) _ _ s;show Calls.spliced_cons (bT (T f s t H _ I h) λu d a=>?_);let(x,n,j,Mz0,a,xs,ex,R1,N):=a;show Calls.spliced_nil ?_;subst ex;obtain rfl:u=Ut.ref a:=Mz0;let(g,rv,pl,F):=j.list R1;let v:=pl.isList;show call_reversed_list v (Calls.spliced_nil ?_);let P:a<d.heap.objs.size:=by let(o,e,_):=v;show b4 e
 let m:Inv X f t n {d with heap:=d.heap.push (revObj a ((g.toArray.size:Int) - 1))}:=j.kept (t':=d.toks) λb o e=>b3 _ e;let i:g.toArray.size<=UK:=by rw[UN,<-rv.length];show F
 show L10R.acD (r:=d.heap.objs.size) (l:=a) (items:=g.toArray) (j.ok.hd U) (U3 P) (v.at λo e=>b3 _ e) #[_,cc _ W,W,W] i λh' E C c S hL hi=>?_;let(f0,f1,L,f3,f4,f5):=j.aaS (UG d.heap.objs.size) (j.VQ.fresh (UG _));let I3:Inv X f t n {d with heap:=h',toks:=E}:=Inv.turned (s:={d with heap:=d.heap.push (revObj a ((g.toArray.size:Int) - 1))}) (t':=E) (it:=d.heap.objs.size) m (λb o hb e=>S b o hb e) f0 f1 f3 f4 f5;let ea:=A9 hi;let hn:n (d.heap.push (revObj a ((g.toArray.size:Int) - 1))).objs.size=Ld:=m.VQ.fresh (UG _);show#[.ref (d.heap.push (revObj a ((g.toArray.size:Int) - 1))).objs.size,_,?_,W,N _ hn];let L:=m.aaS (H':=n) (UG (d.heap.push (revObj a ((g.toArray.size:Int) - 1))).objs.size) hn;let O:X.s₀.heap.get? (d.heap.push (revObj a ((g.toArray.size:Int) - 1))).objs.size=Ld:=by
  cases z:X.s₀.heap.get? (d.heap.push (revObj a ((g.toArray.size:Int) - 1))).objs.size with
  |none=>rfl
  |some o=>show a7 (U1 (b4 z) m.sz) (VT _)
 show Df I3 L O #[by rw[WC];show F,C.toList,c,by rw[ea];show AA rv,by rw[abg];show hL]
end
end L2
namespace L10
open PySem PySem.Spec PyProof.Rows L2 L3
section
variable{B O O':bF}{K:lD}{E:XK}{H H' X H2:Hp}{J A Y α2:bb Uz}{L ω' T Z:aL}{C:L2.St}{N:aV}{v:V}
def wj(a:cR):cR:=λN L=>(a N L).bind λx T=>(RS.VD T (gH T x)).bind λp Z=>.ok (.rf Z.length) (Z++[.lst p.2.reverse])
def Oi{a:Type}{R:V->a->Prop}{c:G V}{xs:G a}(h:Paired R c xs):Paired R c.reverse xs.reverse:=by
 induction h with
 |nil=>show .nil
 |cons h t b=>rw[Wg,Wg];show tH b h
def Dp{h:TE}{c:cR}(o:ce K E h c):ce K E (u7 K h) (wj c):=by intro B C H J L N Q s m w;show o B C H J L N _ s m (w.bind.imp λx Y T X e1 b f u n=>?_);let((i,xs),q,f):=WS.VD f;let(t,a,y,ha,rfl,r,p):=sQ b n q;show#[a,y,W,Yr.of r,λl g=>?_];let j:Wj X (aX X l (.lst y.reverse)):=bz g _;let e:Wm Y T X (Y++[l]) (T++[.lst xs.reverse]) (aX X l (.lst y.reverse)):=Wm.aag b.len j g;show f _ _ e (b.aag j g (by rw[aC];simp) #[_,aC,Paired.X9 (Oi p) λ_ _ d=>d.WQ e]) _ #[l,by rw[<-b.len];show aJ,W]
def HZ{i:Nat}{b:cR}{xs:G SV}(h:b N L=.ok (.rf i) T)(a:T[i]?=M (.lst xs)):wj b N L=.ok (.rf T.length) (T++[.lst xs.reverse]):=by
 let e1:gH T (.rf i)=M (i,xs):=by ext gH;dsimp only;rw[a]
 ext wj;rw[h,ej,e1];rfl
def Mw{i:Nat}{f:D->D->bg RV}{c:cR}{x y:SV}{z:SV}{ω3:aL}(a:N[i]?=M (M x))(d:c N L=.ok y T)(b:mF f x y T=.ok z Z):BO i f c N L=.ok (.nx (N.set i (M z))) Z:=by ext BO;rw[a9 a,ej,d,ej,b,ej]
end
end L10
namespace LD
open PySem PyProof.Rows L2 L3
def nK(xs:G (KD×I×V))(k:KD):z V:=(xs.find? λx=>decide (x.1=k)).map (·.2.2)
def kF(xs:G (KD×I×V))(k:KD)(b:I)(v:V):G (KD×I×V):=
 if(xs.find? λx=>decide (x.1=k)).isSome=S then xs.map (λx=>if x.1=k then(x.1,x.2.1,v)else x)else xs++[(k,b,v)]
abbrev RX:G (KD×I×V)->G (KD×I×U)->Prop:=Paired λx y=>x.1=y.1/\x.2.1=y.2.1/\RelV x.2.2 y.2.2
def zY:∀{xs:G (KD×I×V)} {a:G (KD×I×U)},RX xs a->xs.map (·.1)=a.map (·.1):=by
 intro _ _ b
 induction b with
 |nil=>show W
 | @cons _ _ _ _ h t d=>rw[UU,UU,h.1,d]
def xG:∀{xs:G (KD×I×V)} {a:G (KD×I×U)},RX xs a->Yi (nK xs k) ((atKey a k).map (·.2)):=by
 intro _ _ b
 induction b with
 |nil=>unfold nK atKey;show trivial
 | @cons x y xs a h t d=>
  unfold nK atKey;rw[Vl,Vl,h.1];by_cases e:y.1=k
  .rw[a4 e];show h.2.2
  .rw[a5 e];show d
def JO:∀{xs:G (KD×I×V)} {a:G (KD×I×U)},RX xs a->(xs.find? λx=>decide (x.1=k)).isSome=(atKey a k).isSome:=by
 intro _ _ b
 induction b with
 |nil=>show W
 | @cons x y xs a h t d=>
  ext atKey;rw[Vl,Vl,h.1];by_cases e:y.1=k
  .rw[a4 e];rfl
  .rw[a5 e];show d
def OJ(r:RelV v u):∀{xs:G (KD×I×V)} {a:G (KD×I×U)},RX xs a->RX (xs.map λx=>if x.1=k then(x.1,x.2.1,v)else x) (a.map (putAt k u)):=by
 intro _ _ b
 induction b with
 |nil=>show .nil
 | @cons x y xs a h t d=>
  rw[UU,UU];show .cons ?_ (d);ext putAt;by_cases e:y.1=k
  .rw[ax (h.1.trans e),ax e];show#[h.1,h.2.1,r]
  .rw[aE (by rw[h.1];show e),aE e];show h
def Ja(h:x.1=y.1/\x.2.1=y.2.1/\RelV x.2.2 y.2.2):∀{xs:G (KD×I×V)} {a:G (KD×I×U)},RX xs a->RX (xs++[x]) (a++[y]):=by
 intro _ _ b
 induction b with
 |nil=>show .cons h .nil
 | @cons _ _ _ _ g t d=>show .cons g (d)
def B3(r:RelV v u)(h:RX xs ys):RX (kF xs k b v) (storedH ys k b u):=by
 unfold kF storedH;rw[JO h];split
 .show OJ r h
 .show Ja #[W,W,r] h
def na(xs:G (KD×I×V))(k:KD)(b:I)(v:V):(kF xs k b v).length<=xs.length+1:=by
 ext kF;split
 .rw[Uy];ext
 .rw[UE];show UG _
def uw(K:lD)(H:Hp)(xs:G (KD×I×V)):Prop:=∀x∈xs,L2.DV K H (.ref x.2.1) x.1.1
section
variable{X:Cx}{Z:bb (Uz×Obj)}{Y:L2.St}{H:Hp}{s:UC}{a b:Uz}{T:bb (KD×Uz×V)}{k:KD}{v:V}{u r:Ut}{A:Vb}{E:Ut->UC->Prop}
def QB:∀{T:G (KD×I×V)} {es:G Xt},Paired (λ(x:KD×I×V) (e:Xt)=>e.hash=ph w x.1.1/\e.key=.ref x.2.1/\RelV x.2.2 e.val) T es->∃ys,RX T ys/\es=ys.map (entryOfKey (fP n w)):=by
 intro _ _ g
 induction g with
 |nil=>show#[[],.nil,W]
 | @cons x e _ _ o t p=>let(f,d,h):=o;let(ys,j,i):=p;show#[(x.1,x.2.1,e.val)::ys,.cons #[W,W,h] j,?_];rw[UU,<-i];let(m,l,ev):=e;dsimp only at f d;subst f d;rfl
def Q7:∀{T:G (KD×I×V)} {d:G (KD×I×U)},RX T d->Paired (λ(x:KD×I×V) (e:Xt)=>e.hash=ph w x.1.1/\e.key=.ref x.2.1/\RelV x.2.2 e.val) T (d.map (entryOfKey (fP g w))):=by
 intro _ _ f
 induction f with
 |nil=>show .nil
 | @cons _ _ _ _ h t i=>show .cons #[by rw[h.1];rfl,by rw[h.2.1];rfl,h.2.2] (i)
theorem mq(I:L2.Inv X Z Y H s)(h:L2.DV X.K H (.ref b) k.1):(fP X.prog X.w).is s.heap k b:=L2.DV.reads I h W
def wq(I:L2.Inv X Z Y H s)(e:H a=M (DkO a T))(i:uw X.K H T):T.length<=UK/\(a==Wv)=R/\∃ys,RX T ys/\s.heap.DictOfH (fP X.prog X.w) a ys:=by
 let(((z,j,nd),o,es,J,F,C,B,n),_):=(show ObjOk X.prog X.w H s.heap a (DkO a T)from I.VQ a _ e);let(ys,f,G):=QB n;show#[z,j,ys,f,o,es,J,F,C,B,G,?_,by rw[<-zY f];show nd];let all:∀{l:bb (KD×Uz×V)} {m:bb (KD×Uz×U)},RX l m->(∀x∈l,L2.DV X.K H (.ref x.2.1) x.1.1)->∀y∈m,(fP X.prog X.w).is s.heap y.1 y.2.1:=by
  intro l m q
  induction q with
  |nil=>intro _ y d;show nomatch d
  | @cons p q ps Q L t N=>
   intro g y d;rcases U5.mp d with e|d
   .subst e;let:=mq I (g p (UP ..));rw[L.1,L.2.1]at this;show this
   .show N (λx h=>g x (UM _ h)) y d
 show all f i
def tD(z:T.length<=UK)(hd:(a==Wv)=R)(d:RX T ys)(dd:C.DictOfH (fP t w) a ys):ObjOk t w H' C a (DkO a T):=by let(o,es,e,f,l,j,i,m,h):=dd;show#[#[#[z,hd,by rw[zY d];show h],o,es,e,f,l,j,by rw[i];show Q7 d],#[o,f],?_];rintro p n ⟨q,o,es,e,e1,e2⟩ g;show#[q,o,es,e,g o e1,e2]
def oz(d:A.units+64<cLine):(fP X.prog X.w).room A.in1:=by show A.in1.units+8<cLine;rw[Vb.in1_units];ext
def MN(l:A.units+64<cLine)(I:L2.Inv X Z Y H s)(e:H a=M (DkO a T))(n:uw X.K H T)(o:L2.DV X.K H (.ref b) k.1)(g:nK T k=M v)(h:∀c x,L2.Inv X Z Y H x->RelV v c->Q c x):
  wpAny (model X.prog X.w) A (getItem (.ref a) (.ref b)) Q E s:=by
 let(z,t,q,f,dd):=wq I e n;let(c,j,d):=Yi.some_of (by rw[<-g];show xG f);let(p,m,i):=Yq.mp j;show ad6 (oz l) (mq I o) dd m ?_;rw[i];show h c _ (I.tok _) d
def RK(f:A.units+64<cLine)(I:L2.Inv X Z Y H s)(e:H a=M (DkO a T))(g:uw X.K H T)(j:L2.DV X.K H (.ref b) k.1)(h:∀c,L2.Inv X Z Y H c->Q (.bool (nK T k).isSome) c):
  wpAny (model X.prog X.w) A (We .In (.ref b) (.ref a)) Q E s:=by
 let(z,i,l,d,dd):=wq I e g;show ajx (oz f) (mq I j) i dd ?_;let q:=(xG (k:=k) d).Yh;rw[X7]at q;rw[<-q];show h _ (I.tok _)
def M3(f:A.units+64<cLine)(I:L2.Inv X Z Y H s)(e:H a=M (DkO a T))(g:uw X.K H T)(j:L2.DV X.K H (.ref b) k.1)(h:∀c,L2.Inv X Z Y H c->Q (.bool (!(nK T k).isSome)) c):
  wpAny (model X.prog X.w) A (We .NotIn (.ref b) (.ref a)) Q E s:=by
 let(z,i,l,d,dd):=wq I e g;show wpAny_notIn_heap (oz f) (mq I j) i dd ?_;let q:=(xG (k:=k) d).Yh;rw[X7]at q;rw[<-q];show h _ (I.tok _)
def N6(l:A.units+64<cLine)(I:L2.Inv X Z Y H s)(e:H a=M (DkO a T))(n:uw X.K H T)(t:L2.DV X.K H (.ref b) k.1)(x:RelV v r)(B:T.length<UK)(h:∀c,L2.Inv X Z Y (aX H a (DkO a (kF T k b v))) c->Q ⟨⟩ c):
  wpAny (model X.prog X.w) A (setItem (.ref a) (.ref b) r) Q E s:=by
 let(z,p,i,d,dd):=wq I e n;let j:i.length<=UK:=by rw[<-Paired.length d];show z
 let g:(kF T k b v).length<=UK:=by let:=na T k b v;ext
 show ad7 (hsz:=j) (oz l) (mq I t) dd λy f m=>h _ ?_;let o:∃q,y.get? a=M q:=let#[q,_,_,C,_]:=f;#[q,C]
 show lz I (by rw[e];show True.intro) m o (tD g p (B3 x d) f)
def JF(I:L2.Inv X Z Y H s)(e:H a=M (DkO a T)):s.TypeIs (.ref a) "dict"/\(∀b,Ut.ref a=.ref b->∃c,s.heap.get? b=M c/\c.dict=P)/\(a==Wv)=R:=by let(((z,g,nd),o,es,j,f,d,i,h),_):=(show ObjOk X.prog X.w H s.heap a (DkO a T)from I.VQ a _ e);show#[#[o,f,d.1],λb q=>?_,g];ext q;show#[o,f,d.2.1]
end
section
variable(K:lD)
def Fe(neg:Bool)(ty f:TE):TE:=λe H Q=>ty e H λy g=>f e g λx d=>∃a b xs k,x=.ref a/\y=.ref b/\d a=M (DkO a xs)/\uw K d xs/\L2.DV K d (.ref b) k.1/\Q (.bl ((nK xs k).isSome !=neg)) d
def D5(f ty:TE):TE:=λe H Q=>f e H λx g=>ty e g λy d=>∃a b xs k v,x=.ref a/\y=.ref b/\d a=M (DkO a xs)/\uw K d xs/\L2.DV K d (.ref b) k.1/\nK xs k=M v/\Q v d
def Ea(g ty f:TE):TS:=λD d H=>f d H λv i=>g d i λx h=>ty d h λy e=>∃a b xs k,x=.ref a/\y=.ref b/\e a=M (DkO a xs)/\uw K e xs/\L2.DV K e (.ref b) k.1/\xs.length<UK/\D.nx d (aX e a (DkO a (kF xs k b v)))
def F5:TE:=λ_ H Q=>∀p,H p=P->Q (.ref p) (aX H p (DkO p []))
end
section
variable{X:Cx}{o i e f Z:U4}{U Y tx tv:TE}{pos T apos Xh:Pos}
def pc_ddin(t:X.A.units+64<cLine)(c:PE X i Y)(v:PE X o U):PC X .In i o (Fe X.K R Y U):=by intro d s g H Q I h;show bT (c d s g H _ I h) λM l #[y,G,E,m,p]=>bT (v d l g G _ E p) λu L a=>?_;let(x,F,C,n,a,b,xs,k,z,w,e,q,r,j):=a;subst z w;obtain rfl:=n;obtain rfl:=m;rw[adO]at j;show RK t C e q r λJ B=>#[.bl _,F,B,W,j]
def pc_ddnin(t:X.A.units+64<cLine)(c:PE X i Y)(v:PE X o U):PC X .NotIn i o (Fe X.K S Y U):=by intro d s g H Q I h;show bT (c d s g H _ I h) λM l #[y,G,E,m,p]=>bT (v d l g G _ E p) λu L a=>?_;let(x,F,C,n,a,b,xs,k,z,w,e,q,r,j):=a;subst z w;obtain rfl:=n;obtain rfl:=m;rw[Bool.bne_true]at j;show M3 t C e q r λJ B=>#[.bl _,F,B,W,j]
def pe_ddget(B:X.A.units+64<cLine)(E:PE X o U)(c:PE X i Y)(C:Ml i):PE X (.Subscript o i pos) (D5 X.K U Y):=by intro d s l H Q I h;show yQ Z6.lookup C (bT (E d s l H _ I h) λu n #[x,N,L,q,t]=>bT (c d n l N _ L t) λS R a=>?_);let(y,A,m,p,a,b,xs,k,v,G,F,e,w,z,g,r):=a;subst G F;obtain rfl:=q;obtain rfl:=p;show#[(JF m e).1,MN B m e w z g λO P J j=>#[v,A,J,j,r]]
def ps_ddput(C:X.A.units+64<cLine)(F:PE X o U)(c:PE X i Y)(B:PE X Z tv)(E:W0 Z (cL (.Subscript o i T)) pos.line X.env=pure Ux):
  PS X (.Assign [.Subscript o i T] Z pos) (Ea X.K U Y tv):=by
 intro d s g H D I h;show acx (bT (B d s g H _ I h) λr l #[v,R1,A,rv,t]=>bT (F d l g R1 _ A t) λu j #[x,Q,O,n,q]=>bT (c d j g Q _ O q) λiv s3 a=>?_) E;let(y,H3,N,m,a,b,xs,k,L,J,e,w,z,G,p):=a;subst L J;obtain rfl:=n;obtain rfl:=m;show N6 C N e w z rv G λS M=>#[g,_,M,p]
theorem pe_ddnew:PE X (.Dict [] [] pos) F5:=λa s b H Q I h=>
 wpAny_Dict_empty #[.ref s.heap.objs.size,_,I.laid (λ_ _ q=>b3 _ q) (UG _) (tD (Vq _) (beq_eq_false_iff_ne.mpr (dN (U3 I.big))) .nil (Heap.DictOfH.new s.heap)),W,h _ (I.VQ.fresh (UG _))]
end
mutual
def Py:UB->UB->bg Bool
 |.int i,.int j=>cL (decide (i<j))
 |.str x,.str y=>cL (decide (x.cps.toList<y.cps.toList))
 |.tuple xs,.tuple ys=>QV xs ys
 |_,_=>Ld
def QV:bb UB->bb UB->bg Bool
 |[],[]=>cL Ux
 |[],_::_=>cL Uv
 |_::_,[]=>cL Ux
 |x::xs,y::ys=>if UB.eqv x y=Uv then QV xs ys else Py x y
end
end LD
namespace LD
open PySem PyProof.Rows
structure VE(es:G Xt)(U7:G (Unit×U)):Prop where
 vals:es.map (·.val)=U7.map (·.2)
end LD
namespace L10
open PySem PyProof.Rows L2 L3 LD
def i7:SV->z D
 |.fz d=>if keyD d=S then M d else P
 |_=>P
def PN:SV->z D
 |.fz d=>M d
 |_=>P
def rd(a:aL):SV->z (Nat×G (D×D))
 |.rf i=>match a[i]? with
  |some (.dd b)=>M (i,b)
  |_=>P
 |_=>P
def fX(b:G (D×D))(k:D):z D:=(b.find? λa=>UB.eqv a.1 k).map (·.2)
def iy(b:G (D×D))(k v:D):G (D×D):=if(b.find? λa=>UB.eqv a.1 k).isSome=S then b.map (λa=>if UB.eqv a.1 k=S then(a.1,v)else a)else b++[(k,v)]
section
variable{B O O':bF}{K:lD}{E:XK}{H H' S R:Hp}{Y α' X T:bb Uz}{ω ω' ω1 Z:aL}{U:L2.St}{ρ:aV}{v:V}{k:KD}
def lW(e:i7 x=M d)(h:Xl O K H Y v x):∃(k:KD) (b:I),k.1=d/\v=.ref b/\L3.DV O K H (.ref b) d:=by
 cases x with
 |fz z=>
  let e:(if keyD z=Uv then M z else P)=M d:=e;by_cases a:keyD z=Uv
  .rw[ax a]at e
   ext e;let h:=h;cases d with
   |tuple xs=>cases h with
    |tup g f=>show#[#[_,a],_,W,W,.tup g f]
   |_=>simp[keyD]at a
  .rw[aE a]at e;ext e
 |rf i=>ext e
 |tp l=>ext e
def B5(s:Vc B K H Y ω)(b:Xl (ow B Y ω) K H Y v x)(h:rd ω x=M (i,o)):ω[i]?=M (.dd o)/\∃a xs,Y[i]?=M a/\v=.ref a/\H a=M (DkO a xs)/\PrD (ow B Y ω) K H xs o:=by
 cases x with
 |fz d=>ext h
 |tp l=>ext h
 |rf j=>
  let(a,n,rfl):=b;unfold rd at h;dsimp only at h;cases q:ω[j]? with
  |none=>rw[q]at h;ext h
  |some c=>
   rw[q]at h;cases c with
   |dd m=>let e:=UT h;ext e;let(ws,g,f):=s.cel i a _ n q;show#[q,a,ws,n,W,g,f]
   |_=>ext h
def Fv:∀{xs:G (KD×I×V)} {c:G (D×D)},PrD O K H xs c->uw K H xs:=by
 intro _ _ b
 induction b with
 |nil=>show λ_ h=>nomatch h
 | @cons x f xs c h t d=>
  intro y a;rcases U5.mp a with e|a
  .subst e;rw[h.1];show h.2.1.plain
  .show d y a
def t6{x:KD×I×V}{a:D×D}(h:x.1.1=a.1):decide (x.1=k)=UB.eqv a.1 k.1:=by
 rw[<-h]
 haveI:Decidable (x.1.1=k.1):=Classical.propDecidable _
 rw[FP (keyD_kd x.1.2).1 (keyD_kd k.2).1];by_cases e:x.1=k
 .rw[a4 e,a4 (ef Subtype.val e)]
 .rw[a5 e,a5 λz=>e (Subtype.ext z)]
def uI:∀{xs:G (KD×I×V)} {b:G (D×D)},PrD O K H xs b->(∀d,fX b k.1=M d->∃v,nK xs k=M v/\L3.DV O K H v d)/\(fX b k.1=P->nK xs k=P):=by
 intro _ _ a
 induction a with
 |nil=>show#[λx e=>(by ext e),λ_=>W]
 | @cons x f xs b h t g=>
  unfold fX nK;rw[Vl,Vl,t6 h.1];cases UB.eqv f.1 k.1 with
  |true=>show#[λd e=>#[x.2.2,W,by ext e;show h.2.2],λe=>by ext e]
  |false=>show g
def wQ(h:PrD O K H xs o):(nK xs k).isSome=(fX o k.1).isSome:=by
 let(b,a):=uI h;cases q:fX o k.1 with
 |none=>rw[a q];rfl
 |some x=>let(u,e,_):=b x q;rw[e];rfl
def NM:∀{xs:G (KD×I×V)} {c:G (D×D)},PrD O K H xs c->(xs.find? λx=>decide (x.1=k)).isSome=(c.find? λb=>UB.eqv b.1 k.1).isSome:=by
 intro _ _ a
 induction a with
 |nil=>show W
 | @cons x b xs c h t d=>
  rw[Vl,Vl,t6 h.1];cases UB.eqv b.1 k.1 with
  |true=>rfl
  |false=>show d
def Qr(b:L3.DV O K H v d):∀{xs:G (KD×I×V)} {f:G (D×D)},PrD O K H xs f->PrD O K H (xs.map λx=>if x.1=k then(x.1,x.2.1,v)else x) (f.map λc=>if UB.eqv c.1 k.1=Uv then(c.1,d)else c):=by
 intro _ _ a
 induction a with
 |nil=>show .nil
 | @cons x c xs f h t g=>
  rw[UU,UU];show .cons ?_ (g);let e:=t6 (k:=k) h.1;by_cases z:x.1=k
  .rw[ax z,ax (by rw[<-e];show a4 z)];show#[h.1,h.2.1,b]
  .rw[aE z,aE (by rw[<-e,a5 z];simp)];show h
def Ft(r:x.1.1=o.1/\L3.DV O K H (.ref x.2.1) o.1/\L3.DV O K H x.2.2 o.2):∀{xs:G (KD×I×V)} {b:G (D×D)},PrD O K H xs b->PrD O K H (xs++[x]) (b++[o]):=by
 intro _ _ a
 induction a with
 |nil=>show .cons r .nil
 | @cons _ _ _ _ g t d=>show .cons g (d)
def uO(e:L3.DV O K H (.ref b) k.1)(a:L3.DV O K H v d)(h:PrD O K H xs o):PrD O K H (kF xs k b v) (iy o k.1 d):=by
 unfold kF iy;rw[NM h];split
 .show Qr a h
 .show Ft #[W,e,a] h
theorem L5(e:Ev O H O' H')(h:PrD O K H xs o):PrD O' K H' xs o:=Paired.X9 h λ_ _ q=>#[q.1,q.2.1.ev e,q.2.2.ev e]
def qh(neg:Bool)(a fd:cR):cR:=λρ ω=>(a ρ ω).bind λx ω1=>(fd ρ ω1).bind λo Z=>(RS.VD Z (i7 x)).bind λk Z=>(RS.VD Z (rd Z o)).bind λp Z=>.ok (.fz (.bool ((fX p.2 k).isSome !=neg))) Z
def vL(r:ce K E C fk)(hd:ce K E J fd):ce K E (Fe K neg C J) (qh neg fk fd):=by intro B U H Y ω ρ Q s f w;show r B U H Y ω ρ _ s f (w.bind.imp λx X ω1 S e1 l j v p=>?_);show hd B U S X ω1 ρ _ l (f.WQ e1) (j.bind.imp λo T Z R e2 g e u q=>?_);let(d,n,e):=WS.VD e;let((i,L),m,e):=WS.VD e;let(_,a,xs,A,rfl,y,h):=B5 g q m;let(k,b,rfl,rfl,t):=lW n (p.WQ e2);show#[a,b,xs,k,W,W,y,Fv h,t.plain,?_];rw[wQ h];show WS.now g e _ (.bl _)
def iG(fd a:cR):cR:=λρ ω=>(fd ρ ω).bind λo ω1=>(a ρ ω1).bind λx Z=>(RS.VD Z (i7 x)).bind λk Z=>(RS.VD Z (rd Z o)).bind λp Z=>(RS.VD Z (fX p.2 k)).bind λd Z=>.ok (.fz d) Z
def Bc(hd:ce K E td fd)(C:ce K E J fk):ce K E (D5 K td J) (iG fd fk):=by intro B U H Y ω ρ Q s f w;show hd B U H Y ω ρ _ s f (w.bind.imp λo X ω1 S e1 m j u A=>?_);show C B U S X ω1 ρ _ m (f.WQ e1) (j.bind.imp λx T Z R e2 g e v t=>?_);let(d,q,e):=WS.VD e;let((i,N),p,e):=WS.VD e;let(_,a,xs,L,rfl,G,h):=B5 g (A.WQ e2) p;let(k,b,rfl,rfl,F):=lW q t;let(y,n,e):=WS.VD e;let(z,r,l):=(uI h).1 y n;show#[a,b,xs,k,z,W,W,G,Fv h,F.plain,r,WS.now g e z l]
def mv(fd c b:cR):dH:=λρ ω=>(b ρ ω).bind λy ω1=>(fd ρ ω1).bind λo Z=>(c ρ Z).bind λx a=>(RS.VD a (i7 x)).bind λk a=>(RS.VD a (rd a o)).bind λp a=>(RS.VD a (PN y)).bind λd a=>if p.2.length<1000000 then .ok (.nx ρ) (a.set p.1 (.dd (iy p.2 k d)))else .bad
def Fk(e:PN x=M d)(h:Xl O K H Y v x):L3.DV O K H v d:=by
 cases x with
 |fz z=>ext e;show h
 |rf i=>ext e
 |tp l=>ext e
def Bp(hd:ce K E td fd)(Q:ce K E tk fk)(N:ce K E tv fv):mX K E (Ea K td tk tv) (mv fd fk fv):=by
 intro B U H Y ω ρ D s h w;show N B U H Y ω ρ _ s h (WS.imp (WS.bind w) λy X ω1 S e1 F A p m=>?_);show hd B U S X ω1 ρ _ F (h.WQ e1) (WS.imp (WS.bind A) λo T Z R e2 C t u P=>?_);show Q B U R T Z ρ _ C (h.WQ (e1.trans e2)) (WS.imp (WS.bind t) λx e g j e3 q f z L=>?_);let(kd,J,f):=WS.VD f;let((i,U7),I,f):=WS.VD f;let(d,G,f):=WS.VD f;let(l,a,xs,ha,rfl,g1,n):=B5 q (P.WQ e3) I;let(k,b,rfl,rfl,r):=lW J L;let M:=Fk G (m.WQ (e2.trans e3));dsimp only at f;by_cases hn:U7.length<1000000
 .rw[ax hn]at f;let ev:Ev (ow B e g) j (ow B e g) (aX j a (DkO a (kF xs k b p))):=oQ ha l (by nofun);let e4:Wm e g j e (g.set i (.dd (iy U7 k.1 d))) (aX j a (DkO a (kF xs k b p))):=Wm.put ha l (by nofun) (by nofun);let hl:=Paired.length n;show#[a,b,xs,k,W,W,g1,Fv n,r.plain,rZ (),?_];show f e _ e4 (q.put ha l (by nofun) (by nofun) #[_,aC,uO (r.ev ev) (M.ev ev) (L5 ev n)]) U ((h.WQ (e1.trans (e2.trans e3))).WQ e4)
 .rw[aE hn]at f;show f.elim
def tZ:cR:=λ_ ω=>.ok (.rf ω.length) (ω++[.dd []])
def BP:ce K E F5 tZ:=by intro B U H Y ω ρ Q s b w;show λp a=>lS s a w λ_=>#[[],aC,.nil]
end
end L10
namespace L3
open PySem PyProof.Rows L2
structure aaO(K:lD)(x qual:Str)(st:Wk)(f:I)(fd:VG)(T:I)(Vm:Array U):Prop where
 ex:∃(oc:U) (od:z I) (kV doc pm:U) (an:z I) (Wo ct:U) (osl:Array (z U)),
  fd=V3 x qual (eC st) (bO st) (az st) (.ref T) kV doc pm an Wo ct/\K.lookup f=M #[oc,od,.func fd,osl]/\XO K Wo qual=S
 kp:Wa K (.ref f)=S
 tp:∃o n,K.lookup T=M o/\o.data=.seq Vm n
section
variable{P:UZ}{w:Vf}{K:lD}{B:Str->bg Ut}{base:Heap}{x Z:Str}{Y:Wk}{f:Uz}{Q:VG}{T:Uz}{A:Array Ut}{N ps:bb Str}{k n m:Nat}{J:Sp}{L:bb Ut}
def aaO.binds(F:aaO K x Z Y f Q T A)
  (h:∀(kV a b:U) (d:z I) (e ct:U) (us:G U),(us++L).length=ps.length->∃k:z (Array U)->Sem (G (Str×U)),bindArgs (V3 x Z (eC Y) (bO Y) (az Y) (.ref T) kV a b d e ct) #[us,[]]=seqItems? (.ref T)>>=k/\k (M A)=pure (ps.zip (us++L))):Binds K Q ps L:=by
 let(r,q,kV,a,b,d,e,ct,g,rfl,t,j):=F.ex;let(o,n,p,l):=F.tp;intro s us X i;let(k,e1,e2):=h kV a b d e ct us i;show YZ.of_defaults (fd:=V3 x Z (eC Y) (bO Y) (az Y) (.ref T) kV a b d e ct) W (X _ _ p) l e1 e2
def Dv(P:UZ)(w:Vf)(K:lD)(B:Str->z U)(base:Heap)(b:sU)(k:Nat)(x:Str)(ps:G Str)(a:G V)(J:Sp):Prop:=
 ∃(f:I) (Q:VG) (L:G U),FnOk P w K B base b k f Q ps J/\Binds K Q ps L/\Vals a L/\Wa K (.ref f)=S/\B x=M (.ref f)
def IV(C:Dv X.prog X.w X.K X.mg X.base CX k x ps YM J)(i:Wr j X.A)(h:dr CX X E)(c:PA X (e::es) t)(a:k<=j:=by decide)(l:Gl X x:=by rfl)
  (d:(x==("__debug__":Str))=R:=by decide) (o:UW (e::es) X.env=(R,eval e X.env)::UW es X.env:=by rfl) (q:(backTo pos (UW es X.env)).any (·.1)=R:=by rfl):
  PE X (.Call (.Name x p) (e::es) [] pos) (lY J YM E t):=by
 let(f,Q,L,F,b,v,g,m):=C;show yM F (i.mono a) l m g b v h c d o q
end
end L3
namespace L10
open PySem PyProof.Rows L2 L3
section
variable{P:UZ}{w:Vf}{K:lD}{L:Str->bg Ut}{base:Heap}{x Z:Str}{Y:Wk}{f:Uz}{J:VG}{T:Uz}{B:Array Ut}{N X:bb Str}{k n m:Nat}{g:dH}{C:fJ}
def Rf(F:aaO K x Z Y f J T B)(S:WK N X (az Y))(c:X.length=n)(hm:N.length=m)(p:C=cH m g)
  (r:∀(a:U) (A:Vb) (outer:G Env) (s:UC) (H:Hp) (E:XK),Wr k (A.deeper (Vi Z (az Y) s.heap.objs.size f a))->
   ∃t,Z2 (eP (L4.kK P w) P w K L base N Z (az Y) f a A outer s H E) (bO Y) t/\mX K E t g):FnOk P w K L base (L4.kK P w) (k+1) f J X (jR K n C):=by
 subst p hm;let(y,v,kV,q,u,z,a,ct,e,rfl,i,d):=F.ex;show CZ i d S (λvs H Q E h=>h.1.trans c.symm) λA outer s H vs Q E o b=>?_;let(t,j,l):=r a A outer s H E o;show#[t,j,xP (xs:=[]) l b]
end
end L10
namespace L3
open PySem L2
section
variable{P:UZ}{w:Vf}{K:lD}{Q:Str->bg Ut}{base h:Heap}{f C:Uz}{n m q:Str}{t:Wk}{T fs:bb Str}{Z k:Nat}{N L:Sp}{Y:sU}
theorem MI.af9(i:MI K C f m q t)(c:CI K C n fs)(b:BA m q t T)(ok:∀fd,ZL K m q t f fd->FnOk P w K Q base Y Z f fd T N):L10.mZ P w K Q base Y Z n m T N:=
 let#[fd,z]:=i.F;#[C,f,fd,c.a,c.cls,#[i.a,i.i,z.kp],ok fd z,z.binds b]
theorem MI.ahU(i:MI K C f "__init__" q t)(c:CI K C n fs)(X:K.In h)(G:h.Ns UY Q)(b:BA "__init__" q t T)(ok:∀fd,ZL K "__init__" q t f fd->FnOk P w K Q base Y Z f fd T N):L10.v3 P w K Q base Y Z n T N:=
 let#[fd,z]:=i.F;#[C,f,fd,c.a,Wx X G c.a,#[c.mm,i.a,i.i,c.kc],ok fd z,z.binds b]
end
end L3
namespace L10
open PySem PySem.Spec PyProof.Rows L2 L3
section
variable{B O O':bF}{K:lD}{E:XK}{H H' Y H2:Hp}{α α' Z α2:bb Uz}{T ω' X ω2:aL}{σ:L2.St}{Q:aV}{v:V}
def lF(c f:Str)(a:cR):dH:=λQ T=>(a Q T).bind λx X=>match x with
 |.fz d=>if L9.Qq d=S then .er #[c,[(f,d)]] X else .bad
 |_=>.bad
def wP(M:U8 K UY c=cL (cL (.ref C)))(L:ce K E te fe):mX K E (L9.Aq C (L9.tT C f) E (fZ te jf)) (lF c f fe):=by
 intro B σ H α T Q D s G w;show L B σ H α T Q _ s G (WS.imp (WS.bind w) λx Z X Y e1 I a v h=>?_)
 match x,h,a with
 |.fz d,h,a=>
  let h:=h;dsimp only at a;by_cases r:L9.Qq d=S
  .rw[ax r]at a
   let j:L9.PM v/\∀(O':bF) (H':Hp),L3.DV O' K H' v d:=by
    cases d with
    |none=>ext h;show#[.inl W,λ_ _=>.WL]
    |int i=>ext h;show#[.inr #[i,W,a6 r],λ_ _=>.int i]
    |_=>ext r
   show#[by show 1<=UK;decide,λe hn=>#[e,v,W,j.1,aC,λp F g=>#[W,p,?_,?_]]]
   .rw[ay (dN g),aC]
   .let u:Y p=Ld:=by rw[ay g]at F;show F
    let A:Wj Y (L9.PF (aX (aX (aX Y e (.ext (L9.GF C e))) e (.ext (L9.PK C e p))) p (.xd [(f,v)])) e):=λb o z=>by
     let t:b≠e:=λy=>by rw[y,hn]at z;ext z
     let J:b≠p:=λy=>by rw[y,u]at z;ext z
     rw[L9.iJ t,ay J,ay t,ay t];show z
    show a (.ref C) (cL p) Z _ (Wm.same A) (I.grow A) #[#[C,W,M],[(f,v)],λP q=>?_,λm N l=>#[(λz=>nomatch z),?_]]
    .ext q;rw[L9.iJ g,aC]
    .let n:(match m==f with|true=>cL d|false=>Wy m [])=cL N:=l
     cases hb:m==f with
     |true=>rw[hb]at n;ext n;show#[v,?_,j.2 _ _];show(match m==f with|true=>cL v|false=>Wy m [])=cL v;rw[hb]
     |false=>rw[hb]at n;ext n
  .rw[aE r]at a;show a.elim
 |.rf _,_,a=>show a.elim
 |.tp _,_,a=>show a.elim
end
end L10
namespace LD
open PySem PySem.Spec PyProof.Rows L2
def PZ(K:lD)(f e:TE):TE:=λd H Q=>∀p,H p=P->f d (aX H p (DkO p [])) λy g=>e d g λv a=>∃b k,y=.ref b/\a p=M (DkO p [])/\L2.DV K a (.ref b) k.1/\Q (.ref p) (aX a p (DkO p (kF [] k b v)))
def pe_dd1(T:X.A.units+64<cLine)(F:PE X k tk)(C:PE X v tv):PE X (.Dict [cL k] [v] pos) (PZ X.K tk tv):=by
 intro a s l H Q I q;let hn:=I.VQ.fresh (UG s.heap.objs.size);let N:=I.laid (t':=s.toks) (λ_ _ q=>b3 _ q) (UG _) (tD (Vq _) (beq_eq_false_iff_ne.mpr (dN (U3 I.big))) .nil (Heap.DictOfH.new s.heap));show wpAny_Dict_any W W (ZP _ _) (show 1<=15 by decide) (pairTrees_cons_walk (bT (F a _ l _ _ N (q _ hn)) λu o #[x,O,j,r,w]=>bT (C a o l O _ j w) λP R #[y,Y,i,p,b,m,A,e,B,t]=>pairTrees_nil_walk ?_));subst A;obtain rfl:=r;let(z,J,n,d,dd):=wq i e (λ_ h=>nomatch h);let S:n.length<=UK:=by rw[<-Paired.length d];show z
 let g:(kF [] m b y).length<=UK:=by let:=na [] m b y;rw[WB];simp only[V7]at this;ext
 ext storeAll;simp only[XM,YX];show CL (CL (wpAny_dictSet_heap (show X.A.units+8<cLine by ext) (mq i B) dd λL f E=>UD (UD ?_)));let G:∃q,L.get? s.heap.objs.size=cL q:=let#[q,_,_,hq,_]:=f;#[q,hq]
 show#[.ref s.heap.objs.size,_,lz i (by rw[e];show True.intro) E G (tD g J (B3 p d) f),W,t]
end LD
namespace L10
open PySem PyProof.Rows L2 L3 LD
section
variable{B O O':bF}{K:lD}{E:XK}{H H' H1 H2:Hp}{Y α' α1 α2:bb Uz}{ω ω' ω1 Z:aL}{X:L2.St}{ρ:aV}{v:V}
def AH(b a:cR):cR:=λρ ω=>(iY (b ρ ω)).bind λx ω1=>(iY (a ρ ω1)).bind λy Z=>match i7 x,PN y with
 |some k,M d=>.ok (.rf Z.length) (Z++[.dd (iy [] k d)])
 |_,_=>.bad
def JQ(hk:ce K E tk fk)(D:ce K E tv fv):ce K E (PZ K tk tv) (AH fk fv):=by
 intro B X H Y ω ρ Q s N w p l;let hB:=λz=>s.bn p z l;let P:Vc (bK B p) K (aX H p (DkO p [])) Y ω:=s.hide l;let m:W7 (ow (bK B p) Y ω) K (aX H p (DkO p [])) Y X ρ:=by
  let ev:Ev (ow B Y ω) H (ow (bK B p) Y ω) (aX H p (DkO p [])):=λb o h n=>by
   let t:b≠p:=λz=>by rw[z,l]at h;ext h
   show#[by rw[ay t];show h,λz=>?_];rcases z with(z|z)|z
   .show n (.inl z)
   .show t z
   .show n (.inr z)
  show#[N.1,λj x hx=>let#[v,h1,h2]:=N.2 j x hx;#[v,h1,h2.ev ev λ_ _ h=>h]]
 unfold AH at w;show hk (bK B p) X _ Y ω ρ _ P m ?_;cases qk:fk ρ ω with
 |er x e=>rw[qk]at w;show w.elim
 |bad=>rw[qk]at w;show w.elim
 |ok x g=>
  rw[qk]at w;intro u Hk I S v0 G;show D (bK B p) X Hk u g ρ _ S (m.WQ I) ?_;let w:WS K E B H Y ω (PQ B K Q) ((iY (fv ρ g)).bind λy Z=>match i7 x,PN y with|some k,cL d=>.ok (.rf Z.length) (Z++[.dd (iy [] k d)])|_,_=>.bad):=w;cases qv:fv ρ g with
  |er x e=>rw[qv]at w;show w.elim
  |bad=>rw[qv]at w;show w.elim
  |ok y e=>
   rw[qv]at w;intro f L J A M F;let w:WS K E B H Y ω (PQ B K Q) (match i7 x,PN y with|some k,cL d=>.ok (.rf e.length) (e++[.dd (iy [] k d)])|_,_=>.bad):=w;cases q1:i7 x with
   |none=>rw[q1]at w;show w.elim
   |some kd=>
    cases q3:PN y with
    |none=>rw[q1,q3]at w;show w.elim
    |some d=>rw[q1,q3]at w;let(k,b,rfl,rfl,t):=lW q1 (G.WQ J);let U:=Fk q3 F;let r:=(I.trans J).kp p _ aC λ#[i,c,q,_]=>P.ba p (.inr W) i q;show#[b,k,W,r,t.plain,?_];let R:Ev (ow (bK B p) f e) L (ow (bK B p) f e) (aX L p (DkO p (kF [] k b M))):=Ev.mut (.inl (.inr W)) _;let C:=uO (t.ev R) (U.ev R) .nil;let T:=(A.af5 r).aev (c:=.dd (iy [] k.1 d)) (by nofun) (by rw[aC];simp) #[_,aC,C] hB;let e3:Wm Y ω H f e (aX L p (DkO p (kF [] k b M))):=((Wm.same (bz l _)).trans (I.trans J)).dd l;show w (f++[p]) _ #[λi a h=>dP (e3.pre i a h),e3.kp,λb z=>(oV A.len z).elim (e3.lv b) λz=>.inr (by rw[z];show l)] T (.ref p) #[p,by rw[<-A.len];show aJ,W]
end
end L10
namespace L3
open PySem L2
theorem Pa{X:Cx}{P:UZ}{w:Vf}:dr (L4.kK P w) X E0:=λ_ _ _ _ _ _ _ h=>by let(_,_,_,_,_,_,_,_,_,_,_,_,_,_,_,_,h):=h;show h.elim
end L3
namespace L10
open PySem L2 L3
def SK(T:A->aL->Prop)(X:Xc->Prop):RS A->Prop
 |.ok a b=>T a b
 |.er x _=>X x
 |.bad=>False
structure Out{A:Type}(r:RS A)(T:A->aL->Prop)(X:Xc->Prop):Prop where
 out:SK T X r
section
variable{A B:Type}{r Q:RS A}{T N:A->aL->Prop}{U:B->aL->Prop}{X:Xc->Prop}{Y:aL}
def Out.eq(e:r=Q)(h:Out Q T X):Out r T X:=by rw[e];show h
def Out.imp(h:Out r T X)(k:∀a Y,T a Y->N a Y):Out r N X:=by
 show#[?_];let h:=h.out;cases r with
 |bad=>show h
 |er x o=>show h
 |ok a o=>show k a o h
def Out.bind(h:Out r (λa o=>Out (f a o) U X) X):Out (r.bind f) U X:=by
 show#[?_];let h:=h.out;cases r with
 |bad=>show h
 |er x o=>show h
 |ok a o=>show(show Out (f a o) U X from h).out
def Out.all(h:Out r T λ_=>False):∃a o,r=.ok a o/\T a o:=by
 let h:=h.out;cases r with
 |bad=>show h.elim
 |er x o=>show h.elim
 |ok a o=>show#[a,o,W,h]
end
section
variable{ρ ρ1 Q:aV}{ω Y Z B:aL}{x y z:SV}{i n:Nat}{d:D}{J:bb D}{b:Bool}{f g:dH}{L:cR}{N:aV->aL->Prop}{T:SV->aL->Prop}{X:Xc->Prop}
def Uk(N:aV->aL->Prop)(T:SV->aL->Prop):FlS->aL->Prop
 |.nx ρ,ω=>N ρ ω
 |.rt v,ω=>T v ω
 |_,_=>False
abbrev l7(r:RS FlS)(N:aV->aL->Prop)(T:SV->aL->Prop)(X:Xc->Prop):Prop:=Out r (Uk N T) X
def jo(h:l7 (f ρ ω) (λr o=>l7 (g r o) N T X) T X):l7 (aH f g ρ ω) N T X:=by
 show Out.bind (h.imp λa o k=>?_);cases a with
 |nx r=>show k
 |rt v=>show#[k]
 |ct r=>show k.elim
 |bk r=>show k.elim
theorem Lq(a:f ρ ω=.ok (.nx ρ1) Y)(h:l7 (g ρ1 Y) N T X):l7 (aH f g ρ ω) N T X:=jo (.eq a #[h])
theorem xf(a:f ρ ω=.ok (.nx ρ1) Y)(h:N ρ1 Y):l7 (f ρ ω) N T X:=.eq a #[h]
theorem de(e:L ρ ω=.ok x Y)(a:gt x ρ Y=.ok ρ1 Z)(h:l7 (g ρ1 Z) N T X):l7 (aH (cJ L gt) g ρ ω) N T X:=Lq (by ext cJ;rw[e,ej,a,ej]) h
theorem Cf(a:Out (L ρ ω) (λ_ Y=>N ρ Y) X):l7 (bv L ρ ω) N T X:=Out.bind (a.imp λ_ _ k=>#[k])
def sY{a j:dH}(e:c ρ ω=.ok S Y)(h:l7 (aH a g ρ Y) N T X):l7 (aH (bS c a j) g ρ ω) N T X:=by show .eq ?_ h;unfold aH bS;rw[e,ej,ax W]
def mL{j a:dH}(e:c ρ ω=.ok R Y)(h:l7 (aH a g ρ Y) N T X):l7 (aH (bS c j a) g ρ ω) N T X:=by show .eq ?_ h;unfold aH bS;rw[e,ej,aE UQ]
theorem jJ(h:l7 (g ρ ω) N T X):l7 (aH bX g ρ ω) N T X:=jo #[h]
theorem pR(a:L ρ ω=.ok x Y)(h:T x Y):l7 (fR L ρ ω) N T X:=.eq (gW a) #[h]
theorem oy(a:L ρ ω=.ok x Y)(h:T x Y):l7 (aH (fR L) g ρ ω) N T X:=jo (pR a h)
def sA(a:xs.map M++UH (n - xs.length) P=ρ)(h:l7 (g ρ ω) (λ_ c=>T (.fz .none) c) T X):Out (cH n g xs ω) T X:=by
 ext cH;rw[a];show Out.bind (h.imp λe o k=>?_);cases e with
 |nx r=>show#[k]
 |rt v=>show#[k]
 |ct r=>show k.elim
 |bk r=>show k.elim
theorem Eg{b:dH}(I:Nat->aV->aL->Prop)(M:Nat)(j:∀n ρ ω,I n ρ ω->(∃Y,c ρ ω=.ok R Y/\N ρ Y)\/(n<M/\∃Y,c ρ ω=.ok S Y/\l7 (b ρ Y) (I (n+1)) T X)):∀(m n:Nat) (ρ:aV) (ω:aL),M - n<m->I n ρ ω->l7 (ro c b m ρ ω) N T X
 |0,n,_,_,h,_=>by ext
 |m+1,n,ρ,ω,h,h0=>by
  rcases j n ρ ω h0 with⟨Y,e,p⟩|⟨q,Y,e,l⟩
  .show .eq (show ro c b (m+1) ρ ω=.ok (.nx ρ) Y from ?_) #[p];show((c ρ ω).bind _)=_;rw[e,ej,aE UQ]
  .show .eq (show ro c b (m+1) ρ ω=(b ρ Y).bind λa Z=>match a with
    |.nx Q=>ro c b m Q Z
    |.ct Q=>ro c b m Q Z
    |.bk Q=>.ok (.nx Q) Z
    |.rt x=>.ok (.rt x) Z from ?_) (Out.bind (l.imp λa o k=>?_))
   .show((c ρ ω).bind _)=_
    rw[e,ej,ax W]
    all_goals (cases b ρ Y with
     |bad=>rfl
     |er x o=>rfl
     |ok a o=>ext a<;>rfl)
   .cases a with
    |nx r=>show Eg I M j m (n+1) r o () k
    |rt v=>show#[k]
    |ct r=>show k.elim
    |bk r=>show k.elim
theorem pp{b:dH}(I:Nat->aV->aL->Prop)(M:Nat)(h:M<1000000)(e:I 0 ρ ω)(a:∀n ρ ω,I n ρ ω->(∃Y,c ρ ω=.ok R Y/\N ρ Y)\/(n<M/\∃Y,c ρ ω=.ok S Y/\l7 (b ρ Y) (I (n+1)) T X)):l7 (mG c b ρ ω) N T X:=Eg I M a 1000000 0 ρ ω () e
theorem zL{b:dH}(I:Nat->aV->aL->Prop):∀(J:G D) (k:Nat) (ρ:aV) (ω:aL),I k ρ ω->(∀i d ρ ω,J[i]?=M d->I (k+i) ρ ω->∃ρ1 Y,gt (.fz d) ρ ω=.ok ρ1 Y/\l7 (b ρ1 Y) (I (k+i+1)) T X)->l7 (ji gt b J ρ ω) (I (k+J.length)) T X
 |[],k,ρ,ω,h0,_=>#[h0]
 |d::r,k,ρ,ω,h0,C=>by
  let(ρ1,Y,w,u):=C 0 d ρ ω W h0;let p:∀j a,I (k+1) j a->l7 (ji gt b r j a) (I (k+(r.length+1))) T X:=λj a h=>by
   let e:k+(r.length+1)=k+1+r.length:=by ext
   rw[e];show zL I r (k+1) j a h λi A m l hi t=>?_;let e:k+1+i=k+(i+1):=by ext
   rw[e]at t⊢;show C (i+1) A m l (by simpa using hi) t
  show .eq (show ji gt b (d::r) ρ ω=(b ρ1 Y).bind λq Z=>match q with
   |.nx Q=>ji gt b r Q Z
   |.ct Q=>ji gt b r Q Z
   |.bk Q=>.ok (.nx Q) Z
   |.rt x=>.ok (.rt x) Z from ?_) (Out.bind (u.imp λq o k=>?_))
  .show((gt (.fz d) ρ ω).bind _)=_
   rw[w,ej]
   all_goals (cases b ρ1 Y with
    |bad=>rfl
    |er x o=>rfl
    |ok q o=>ext q<;>rfl)
  .cases q with
   |nx r=>show p _ _ k
   |rt v=>show#[k]
   |ct r=>show k.elim
   |bk r=>show k.elim
def Ek{b:dH}(I:Nat->aV->aL->Prop)(m:C ρ ω=.ok J Y)(h:I 0 ρ Y)(a:∀i d ρ ω,J[i]?=M d->I i ρ ω->∃ρ1 Y,gt (.fz d) ρ ω=.ok ρ1 Y/\l7 (b ρ1 Y) (I (i+1)) T X)(e:∀l c,I J.length l c->N l c):l7 (tF C gt b ρ ω) N T X:=by
 let:=zL I J 0 ρ Y h (by simpa using a);rw[XY]at this;show .eq ?_ (this.imp λj o k=>?_)
 .ext tF;rw[m,ej]
 .cases j with
  |nx r=>show e _ _ k
  |rt v=>show k
  |ct r=>show k.elim
  |bk r=>show k.elim
def zi(a:fo ρ ω=.ok (.rf i) Y)(h:Y[i]?=M (.obj C fs))(hm:fs.lookup m=P)(j:fa ρ Y=.ok xs Z)(c:(SV.rf i::xs).length=n):nt C m F n fo fa ρ ω=F (.rf i::xs) Z:=by
 let e:kh Y C m (.rf i)=S:=by ext kh;dsimp only;rw[h];dsimp only;rw[hm];simp
 ext nt;rw[a,ej,ax e,j,ej,ax c]
def Ot(c:fa ρ ω=.ok xs Y)(a:(SV.rf Y.length::xs).length=n):Bw C F n fa ρ ω=(F (.rf Y.length::xs) (Y++[.obj C []])).bind λr Z=>(if AY r=S then .ok (.rf Y.length) Z else .bad):=by ext Bw;rw[c,ej];ext r8;rw[ax a]
def AQ{c f:Str}(h:L ρ ω=.ok (.fz d) Y)(hd:L9.Qq d=S):lF c f L ρ ω=.er #[c,[(f,d)]] Y:=by ext lF;rw[h,ej];dsimp only;rw[ax hd]
end
end L10
namespace L3
open PySem PyProof.Rows L2
section
variable{P:UZ}{w:Vf}{K:lD}{Q:Str->bg Ut}{base h:Heap}{f T:Uz}{n:Str}{t:Wk}{Y:bb Str}{N:Nat}{L:Sp}{J:sU}{Z:Array Ut}
structure DI(K:lD)(f T:I)(n:Str)(t:Wk)(Z:Array U):Prop where
 a:U8 K UY n=M (M (.ref f))
 F:∃fd,aaO K n n t f fd T Z
theorem J9{x a:Str}{b:Wk}{q:U}{p:z I}{kV d i:U}{j:z I}{g ct:U}{e:Array (z U)}{o:U}{m:z I}{k:Nat}{l:Array (z U)}
  (r:K.lookup f=M #[q,p,.func (V3 x a (eC b) (bO b) (az b) (.ref T) kV d i j g ct),e]) (v:XO K g a=S) (u:Wa K (.ref f)=S) (lt:K.lookup T=M #[o,m,.seq Z k,l]):aaO K x a b f (V3 x a (eC b) (bO b) (az b) (.ref T) kV d i j g ct) T Z:=
 #[#[_,_,_,_,_,_,_,_,_,W,r,v],u,_,_,lt,W]
def BD(n:Str)(t:Wk)(T:I)(Z:Array U)(Y:G Str)(ds:G U):Prop:=∀(kV b d:U) (e:z I) (g ct:U) (a:G U),(a++ds).length=Y.length->∃k:z (Array U)->Sem (G (Str×U)),bindArgs (V3 n n (eC t) (bO t) (az t) (.ref T) kV b d e g ct) #[a,[]]=seqItems? (.ref T)>>=k/\k (M Z)=pure (Y.zip (a++ds))
theorem DI.cal{ds:bb U}{b:bb V}(i:DI K f T n t Z)(X:K.In h)(G:h.Ns UY Q)(e:BD n t T Z Y ds)(d:Vals b ds)(ok:∀fd,aaO K n n t f fd T Z->FnOk P w K Q base J N f fd Y L):Dv P w K Q base J N n Y b L:=
 let#[fd,z]:=i.F;#[f,fd,ds,ok fd z,z.binds e,d,z.kp,Wx X G i.a]
end
structure Tp(P:UZ)(w:Vf)(K:lD)(mg:Str->z U)(base h:Heap):Prop where
 X:K.In h
 G:h.Ns UY mg
section
variable{P:UZ}{w:Vf}{K:lD}{X:Str->bg Ut}{base h:Heap}{f C T:Uz}{n m q:Str}{t:Wk}{Q fs:bb Str}{Z:Nat}{N:Sp}{Y:sU}{U:Array Ut}
theorem NI.c(i:NI K f n t)(W:Tp P w K X base h)(ok:∀fd,ZL K n n t f fd->FnOk P w K X base jY Z f fd Q N)(a:BA n n t Q:=by ext:3):wb P w K X base Z n Q N:=i.cal W.X W.G a ok
theorem MI.mt(i:MI K C f m q t)(c:CI K C n fs)(W:Tp P w K X base h)(ok:∀fd,ZL K m q t f fd->FnOk P w K X base Y Z f fd Q N)(a:BA m q t Q:=by ext:3):L10.mZ P w K X base Y Z n m Q N:=i.af9 c a ok
theorem MI.k(i:MI K C f "__init__" q t)(c:CI K C n fs)(W:Tp P w K X base h)(ok:∀fd,ZL K "__init__" q t f fd->FnOk P w K X base Y Z f fd Q N)(a:BA "__init__" q t Q:=by ext:3):L10.v3 P w K X base Y Z n Q N:=i.ahU c W.X W.G a ok
theorem DI.c{ds:G Ut}{a:G V}(i:DI K f T n t U)(W:Tp P w K X base h)(b:Vals a ds)(ok:∀fd,aaO K n n t f fd T U->FnOk P w K X base Y Z f fd Q N)(d:BD n t T U Q ds:=by ext:8):Dv P w K X base Y Z n Q a N:=i.cal W.X W.G d b ok
end
end L3
namespace L4
open PySem PySem.Spec PyProof.Rows L2 L3
def KJ(g:XK)(e d:TS):TS:=λD b H=>e D b H/\∀c f H1,g c f H1->∀(a:L2.St),a.length=b.length->d {nx:=D.nx,rt:=D.rt} a H1
def IZ{X:Cx}{G O:bb Wk}{b0:Wk}{tb ts:TS}{E2:XK}{U:Uz}{x:Str}{np aiw pos:Pos}{mU:bb Ut}
  (hex:X.ex=[]) (cX:X.stack=X.env::X.outer) (V:X.env.frame=cL X.env.locals) (hg:Gl X x) (hm:X.mg x=cL (.ref U)) (hU:vg X.K U mU) (hbU:mU.contains (.type "BaseException")=Uv)
  (hb:∀l,Z2 ((Cx.pinned X l).YH (B0 (Cx.pinned X l) E2)) G tb) (hs:∀l e,Z2 (Cx.marked (Cx.pinned X l) e) (b0::O) ts)
  (hE:∀c A H,E2 c A H->∃C m,c=.ref C/\vg X.K C m/\(Ut.ref C::m).contains (.ref U)=Uv) (hdb:(x==("__debug__":Str))=Ux:=by decide):
  PS X (.Try G [.ExceptHandler (cL (.Name x np)) Ld (b0::O) aiw] [] [] pos) (KJ E2 tb ts):=by
 intro d s σ H D I #[h,hc];let IY:=HW I;let L:(Cx.pinned X (X.pn++d)).ex=[]:=hex;show wpAny_Try_except (wpAny_mono (hb (X.pn++d) [] s σ H D (IY.YH _) h) (λf N j=>?_) (λv N hx=>?_))
 .let j:=SP.XT j
  cases f with
  |next=>let(a,i,g,E):=j;show X5 #[a,i,gw I.ok g,E]
  |brk=>let(a,i,g,E):=j;show#[a,i,gw I.ok g,E]
  |cont=>let(a,i,g,E):=j;show#[a,i,gw I.ok g,E]
  |ret u=>let(v,a,i,g,r,E):=j;show#[v,a,i,gw I.ok g,r,E]
 .let(a,i,e,c,A,a0,T,rfl,g,F,S,R,ne,nT,q):=hx
  let(C,mC,hcC,(n1,E,N1,b1,d1,t1,u1,a1,l1,x1,i0,i1,i2,i3,i5,id1,kC),hup):=hE c A i q;let(n2,q2,N2,b2,d2,t2,u2,a2,l2,x2,j0,j1,j2,j3,j5,id2,kU):=hU;let fr:X.A.frames=cL (X.env::X.outer):=by rw[<-cX];show I.ok.frames
  let ff:N.heap.FunFrames X.base (X.env::X.outer):=by rw[<-cX];show g.stack
  show HY fr ff V F λh2 Y z2 F2 M=>?_
  let Z:L2.Inv (Cx.pinned X (X.pn++d)) [] a i {N with heap:=h2}:=vU g (λb=>b=e\/b=T) L (λp Q y=>y.elim (S.nP p Q) (R.nP p Q))
   (λb o z t nf=>M.keep b o z (λy=>t (.inl y)) (λy=>t (.inr (UT y).symm)) (by rw[<-cX];show nf))
   (λb o z t=>M.slot b o z (λy=>t (.inl y)) (λy=>t (.inr (UT y).symm))) M.here
   (λb y=>y.elim (λy=>by rw[y];show S.n0) (λy=>by rw[y];show R.n0)) (λy=>y.elim (λy=>S.nL y.symm) (λy=>R.nL y.symm))
   (λy k z w=>w.elim (S.nC y k z) (R.nC y k z)) (λb y=>y.elim (λy=>by rw[y];show ne) (λy=>by rw[y];show nT))
  let B:Apart (Cx.pinned X (X.pn++d)) Y:=qI g L (cw z2);let nT2:i Y=Ld:=g.VQ.fresh z2;show wpAny_handleBy_cons (codeAny_handlers_test (jD (X:=Cx.marked (Cx.pinned X (X.pn++d)) e) (pz Z e) hg hm ?_ hdb)) (by nofun);let F2':=F2;let(ob,fs,qe,cE,dE,dF,_):=F2';show FV (Z.ZJ _ _ kC) (Z.ZJ _ _ kU) qe (cE.trans hcC) hbU hup ?_;show codeAny_handlers_suite (Pt F2 λh3 F3 Zy hT3=>?_)
  let I3:L2.Inv (Cx.pinned X (X.pn++d)) [] a i {N with heap:=h3}:=vU (s:={N with heap:=h2}) Z (λb=>b=Y) L (λp Q y=>B.nP p Q y)
   (λb o z t _=>(Zy b t).trans z) (λb o z t=>#[o.slots,(Zy b t).trans z])
   (λb o z=>(Classical.em (b=Y)).elim (λy=>by rw[y];show hT3) (λy=>#[o,(Zy b y).trans z])) (λb y=>by rw[y];show B.n0) (λy=>B.nL y.symm) (λy k z w=>B.nC y k z w) (λb y=>by rw[y];show nT2)
  let w:=hc c A i q a (g.len.trans I.len.symm);show wpAny_mono (hs (X.pn++d) e [] _ _ _ _ (pz I3 e) w) (λf s5 j=>?_) (λy s5 z=>z.elim);cases f with
  |next=>let(n,H2,P,J):=j;show#[_,_,gw I.ok (qW IY.ok P),J]
  |brk=>let(n,H2,P,J):=j;show J.elim
  |cont=>let(n,H2,P,J):=j;show J.elim
  |ret u=>let(v,n,H2,P,r,J):=j;show#[v,n,H2,gw I.ok (qW IY.ok P),r,J]
end L4
namespace L10
open PySem PySem.Spec PyProof.Rows L2 L3
def My:D->D->z RV:=fI λi j=>i+j
def Lg:R2:=Ta λi j=>i+j
theorem Kg{X:Cx}:R0 X .Add Lg:=OD
def Bt{K:lD}:iZ K Lg My:=by intro O H x y g d f Q n b a e q;let(i,j,rfl,rfl,rfl):=uK e;ext b;ext a;show#[_,_,W,W,q.at (.int _)]
end L10
namespace PySem
namespace SetTable
def To(xs:Array Nat):Prop:=xs.toList.Pairwise (·<·)
structure TI(b:Bool)(t:SetTable):Prop where
 led:t.led=b
 dm:t.dummies= #v[]
 ris:To t.place
end SetTable
end PySem
namespace PySem
open SetTable
section
variable{prog:UZ}{w:Vf}{K:Type}[DecidableEq K]{knd:KeyKind prog w K}{A:Vb}{E:Ut->UC->Prop}{s:UC}{b:Bool}{a:Uz}{es:Array (Int×Ut)}
structure SetX(knd:KeyKind prog w K)(b:Bool)(h:Heap)(a:I)(es:Array (Int×U)):Prop where
 x:∃o ep t,h.get? a=M o/\o.ExactSet/\o.data=.set es ep t/\t.fits es.size=S/\TI b t
 el:ElemsOf knd es.toList
 sz:es.size<scanBound
end
end PySem
namespace PySem
namespace SetTable
structure TT(t:SetTable)(n:Nat):Prop where
 k:∃k,t.mask+1=2^k
 dm:t.dummies= #v[]
 ris:To t.place
 le:∀v∈t.place.toList,v<=t.mask
 sz:t.place.size=n
 few:n*5<t.mask*3
section
variable{t:SetTable}{n:Nat}{p:Probe}
structure PI(t:SetTable)(p:Probe):Prop where
 nine:p.more<=9
 jm:p.j+p.more<=t.mask
 pt:p.perturb<2^64
 dm:p.dummy=P
end
end SetTable
end PySem
namespace LD
open PySem PySem.SetTable PyProof.Rows L2 L3
section
variable{prog:UZ}{w:Vf}{E:Ut->UC->Prop}
variable{A:Vb}{s:UC}
structure SetH(prog:UZ)(w:Vf)(b:Bool)(h:Heap)(a:I)(es:Array (Int×U))(ks:G (KD×I)):Prop where
 x:∃o ep t,h.get? a=M o/\o.ExactSet/\o.data=.set es ep t/\TT t es.size/\t.led=b/\t.mask<=8*es.size+8
 el:∀e∈es.toList,∃k c,(k,c)∈ks/\e.2=.ref c/\(fP prog w).is h k c
mutual
theorem A5{h h':Heap}{x:Uz}{b:Obj}(e:h.get? x=cL b)(g:∀vs n,b.data≠.seq vs n)(f:Heap.SameBut x h h'):∀(d:UB) (v:Ut) (as:bb Uz),kd d=Uv->abd h v d as->abd h' v d as
 |.none,_,_,_,r=>by cases r;exact .none
 |.int _,_,_,_,r=>by cases r;exact .int _ _
 |.str _,_,_,_,r=>by cases r;exact .str _ _
 |.tuple xs,_,_,k,r=>by
  cases r with
  | @tuple a o vs n _ _ h1 h2 h3 h4=>
   have i:a≠x:=by rintro rfl;rw[e]at h1;cases h1;exact g _ _ h3
   unfold kd at k;exact .tuple ((f.2 a i).trans h1) h2 h3 (qD e g f xs _ _ k h4)
 |.bool _,_,_,h,_|.list _,_,_,h,_|.dict _,_,_,h,_=>by simp[kd]at h
theorem qD{h h':Heap}{x:Uz}{a:Obj}(b:h.get? x=cL a)(f:∀vs n,a.data≠.seq vs n)(e:Heap.SameBut x h h'):∀(ds:bb UB) (vs:bb Ut) (as:bb Uz),kds ds=Uv->Zs h vs ds as->Zs h' vs ds as
 |[],_,_,_,r=>by cases r;exact .nil
 |d::ds,_,_,k,r=>by
  cases r with
  |cons i g=>unfold kds at k;rw[Uu]at k;exact .cons (A5 b f e d _ _ k.1 i) (qD b f e ds _ _ k.2 g)
end
end
end LD
namespace L2
open PySem PySem.Spec PyProof.Rows
variable{X:Cx}{a b:U4}{Y:bb U4}{T:Pos}{Q N:TE}
end L2
namespace CC
open PySem L2 L3 L10
def iX:U4->Bool
 |.BinOp .. |.UnaryOp .. |.IfExp .. |.ListComp .. |.Compare .. |.Call .. |.Constant .. |.Attribute .. |.Subscript .. |.Name .. |.List .. |.Tuple .. |.BoolOp .. |.JoinedStr .. |.Dict .. =>S
 |_=>R
def PU:U4->Bool
 |.BinOp .. |.Call .. |.Attribute .. |.Subscript .. |.Name .. =>S
 |_=>R
def Oa:U4->Bool
 |.ListComp .. =>S
 |_=>R
def RP:U4->Bool
 |.Constant .. |.Attribute .. |.Subscript .. |.Name .. =>S
 |_=>R
section
variable{e o a b:U4}{es:bb U4}{env:Env}{Y p:Pos}{n k:Nat}
def kZ(h:iX e=S):UW (e::es) env=(R,eval e env)::UW es env:=by ext e<;>first|rfl|ext h
def t7(h:iX e=S):yR e:=by ext e<;>first|(intro _ _;rfl)|ext h
def zW(h:iX e=S):∀x,foldedSetIterable e env x=pure x:=by ext e<;>first|(intro _;rfl)|ext h
def HG(h:PU e=S):∀whole:Sem U,isTrue e env whole=(do let v<-whole;standAt e.pos;holding [v] (truthy v)):=by ext e<;>first|(intro _;rfl)|ext h
def Aa{t}(h:(iX e&& !Oa e)=S):W0 e t n env=pure R:=by ext e<;>first|rfl|ext h
def Qj{f p}(h:iX e=S):W0 e (M (.Attribute o f p)) n env=pure R:=by ext e<;>first|rfl|ext h
def Kz(h:iX e=S):W0 e (M (.Subscript o a p)) n env=pure R:=by ext e<;>first|rfl|ext h
def gM{f:Str}(h:RP e=S):attributeBase e f env (eval e env)=eval e env:=by ext e<;>first|rfl|ext h
def Hs(h:iX e=S):OG e=R:=by ext e<;>first|rfl|ext h
def Im(h:PU e=S):swapsWithSole [.Tuple es k p] e n env=pure R:=by ext e<;>first|rfl|ext h
def Ax(h:PU e=S):swappedStores [.Tuple es k p] e env=pure P:=by ext e<;>first|rfl|ext h
def NN(h:es.all iX=S):((backTo Y (UW es env)).any λx=>x.1)=R:=by
 induction es with
 |nil=>rfl
 |cons e es d=>rw[XG,Uu]at h;rw[kZ h.1];show d h.2
def ME(h:es.all iX=S):((backTo Y (UW es env)).all λx=> !x.1)=S:=by
 induction es with
 |nil=>rfl
 |cons e es d=>rw[XG,Uu]at h;rw[kZ h.1];show d h.2
def d7(h:(e::es).all iX=S):UW (e::es) env=(R,eval e env)::UW es env:=by rw[XG,Uu]at h;show kZ h.1
def jr(h:(e::es).all iX=S):((backTo Y (UW es env)).any λx=>x.1)=R:=by rw[XG,Uu]at h;show NN h.2
def tE(h:es.all iX=S)(d:es.length<20):methodCallForm (es.length+([]:G Yu).length) (backTo Y (UW es env)) (backToKw Y (keywordEach [] env))=S:=by ext methodCallForm;rw[ME h,Ym];show(Uu _ _).mpr #[W,a4 ?_];show es.length+0+0<30;ext
def Rx{q}{m:Str}(h:RP o=S)(d:es.all iX=S)(g:es.length<20)(i:(p.endLine==q.line)=S):∃pl,eval (.Call (.Attribute o m p) es [] q) env=(do
   let C<-eval o env
   standAt p.atName
   let(f,first)<-holding [C] (getMethod C m pl)
   callWith q f first (backTo q (UW es env)) (backToKw q (keywordEach [] env))):=by
 show#[do return(<-importBound o env).getD S,?_];show(do
  let C<-attributeBase o m env (eval o env)
  standAt p.atName
  methodCall o m p q env C (es.length+([]:G Yu).length) (backTo q (UW es env)) (backToKw q (keywordEach [] env)))=_
 rw[gM h];unfold methodCall calleeOf methodCallPos;rw[tE d g,i];rfl
def P7{elt g sc x}(h1:env.scope.kind=.function)(f:env.kindOf x=M .local)(d:(p.line==Y.line)=S)(c:(sc.names.any λy=>y.1==x&&(y.2==.local||y.2==.cell))=R):W0 (.ListComp elt [g] sc Y) (M (.Name x p)) n env=pure S:=by show(pure _:Sem Bool)=_;rw[show env.blockKind=.function by ext Env.blockKind;rw[h1];rfl,f];show(pure (_&&(p.line==Y.line)&& !(sc.names.any λy=>y.1==x&&(y.2==.local||y.2==.cell))):Sem Bool)=_;rw[d,c];rfl
end
def a8{α:Type}{o:z α}{p:α->Bool}(h:o.any p=S):∃x,o=M x/\p x=S:=by
 cases o with
 |none=>ext h
 |some x=>show#[x,W,h]
def ra{α:Type}{P:α->Prop}{o:z α}(k:o.elim True P){x:α}(h:o=M x):P x:=by subst h;show k
def vN:U4->z (Str×Pos)
 |.Name x p=>M (x,p)
 |_=>P
def vC:U4->z Const
 |.Constant c _ _=>M c
 |_=>P
def P4:U4->z (U4×aba×U4)
 |.BinOp a o b _=>M (a,o,b)
 |_=>P
def RI:U4->z (U4×G ace×G U4)
 |.Compare a o b _=>M (a,o,b)
 |_=>P
def tG:U4->z (U4×U4×Pos)
 |.Subscript a b p=>M (a,b,p)
 |_=>P
def Sy:U4->z (z U4×z U4×z U4)
 |.Slice a b c _=>M (a,b,c)
 |_=>P
def EG:U4->z (G U4)
 |.Tuple es _ _=>M es
 |_=>P
def P9:U4->z (G U4)
 |.List es _=>M es
 |_=>P
def zh:U4->z (U4×G U4×G Yu×Pos)
 |.Call f es a p=>M (f,es,a,p)
 |_=>P
def Sd:U4->z (U4×Str×Pos)
 |.Attribute o x p=>M (o,x,p)
 |_=>P
def Tx:U4->z (U4×U4×U4)
 |.IfExp c a b _=>M (c,a,b)
 |_=>P
def SZ:U4->z (BoolOp×G U4×Pos)
 |.BoolOp o es p=>M (o,es,p)
 |_=>P
def RQ:U4->z (UnaryOp×U4)
 |.UnaryOp o a _=>M (o,a)
 |_=>P
def Tm:U4->z (U4×G XW×WA×Pos)
 |.ListComp e g s p=>M (e,g,s,p)
 |_=>P
def S3:U4->z (G (z U4)×G U4)
 |.Dict k v _=>M (k,v)
 |_=>P
section
variable{e:U4}
theorem rV(h:vN e=M x):e=.Name x.1 x.2:=ra (P:=λx=>e=.Name x.1 x.2) (by ext e<;>first|show trivial|rfl|show#[_,W]|show#[_,_,W]) h
theorem DQ(h:vC e=M x):∃k p,e=.Constant x k p:=ra (P:=λx=>∃k p,e=.Constant x k p) (by ext e<;>first|show trivial|rfl|show#[_,W]|show#[_,_,W]) h
theorem HP(h:P4 e=M x):∃p,e=.BinOp x.1 x.2.1 x.2.2 p:=ra (P:=λx=>∃p,e=.BinOp x.1 x.2.1 x.2.2 p) (by ext e<;>first|show trivial|rfl|show#[_,W]|show#[_,_,W]) h
theorem Jv(h:RI e=M x):∃p,e=.Compare x.1 x.2.1 x.2.2 p:=ra (P:=λx=>∃p,e=.Compare x.1 x.2.1 x.2.2 p) (by ext e<;>first|show trivial|rfl|show#[_,W]|show#[_,_,W]) h
theorem gR(h:tG e=M x):e=.Subscript x.1 x.2.1 x.2.2:=ra (P:=λx=>e=.Subscript x.1 x.2.1 x.2.2) (by ext e<;>first|show trivial|rfl|show#[_,W]|show#[_,_,W]) h
theorem F6(h:Sy e=M x):∃p,e=.Slice x.1 x.2.1 x.2.2 p:=ra (P:=λx=>∃p,e=.Slice x.1 x.2.1 x.2.2 p) (by ext e<;>first|show trivial|rfl|show#[_,W]|show#[_,_,W]) h
theorem sW(h:EG e=M x):∃k p,e=.Tuple x k p:=ra (P:=λx=>∃k p,e=.Tuple x k p) (by ext e<;>first|show trivial|rfl|show#[_,W]|show#[_,_,W]) h
theorem Hz(h:P9 e=M x):∃p,e=.List x p:=ra (P:=λx=>∃p,e=.List x p) (by ext e<;>first|show trivial|rfl|show#[_,W]|show#[_,_,W]) h
theorem qu(h:zh e=M x):e=.Call x.1 x.2.1 x.2.2.1 x.2.2.2:=ra (P:=λx=>e=.Call x.1 x.2.1 x.2.2.1 x.2.2.2) (by ext e<;>first|show trivial|rfl|show#[_,W]|show#[_,_,W]) h
theorem yn(h:Sd e=M x):e=.Attribute x.1 x.2.1 x.2.2:=ra (P:=λx=>e=.Attribute x.1 x.2.1 x.2.2) (by ext e<;>first|show trivial|rfl|show#[_,W]|show#[_,_,W]) h
theorem NO(h:Tx e=M x):∃p,e=.IfExp x.1 x.2.1 x.2.2 p:=ra (P:=λx=>∃p,e=.IfExp x.1 x.2.1 x.2.2 p) (by ext e<;>first|show trivial|rfl|show#[_,W]|show#[_,_,W]) h
theorem ED(h:SZ e=M x):e=.BoolOp x.1 x.2.1 x.2.2:=ra (P:=λx=>e=.BoolOp x.1 x.2.1 x.2.2) (by ext e<;>first|show trivial|rfl|show#[_,W]|show#[_,_,W]) h
theorem xw(h:RQ e=M x):∃p,e=.UnaryOp x.1 x.2 p:=ra (P:=λx=>∃p,e=.UnaryOp x.1 x.2 p) (by ext e<;>first|show trivial|rfl|show#[_,W]|show#[_,_,W]) h
theorem L8(h:Tm e=M x):e=.ListComp x.1 x.2.1 x.2.2.1 x.2.2.2:=ra (P:=λx=>e=.ListComp x.1 x.2.1 x.2.2.1 x.2.2.2) (by ext e<;>first|show trivial|rfl|show#[_,W]|show#[_,_,W]) h
theorem Ce(h:S3 e=M x):∃p,e=.Dict x.1 x.2 p:=ra (P:=λx=>∃p,e=.Dict x.1 x.2 p) (by ext e<;>first|show trivial|rfl|show#[_,W]|show#[_,_,W]) h
def za(e:U4):Bool:=(EG e).isSome
def uP(h:za e=S):∃l k p,e=.Tuple l k p:=by let(x,h):=V9.mp h;show#[x,sW h]
end
abbrev Fd:=UZ->Vf->lD->(Str->z U)->Heap->Prop
abbrev Xe(lv:Nat)(x:Str)(b:G Str)(n:Nat)(F:FN):Fd:=λP w K a base=>S4 P w K a base lv x b n F
abbrev fdS(lv:Nat)(x:Str)(b:G Str)(n:Nat)(F:fJ):Fd:=λP w K a base=>wb P w K a base lv x b (jR K n F)
abbrev fdM(b:Bool)(lv:Nat)(C x:Str)(c:G Str)(n:Nat)(F:fJ):Fd:=λP w K a base=>mZ P w K a base (if b then L4.kK P w else jY) lv C x c (jR K n F)
abbrev fdK(lv:Nat)(C:Str)(b:G Str)(n:Nat)(F:fJ):Fd:=λP w K a base=>v3 P w K a base jY lv C b (jR K n F)
structure Md where
 bl:G Str
 ex:G Str
 cs:G (Str×D)
 cl:G (Str×G Str)
structure Gm where
 M:Md
 N:G Str
 sc:G (Str×U0)
 lv:Nat
 rz:Bool
 fa:Bool
 fc:G Str
 top:Nat
abbrev RL:G U:=[.type "ValueError",.type "Exception",.type "BaseException",.type "object"]
structure aaV(K:lD)(mg:Str->z U)(M:Md):Prop where
 bl:∀x∈M.bl,mg x=P
 ex:∀x∈M.ex,∃C,U8 K UY x=cL (cL (.ref C))/\mg x=cL (.ref C)/\Xu K C RL "ValueError.__new__"=S
 cs:∀x d,M.cs.lookup x=cL d->∃v u,mg x=cL u/\RelV v u/\∀O H,DV O K H v d
 cl:∀C L,M.cl.lookup C=cL L->jX K C L
structure Ct(T:G Fd)(Γ:Gm)(X:Cx)(E:XK):Prop where
 n:X.N=Γ.N
 nd:X.N.Nodup
 sc:X.env.scope.names=Γ.sc
 kd:X.env.scope.kind=.function
 cm:X.calm=S
 rm:Wr Γ.lv X.A
 po:Γ.fa=S->aao (model X.prog X.w) X.A X.env X.xe
 px:Γ.rz=S->∃(N:G Str) (qual:Str) (scope:WA) (f:I) (cd:U) (A:Vb) (outer:G Env) (s0:UC) (H0:Hp),X=eP (L4.kK X.prog X.w) X.prog X.w X.K X.mg X.base N qual scope f cd A outer s0 H0 E
 fc:∀x∈Γ.fc,X.fn x=S
 md:aaV X.K X.mg Γ.M
 fs:∀i fd,i<Γ.top->T[i]?=M fd->fd X.prog X.w X.K X.mg X.base
def Qg(s:G (Str×U0))(x:Str):Bool:=s.lookup x==M .local||s.lookup x==M .cell||s.lookup x==M .free
def KL(x:Str):Bool:= !(x==("__debug__":Str))&& !(x==("__classdict__":Str))&& !(x==("__name__":Str))
def Pw(a:Gm)(x:Str):Bool:=a.sc.lookup x==M .globalImplicit&&KL x
def blt(a:Gm)(x:Str):Bool:=Pw a x&&a.M.bl.contains x
def dW{a:z U0}{b:U0}(h:(a==M b)=S):a=M b:=by
 cases a with
 |none=>ext h
 |some a=>ext a<;>ext b<;>first|rfl|ext h
section
variable{T:bb Fd}{Z:Gm}{X:Cx}{E:XK}{x:Str}{i:Nat}
def tK(h:KL x=S):(x==("__debug__":Str))=R/\(x==("__classdict__":Str))=R/\x≠("__name__":Str):=by unfold KL at h;simp only[Uu,Xo]at h;show#[h.1.1,h.1.2,λe=>by rw[e,eg]at h;cases h.2]
def mH(c:Ct T Z X E)(h:Pw Z x=S):Gl X x/\(x==("__debug__":Str))=R/\x≠("__name__":Str):=by unfold Pw at h;rw[Uu]at h;show#[?_,(tK h.2).1,(tK h.2).2.2];show X.env.scope.names.lookup x=_;rw[c.sc];show dW h.1
def mf(c:Ct T Z X E)(h:blt Z x=S):Gl X x/\X.mg x=P/\(x==("__debug__":Str))=R/\x≠("__name__":Str):=by unfold blt at h;rw[Uu]at h;let(b,a):=mH c h.1;show#[b,c.md.bl x (YL.mp h.2),a]
def Db(c:Ct T Z X E)(h:Z.rz=S):dr (L4.kK X.prog X.w) X E:=by let(N,d,a,f,j,A,b,g,l,e):=c.px h;rw[e];show L4.FW
end
abbrev Jd(a:Type):=lD->XK->a->Prop
def eo(g:FE):Jd TE:=λK E t=>EO K E t g
def es(g:cR):Jd TE:=λK E t=>ce K E t g
def ao(g:FA):Jd TA:=λK E t=>AO K E t g
def as(g:u6):Jd TA:=λK E t=>uC K E t g
def nQ(g:FT):Jd TT:=λK E t=>TTO K E t g
def ki(g:ri):Jd TT:=λK E t=>uD K E t g
def oo(g:FO):Jd TO:=λK E t=>Ro K E t g
def go(g:FG):Jd TG:=λK E t=>GO K E t g
def BU(g:wY):Jd TG:=λK E t=>Lz K E t g
def gs(g:PL):Jd xK:=λK E t=>Qm K E t g
def Og(g:BC):Jd xK:=λK E t=>Eu K E t g
def io(g:FI):Jd TI:=λK E t=>L3.IO K E t g
def Qi(g:FI):Jd TI:=λK E t=>SC K E t g
def KZ(g:N3):Jd TI:=λK E t=>QK K E t g
def so(g:FS):Jd TS:=λK E t=>SO K E t g
def WJ(g:dH):Jd TS:=λK E t=>mX K E t g
class CK (T:G Fd) {α τ:Type} (P:Cx->α->τ->Prop) (J:Jd τ) where
 chk:Gm->α->Bool
 ok:∀{Γ X E a},Ct T Γ X E->chk Γ a=S->∃t,P X a t/\J X.K E t
def Tz(X:Cx)(e:U4)(t:TG):Prop:=PG X e t/\∀r,assignEach (e::r) X.env=(R,assign e X.env)::assignEach r X.env
def Ub(X:Cx)(r:G U4)(t:xK):Prop:=QL X r t/\(assignEach r X.env).length=r.length/\List.findIdx? (λx=>x.1) (assignEach r X.env)=P
def Uf(X:Cx)(p:U4×U4)(t:TI):Prop:=PI X p.1 p.2 t/\iX p.2=S
abbrev CE(T:G Fd)(J:Jd TE):=CK T PE J
abbrev CA(T:G Fd)(J:Jd TA):=CK T PA J
abbrev CT(T:G Fd)(J:Jd TT):=CK T PT J
abbrev CQ(T:G Fd)(J:Jd TT):=CK T xo J
abbrev CO(T:G Fd)(J:Jd TO):=CK T PO J
abbrev CG(T:G Fd)(J:Jd TG):=CK T Tz J
abbrev CH(T:G Fd)(J:Jd xK):=CK T Ub J
abbrev CI(T:G Fd)(J:Jd TI):=CK T Uf J
abbrev CU(T:G Fd)(J:Jd TS):=CK T PS J
abbrev CS(T:G Fd)(J:Jd TS):=CK T Z2 J
def uX{T:G Fd}{α a:Type}{P:Cx->α->a->Prop}{A J:Jd a}[x:CK T P A](k:∀{K E t},A K E t->J K E t):CK T P J:=#[x.chk,λc h=>let#[t,p,q]:=x.ok c h;#[t,p,k q]]
end CC
set_option warn.classDefReducibility false
namespace CC
open PySem L2 L3 L10
variable{T:bb Fd}
def LW(i:Nat)(a:Gm)(e:U4):Bool:=(vN e).any λx=>a.N[i]? ==M x.1&&Qg a.sc x.1&&KL x.1
def Dj{a:Gm}{X:Cx}{E:XK}{i:Nat}{e:U4}(c:Ct T a X E)(h:LW i a e=S):PE X e (qK i):=by
 let(x,q,h):=a8 h;rw[rV q];unfold Qg at h;simp only[Uu,VV]at h;show Gj (by rw[c.n];show beq_iff_eq.mp h.1.1) ?_ (tK h.2).1 (tK h.2).2.1;ext QH;rw[c.sc];rcases h.1.2 with(z|z)|z
 .show .inl (dW z)
 .show .inr (.inl (dW z))
 .show .inr (.inr (dW z))
def KS{J:Jd TE}(i:Nat)(k:∀{K E},J K E (qK i)):CE T J:=#[LW i,λc h=>#[_,Dj c h,k]]
noncomputable instance:CE T (eo (aa i)):=KS i Od
noncomputable instance:CE T (es (ar i)):=KS i tS
def dq:Nat->D->D->Bool
 |0,_,_=>R
 |_+1,.int a,.int b=>a==b
 |_+1,.str a,.str b=>a==b
 |_+1,.none,.none=>S
 |_+1,.bool a,.bool b=>a==b
 |n+1,.tuple a,.tuple b=>a.length==b.length&&(a.zip b).all λp=>dq n p.1 p.2
 |n+1,.list a,.list b=>a.length==b.length&&(a.zip b).all λp=>dq n p.1 p.2
 |_,_,_=>R
def MA{f:D->D->Bool}(i:∀a b,f a b=S->a=b):∀{a b:G D},(a.length==b.length&&(a.zip b).all λp=>f p.1 p.2)=S->a=b:=by
 intro a
 induction a with
 |nil=>
  intro b h;cases b with
  |nil=>rfl
  |cons y s=>ext h
 |cons x r g=>
  intro b h;cases b with
  |nil=>ext h
  |cons y s=>rw[Uu]at h;let(e,d):=h;rw[List.zip_cons_cons,XG,Uu]at d;let e:=eq_of_beq e;rw[i x y d.1,g (b:=s) (by rw[Uu];show#[beq_iff_eq.mpr (by simpa using e),d.2])]
def zK:∀(n:Nat) (a b:D),dq n a b=S->a=b:=by
 intro n
 induction n with
 |zero=>intro a b h;ext h
 |succ n d=>intro a b h;ext a<;>ext b<;>first|show a7 h UQ|rfl|show ef _ (eq_of_beq h)|show ef _ (MA d h)
def cD:Const->z D
 |.int i=>M (.int i)
 |.str x=>M (.str x)
 |.bool b=>M (.bool b)
 |.none=>M .none
 |_=>P
noncomputable instance{d:D}:CE T (eo (pC d)) where
 chk Γ e:=(((vC e).bind cD).any λa=>dq 9 a d)||((vN e).any λx=>Pw Γ x.1&&((Γ.M.cs.lookup x.1).any λa=>dq 9 a d))
 ok c h:=by
  rcases(VV _ _).mp h with h|h
  .let(a,q,h):=a8 h
   obtain rfl:=zK _ _ _ h;let(k,f,b):=Vu.mp q;let(_,_,rfl):=DQ f;ext k<;>ext b
   .show#[_,xp,MZ]
   .show#[_,Rj,Rt]
   .show#[_,xX,O9]
   .show#[_,Mh,MB]
  .let(x,q,h):=a8 h;rw[Uu]at h;let(a,b,g):=a8 h.2;obtain rfl:=zK _ _ _ g;let(j,i,_):=mH c h.1;let(v,u,e1,e2,e3):=c.md.cs _ _ b;rw[rV q];show#[_,JL j e1 e2 i,Ay e3]
class BOp (f:D->D->z RV) where
 sp:U4->z (U4×U4)
 ok:∀{X:Cx} {e p ta tb},sp e=M p->X.A.units+65<cLine->iX p.2=S->PE X p.1 ta->PE X p.2 tb->∃r,PE X e (GI r ta tb)/\iZ X.K r f
def GC{f:D->D->bg RV}(op:aba)(d:∀{X:Cx},∃r,OpR X (V8 op) r/\iZ X.K r f):BOp f where
 sp e:=(P4 e).bind λx=>if x.2.1=op then M (x.1,x.2.2)else P
 ok h hu _ ha hb:=by
  let(x,q,a):=Vu.mp h;let(_,rfl):=HP q;split at a
  .rename_i z;ext a;let(r,b,g):=d;rw[<-z]at b;show#[r,P1 b ha hb,g]
  .ext a
def Tt{f:D->D->z RV}(k:∀{K},iZ K (Q2 K) f):BOp f where
 sp e:=(tG e).map λx=>(x.1,x.2.1)
 ok h _ hp ha hb:=by let(x,q,a):=Yq.mp h;ext a;rw[gR q];show#[_,LN Dt ha hb (t7 hp),k]
class COp (f:D->D->z RV) where
 op:ace
 ok:∀{X:Cx},X.A.units+65<cLine->∃r,OpR X (We op) r/\iZ X.K r f
def Qo(op:ace)(e:U4):z (U4×U4):=(RI e).bind λx=>match x.2.2 with
 |[b]=>if x.2.1=[op]&& !behindInMarks op b then M (x.1,b)else P
 |_=>P
def tV{op:ace}{e:U4}{p:U4×U4}(h:Qo op e=M p):∃pos,e=.Compare p.1 [op] [p.2] pos/\behindInMarks op p.2=R:=by
 let((a,o,b),q,d):=Vu.mp h;let(_,rfl):=Jv q;dsimp only at d;split at d
 .split at d
  .rename_i z;ext d;rw[Uu,decide_eq_true_eq,Xo]at z;show#[_,by rw[z.1],z.2]
  .ext d
 .ext d
noncomputable instance[o:COp f]:BOp f where
 sp:=Qo o.op
 ok h hu _ ha hb:=by let(p,rfl,q):=tV h;let(r,b,a):=o.ok hu;show#[r,Jh b ha hb q,a]
noncomputable instance:BOp aO:=Tt B4
noncomputable instance:BOp L3.eO:=Tt Jx
noncomputable instance:COp cj:=#[.Eq,λh=>#[_,MG (),NP]]
noncomputable instance:COp kQ:=#[.NotEq,λh=>#[_,NW (),Nh]]
noncomputable instance:COp R9:=#[.LtE,λ_=>#[_,QQ,M9]]
noncomputable instance:COp GD:=#[.Lt,λ_=>#[_,QJ,MQ]]
noncomputable instance:COp GB:=#[.Gt,λ_=>#[_,Qv,Pd]]
noncomputable instance:COp QW:=#[.GtE,λ_=>#[_,Rm,OB]]
noncomputable instance:COp GJ:=#[.In,λh=>#[_,NV h,Mz]]
noncomputable instance:COp uN:=#[.NotIn,λh=>#[_,Kd h,IC]]
noncomputable instance:COp lZ:=#[.Is,λ_=>#[_,NL,G1]]
noncomputable instance:COp ko:=#[.IsNot,λ_=>#[_,Jc,HF]]
noncomputable instance:BOp cz:=GC .Add #[_,yI,zO]
noncomputable instance:BOp mw:=GC .Sub #[_,OP,Hg]
noncomputable instance:BOp l6:=GC .Mod #[_,N0,Jb]
noncomputable instance:BOp xj:=GC .FloorDiv #[_,FU,IB]
noncomputable instance:BOp gp:=GC .Mult #[_,HK,B6]
noncomputable instance:BOp wB:=GC .BitAnd #[_,MU,JI]
noncomputable instance:BOp J8:=GC .LShift #[_,M7,Ji]
noncomputable instance:BOp FD:=GC .RShift #[_,Oz,JX]
section
variable{A B C J:Jd TE}{U Z:Jd TA}{Q R S:Jd TT}
def Re(A B:Jd TE){f:D->D->z RV}[o:BOp f][x:CE T A][y:CE T B](k:∀{K E r m l},iZ K r f->A K E m->B K E l->J K E (GI r m l)):CE T J where
 chk Γ e:=(o.sp e).any λp=>iX p.2&&x.chk Γ p.1&&y.chk Γ p.2
 ok c h:=by let(p,q,h):=a8 h;simp only[Uu]at h;let(m,j,i):=x.ok c h.1.2;let(l,g,d):=y.ok c h.2;let(r,b,a):=o.ok q (ze c.rm) h.1.1 j g;show#[_,b,k a i d]
noncomputable instance[BOp f][CE T (eo a)][CE T (eo b)]:CE T (eo (aA f a b)):=Re (eo a) (eo b) Lw
noncomputable instance[BOp f][CE T (es a)][CE T (es b)]:CE T (es (jd f a b)):=Re (es a) (es b) Fa
noncomputable instance[CE T (es a)][CE T (es b)]:CE T (es (L10.eO a b)) where
 chk Γ e:=(tG e).any λp=>iX p.2.1&&CK.chk T PE (es a) Γ p.1&&CK.chk T PE (es b) Γ p.2.1
 ok c h:=by let(p,q,h):=a8 h;simp only[Uu]at h;let(l,i,g):=CK.ok c h.1.2;let(j,f,d):=CK.ok c h.2;rw[gR q];show#[_,LN Dt i f (t7 h.1.1),OZ g d]
def KB(k:∀{K E},Z K E jf):CA T Z:=#[λ_ l=>l.isEmpty,λ_ h=>by rw[Vs.mp h];show#[_,km,k]]
def Ds(A:Jd TE)(U:Jd TA)[x:CE T A][y:CA T U](k:∀{K E i g},A K E i->U K E g->Z K E (fZ i g)):CA T Z where
 chk Γ l:=match l with
  |e::r=>iX e&&x.chk Γ e&&y.chk Γ r
  |[]=>Ux
 ok c h:=by
  split at h
  .simp only[Uu]at h;let(i,f,d):=x.ok c h.1.2;let(g,b,a):=y.ok c h.2;show#[_,fu f b (kZ h.1.1),k d a]
  .ext h
noncomputable instance:CA T (ao aq):=KB Op
noncomputable instance:CA T (as aG):=KB sI
noncomputable instance[CE T (eo a)][CA T (ao b)]:CA T (ao (ae a b)):=Ds (eo a) (ao b) Iv
noncomputable instance[CE T (es a)][CA T (as b)]:CA T (as (aj a b)):=Ds (es a) (as b) kX
def KI(U:Jd TA)[x:CA T U](k:∀{K E t},U K E t->J K E (IG t)):CE T J where
 chk Γ e:=(EG e).any (x.chk Γ)
 ok c h:=by let(l,q,h):=a8 h;let(_,_,rfl):=sW q;let(t,b,a):=x.ok c h;show#[_,N4 b,k a]
def QZ(U:Jd TA)[x:CA T U](k:∀{K E t},U K E t->J K E (N9 t)):CE T J where
 chk Γ e:=(P9 e).any (x.chk Γ)
 ok c h:=by let(l,q,h):=a8 h;let(_,rfl):=Hz q;let(t,b,a):=x.ok c h;show#[_,Mj b,k a]
noncomputable instance[CA T (ao a)]:CE T (eo (bj a)):=KI (ao a) Oy
noncomputable instance[CA T (as a)]:CE T (es (hV a)):=KI (as a) HJ
noncomputable instance[CA T (ao a)]:CE T (eo (cC a)):=QZ (ao a) Ps
noncomputable instance[CE T (eo a)]:CE T (es (ag a)):=uX (A:=eo a) wu
noncomputable instance[CE T (es a)]:CE T (es (jc a)):=uX (A:=es a) yO
class Fn (T:G Fd) {φ:Type} (k:Nat->Str->G Str->Nat->φ->Fd) (F:φ) (n:Nat) where
 i:Nat
 lv:Nat
 x:Str
 ps:G Str
 h:T[i]?=M (k lv x ps n F)
def PR(b:Gm)(i lv:Nat)(x:Str)(e:U4):bg (U4×G U4×Pos×Pos):=(zh e).bind λy=>match y.2.1 with
 |a::r=>(vN y.1).bind λz=>if z.1==x&&Pw b x&&decide (i<b.top)&&decide (lv<=b.lv)&&(a::r).all iX&&y.2.2.1.isEmpty then M (a,r,z.2,y.2.2.2)else P
 |[]=>P
def qS{c:Gm}{i lv:Nat}{x:Str}{e:U4}{y:U4×G U4×Pos×Pos}(h:PR c i lv x e=M y):e=.Call (.Name x y.2.2.1) (y.1::y.2.1) [] y.2.2.2/\Pw c x=Uv/\i<c.top/\lv<=c.lv/\(y.1::y.2.1).all iX=Uv:=by
 let((f,l,n,p),q,a):=Vu.mp h;rw[qu q];dsimp only at a;split at a
 .let(z,b,d):=Vu.mp a
  obtain rfl:=rV b;split at d
  .rename_i z;ext d;simp only[Uu,decide_eq_true_eq,beq_iff_eq,Vs]at z;let(((((rfl,b),m),j),g),rfl):=z;show#[W,b,m,j,g]
  .ext d
 .ext a
def y4(U:Jd TA){i:Type}(D:Nat->Str->G Str->Nat->i->Fd)(F:i)(n:Nat)[o:Fn T D F n][u:CA T U](v:Bool)(k:∀{X:Cx} {E lv x L t e r p q},D lv x L n F X.prog X.w X.K X.mg X.base->(v=Uv->dr (L4.kK X.prog X.w) X E)->Wr lv X.A->Gl X x->(x==("__debug__":Str))=Ux->(e::r).all iX=Uv->PA X (e::r) t->U X.K E t->∃s,PE X (.Call (.Name x p) (e::r) [] q) s/\J X.K E s):CE T J where
 chk Γ e:=(!v||Γ.rz)&&(PR Γ o.i o.lv o.x e).any λy=>u.chk Γ (y.1::y.2.1)
 ok c h:=by rw[Uu]at h;let(y,q,f):=a8 h.2;let(rfl,g,N,b,a):=qS q;let(m,l,_):=mH c g;let(t,j,d):=u.ok c f;show k (c.fs _ _ N o.h) (λz=>Db c (by let:=h.1;rw[z]at this;show this)) (c.rm.mono b) m l a j d
noncomputable instance[Fn T Xe F n][CA T (ao a)]:CE T (eo (b6 F n a)):=y4 (ao a) Xe F n Ux λf _ r g d p e b=>#[_,t9 f r e (UG _) g d (d7 p) (jr p),MY b]
noncomputable instance[Fn T Xe F n][CA T (as a)]:CE T (es (gX F n a)):=y4 (as a) Xe F n Ux λf _ r g d p e b=>#[_,t9 f r e (UG _) g d (d7 p) (jr p),Ju b]
noncomputable instance[Fn T fdS F n][CA T (as a)]:CE T (es (jB F n a)):=y4 (as a) fdS F n Ux λf _ r g d p e b=>#[_,t9 f r e (UG _) g d (d7 p) (jr p),Be b]
noncomputable instance[Fn T fdS F n][CA T (as a)]:CE T (es (jt F n a)):=y4 (as a) fdS F n Ux λf _ r g d p e b=>#[_,t9 f r e (UG _) g d (d7 p) (jr p),Bo b]
class CB (f:G D->z RV) where
 x:Str
 v:Ut
 b:VF x=M v
 y:(∃id,v=.builtin id)\/∃ty,v=.type ty
 ok:∀{X:Cx},X.calm=Uv->∃r,W3 X v r/\AW X.K r f
def EX(a:Gm)(x:Str)(e:U4):z (U4×G U4×Pos×Pos):=if blt a x then PR {a with top:=1} 0 0 x e else P
def kj{c:Gm}{x:Str}{e:U4}{y:U4×G U4×Pos×Pos}(h:EX c x e=M y):e=.Call (.Name x y.2.2.1) (y.1::y.2.1) [] y.2.2.2/\blt c x=Uv/\(y.1::y.2.1).all iX=Uv:=by
 unfold EX at h;split at h
 .rename_i z;let(b,_,_,_,a):=qS h;show#[b,z,a]
 .ext h
def xH{m:Gm}{X:Cx}{E:XK}{x:Str}{v:Ut}{r:G V->Hp->VK->Prop}{e:U4}{l:G U4}{p q:Pos}{t:TA}(c:Ct T m X E)(j:blt m x=Uv)(b:VF x=M v)(y:(∃id,v=.builtin id)\/∃ty,v=.type ty)(k:W3 X v r)(a:(e::l).all iX=Uv)(h:PA X (e::l) t):PE X (.Call (.Name x p) (e::l) [] q) (Ew r t):=by
 let(i,f,g,d):=mf c j;rcases y with⟨id,rfl⟩|⟨id,rfl⟩
 .show Ch k i f b h d g (d7 a) (jr a)
 .show Bz k i f b h d g (d7 a) (jr a)
def QI(U:Jd TA)(f:G D->z RV)[o:CB f][u:CA T U](k:∀{K E r t},AW K r f->U K E t->J K E (Ew r t)):CE T J where
 chk Γ e:=(EX Γ o.x e).any λy=>u.chk Γ (y.1::y.2.1)
 ok c h:=by let(y,q,i):=a8 h;let(rfl,g,a):=kj q;let(t,j,d):=u.ok c i;let(r,k1,k2):=o.ok c.cm;show#[_,xH c g o.b o.y k1 a j,k k2 d]
noncomputable instance[CB f][CA T (ao a)]:CE T (eo (fY f a)):=QI (ao a) f Lp
noncomputable instance[CB f][CA T (as a)]:CE T (es (xE f a)):=QI (as a) f On
noncomputable instance:CB cI:=#["len",_,Qb,.inl #[_,W],λ_=>#[_,De,Mr]]
noncomputable instance:CB nF:=#["tuple",_,JM,.inr #[_,W],λ_=>#[_,rh,D7]]
noncomputable instance:CB vX:=#["all",_,RN,.inl #[_,W],λh=>#[_,F0 h,Pp]]
noncomputable instance:CB rc:=#["list",_,yu,.inr #[_,W],λ_=>#[_,sE,HB]]
noncomputable instance:CB L9.fC:=#["sorted",_,vW,.inl #[_,W],λ_=>#[_,L9.ud,L9.wW]]
noncomputable instance:CB v4:=#["max",_,Lh,.inl #[_,W],λh=>#[_,Bv h,JJ]]
def Th(a:Gm)(x y:Str)(i:Int)(e:U4):bg U4:=(zh e).bind λc=>match c.2.1,c.2.2.1 with
 |[l],[#[M w,v,_]]=>if(vN c.1).any (λz=>z.1==x)&&blt a x&&w==y&&((vC v).bind cD).any (λz=>dq 2 z (.int i))&&iX l then M l else P
 |_,_=>P
def OO{k:Gm}{x y:Str}{i:Int}{e l:U4}(h:Th k x y i e=M l):(∃p s L D j,e=.Call (.Name x p) [l] [#[M y,.Constant (.int i) j s,L]] D)/\blt k x=Uv/\iX l=Uv:=by
 let((f,a,G,p),q,b):=Vu.mp h;rw[qu q];dsimp only at b;split at b
 .split at b
  .rename_i z;ext b;simp only[Uu,beq_iff_eq]at z;let((((r,o),rfl),m),g):=z;let(n,F,E):=a8 r;let(d,w,v):=a8 m;let(c,u,t):=Vu.mp w;obtain rfl:=zK _ _ _ v;let(j,s,rfl):=DQ u;ext c<;>ext t;rw[rV F,beq_iff_eq.mp E];show#[#[_,_,_,_,_,W],o,g]
  .ext b
 .ext b
noncomputable instance[u:CA T (ao a)]:CE T (eo (fY (L10.Ap i) a)) where
 chk Γ e:=(Th Γ "max" "default" i e).any λl=>u.chk Γ [l]
 ok c h:=by let(l,q,j):=a8 h;let((_,_,_,_,_,rfl),g,b):=OO q;let(n,m,_):=mf c g;let(t,f,d):=u.ok c j;show#[_,L10.Kh c.cm n m f (Hs b),Lp L10.GN d]
def Qe(e:U4):Bool:=(RQ e).any λy=>(match y.1 with|.USub=>Uv|_=>Ux)&&((vC y.2).bind cD).any λd=>dq 2 d (.int 1)
def Io{e:U4}(h:Qe e=Uv):∃k p q,e=.UnaryOp .USub (.Constant (.int 1) k p) q:=by let((o,e),q,b):=a8 h;let(_,rfl):=xw q;rw[Uu]at b;let(d,l,i):=a8 b.2;let(c,g,f):=Vu.mp l;obtain rfl:=zK _ _ _ i;let(j,m,a):=DQ g;let a:e=_:=a;ext c<;>ext f;ext o<;>first|show#[_,_,_,by rw[a]]|cases b.1
noncomputable instance[x:CE T (eo a)]:CE T (eo (Px L9.Kb a)) where
 chk Γ e:=(tG e).any λy=>(Sy y.2.1).any λz=>z.1.isNone&&z.2.1.isNone&&z.2.2.any Qe&&x.chk Γ y.1
 ok c h:=by let((e,s,p),q,u):=a8 h;rw[gR q];let((w,v,g),i,f):=a8 u;let(_,d):=F6 i;let d:s=_:=d;subst d;simp only[Uu,Wt]at f;let(((rfl,rfl),r),o):=f;let(m,b,n):=a8 r;let b:g=_:=b;subst b;let(_,_,_,rfl):=Io n;let(t,l,j):=x.ok c o;show#[_,O0 l (Aj (QF Mm xX)),L9.Mv j]
noncomputable instance:CO T (oo pK):=#[λ_ e=>e.isNone,λ_ h=>by rw[Wt.mp h];show#[_,He,Et]]
noncomputable instance[x:CE T (eo a)]:CO T (oo (nu a)) where
 chk Γ e:=e.any (x.chk Γ)
 ok c h:=by let(e,q,f):=a8 h;subst q;let(t,d,b):=x.ok c f;show#[_,Aj d,Fr b]
class SOp (f:D->z Int->z Int->z RV) where
 ok:∀{X:Cx},∃r,MK X r/\R8 X.K r f
noncomputable instance:SOp ML:=#[#[_,C4,tt]]
noncomputable instance:SOp Si:=#[#[_,GM,RA]]
noncomputable instance[o:SOp f][x:CE T (eo a)][m:CO T (oo l)][n:CO T (oo u)]:CE T (eo (Lr f a l u)) where
 chk Γ e:=(tG e).any λy=>(Sy y.2.1).any λz=>z.2.2.isNone&&x.chk Γ y.1&&m.chk Γ z.1&&n.chk Γ z.2.1
 ok c h:=by let((e,s,p),q,w):=a8 h;rw[gR q];let((G,F,E),g,d):=a8 w;let(_,b):=F6 g;let b:s=_:=b;subst b;simp only[Uu,Wt]at d;let(((rfl,v),j),i):=d;let(t,k1,k2):=x.ok c v;let(I,k3,k4):=m.ok c j;let(H,k5,k6):=n.ok c i;let(r,k7,k8):=o.ok;show#[_,Eb k7 k1 k3 k5,PY k8 k2 k4 k6]
def RE(op:BoolOp)(A B:Jd TE)[x:CE T A][y:CE T B]{f:TE->TE->TE}(p:∀{X:Cx} {a b pos t s},PE X a t->PE X (.BoolOp op [b] pos) s->PE X (.BoolOp op [a,b] pos) (f t s))(k:∀{K E t s},A K E t->B K E s->J K E (f t s)):CE T J where
 chk Γ e:=(SZ e).any λz=>decide (z.1=op)&&match z.2.1 with
  |[l,r]=>x.chk Γ l&&y.chk Γ r
  |_=>Ux
 ok c h:=by
  let((o,l,p),q,g):=a8 h;rw[ED q];simp only[Uu,decide_eq_true_eq]at g;let(rfl,d):=g;split at d
  .rw[Uu]at d;let(t,n,m):=x.ok c d.1;let(s,j,i):=y.ok c d.2;show#[_,p n (LU j),k m i]
  .ext d
noncomputable instance[CE T (eo a)][CE T (eo b)]:CE T (eo (yB a b)):=RE .And (eo a) (eo b) BX Om
noncomputable instance[CE T (es a)][CE T (es b)]:CE T (es (xB a b)):=RE .And (es a) (es b) BX Ii
def Sw(Q:Jd TT)(A B:Jd TE)[m:CT T Q][x:CE T A][y:CE T B](k:∀{K E t o n},Q K E t->A K E o->B K E n->J K E (Sj t o n)):CE T J where
 chk Γ e:=(Tx e).any λw=>m.chk Γ w.1&&x.chk Γ w.2.1&&y.chk Γ w.2.2
 ok c h:=by let(w,q,a):=a8 h;let(_,rfl):=NO q;simp only[Uu]at a;let(l,d,b):=m.ok c a.1.1;let(o,j,i):=x.ok c a.1.2;let(n,g,f):=y.ok c a.2;show#[_,DB d j g,k b i f]
noncomputable instance[CT T (ki q)][CE T (es a)][CE T (es b)]:CE T (es (K6 q a b)):=Sw (ki q) (es a) (es b) Pi
def Td(A:Jd TE)[x:CE T A](k:∀{K E t},A K E t->Q K E (tB t)):CT T Q where
 chk Γ e:=PU e&&x.chk Γ e
 ok c h:=by rw[Uu]at h;let(t,b,a):=x.ok c h.2;show#[_,Nt b (HG h.1),k a]
def KH(A B:Jd TE){f:D->D->z RV}[o:COp f][x:CE T A][y:CE T B](k:∀{K E r s n},iZ K r f->A K E s->B K E n->Q K E (zn (GI r s n))):CT T Q where
 chk Γ e:=(Qo o.op e).any λp=>x.chk Γ p.1&&y.chk Γ p.2
 ok c h:=by let(p,q,a):=a8 h;rw[Uu]at a;let(s,m,l):=x.ok c a.1;let(n,j,i):=y.ok c a.2;let(_,rfl,b):=tV q;let(r,g,d):=o.ok (ze c.rm);show#[_,II g m j b,k d l i]
noncomputable instance[CE T (eo a)]:CT T (nQ (aB a)):=Td (eo a) RM
noncomputable instance[CE T (es a)]:CT T (ki (bc a)):=Td (es a) Co
noncomputable instance[COp f][CE T (eo a)][CE T (eo b)]:CT T (nQ (aB (aA f a b))):=KH (eo a) (eo b) λg e d=>lK (Lw g e d)
noncomputable instance[COp f][CE T (es a)][CE T (es b)]:CT T (ki (bc (jd f a b))):=KH (es a) (es b) λg e d=>qz (Fa g e d)
def P3(R:Jd TT)[f:CT T R](k:∀{K E t},R K E t->Q K E (Oc t)):CT T Q where
 chk Γ e:=(RQ e).any λy=>(match y.1 with|.Not=>Uv|_=>Ux)&&f.chk Γ y.2
 ok c h:=by let((o,e),q,a):=a8 h;let(_,rfl):=xw q;rw[Uu]at a;let(t,d,b):=f.ok c a.2;ext o<;>first|show#[_,MR d,k b]|cases a.1
theorem Rh{X:Cx}{op:BoolOp}{b:G U4}{a:Pos}{t:TT}(h:PT X (.BoolOp op b a) t):PW X (.BoolOp op b a) t:=λ_=>h
def IU(op:BoolOp)(R S:Jd TT)[L:CT T R][v:CT T S]{f:TT->TT->TT}(G:∀{X:Cx} {a pos t},PT X a t->PW X (.BoolOp op [a] pos) t)(p:∀{X:Cx} {a b r pos D x},PT X a D->PW X (.BoolOp op (b::r) pos) x->PW X (.BoolOp op (a::b::r) pos) (f D x))(k:∀{K E D x},R K E D->S K E x->Q K E (f D x)):CT T Q where
 chk Γ e:=(SZ e).any λy=>decide (y.1=op)&&match y.2.1 with
  |[l,m]=>L.chk Γ l&&v.chk Γ m
  |l::m::n::s=>L.chk Γ l&&v.chk Γ (.BoolOp op (m::n::s) y.2.2)
  |_=>Ux
 ok c h:=by
  let((o,l,w),q,F):=a8 h;rw[ED q];simp only[Uu,decide_eq_true_eq]at F;let(rfl,d):=F;split at d
  .rw[Uu]at d;let(D,u,j):=L.ok c d.1;let(x,i,g):=v.ok c d.2;show#[_,(p u (G i)).pt,k j g]
  .rw[Uu]at d;let(D,u,j):=L.ok c d.1;let(x,i,g):=v.ok c d.2;show#[_,(p u (Rh i)).pt,k j g]
  .ext d
noncomputable instance[CT T (ki q)]:CT T (ki (L10.sD q)):=P3 (ki q) Jr
noncomputable instance[CT T (nQ q)][CT T (nQ r)]:CT T (nQ (qB q r)):=IU .And (nQ q) (nQ r) yL CD GY
noncomputable instance[CT T (nQ q)][CT T (nQ r)]:CT T (nQ (GK q r)):=IU .Or (nQ q) (nQ r) Gg KR Ox
noncomputable instance[CT T (ki q)][CT T (ki r)]:CT T (ki (jW q r)):=IU .And (ki q) (ki r) yL CD IH
noncomputable instance[CT T (ki q)][CT T (ki r)]:CT T (ki (BT q r)):=IU .Or (ki q) (ki r) Gg KR Pm
noncomputable instance[CT T (nQ q)]:CT T (ki (bq q)):=uX (A:=nQ q) E4
end
end CC
set_option warn.classDefReducibility false
namespace CC
open PySem L2 L3 L10
variable{T:bb Fd}{A B C J:Jd TE}{U Z:Jd TA}
def P2(x:Str)(e:U4):bg (U4×G U4×Pos×Pos):=(zh e).bind λy=>(Sd y.1).bind λz=>if z.2.1==x&&RP z.1&&z.2.2.endLine==y.2.2.2.line&&y.2.1.all iX&&decide (y.2.1.length<20)&&y.2.2.1.isEmpty then M (z.1,y.2.1,z.2.2,y.2.2.2)else P
def t8{x:Str}{e:U4}{y:U4×G U4×Pos×Pos}(h:P2 x e=M y):e=.Call (.Attribute y.1 x y.2.2.1) y.2.1 [] y.2.2.2/\RP y.1=S/\(y.2.2.1.endLine==y.2.2.2.line)=S/\y.2.1.all iX=S/\y.2.1.length<20:=by
 let((f,l,u,p),q,v):=Vu.mp h;let((o,n,r),t,a):=Vu.mp v;rw[qu q,show f=_ from yn t];split at a
 .rename_i z;ext a;simp only[Uu,decide_eq_true_eq,Vs]at z;let(((((m,j),i),g),d),b):=z;show#[?_,j,i,g,d];rw[show n=x from beq_iff_eq.mp m,show u=[]from b]
 .ext a
class MS (f:Str->G D->z RV) where
 x:Str
 ok:∀{X:Cx},∃id r,Slot "str" x id/\typeOf (.builtin id)=pure (.type "method_descriptor")/\Qa X id r/\TH X.K r f
def P8(m:Str){id:String}{r:V->bb V->Hp->VK->Prop}(s:Slot "list" m id)(ty:typeOf (.builtin id)=pure (.type "method_descriptor"))(mt:∀{X:Cx},Qa X id r)(g:Gm->U4->Bool)(G:Jd TE)(A:Jd TE)[x:CE T A](i:∀{D X E e},Ct T D X E->g D e=S->∃t,PE X e t/\G X.K E t)(k:∀{K E to t},G K E to->A K E t->J K E (QE K "list" r to (fZ t jf))):CE T J where
 chk D e:=(P2 m e).any λy=>g D y.1&&match y.2.1 with
  |[e]=>x.chk D e
  |_=>R
 ok c h:=by
  let((b,l,p,q),z,f):=a8 h;let(rfl,H,w,a,I):=t8 z;rw[Uu]at f;let(v,d):=f;let(to,u,o):=i c v
  match l,a,d with
  |[e],a,d=>let a:[e].all iX=S:=a;let(t,n,j):=x.ok c d;show#[QE _ "list" r to (fZ t jf),?_,k o j];show Rr PySem.F.plainAttrs_list s ty mt u (fu n km (d7 a)) (gM H) (tE a (by show 1<20;decide)) w (d7 a) W
def vJ(i:Nat):Jd TE:=λ_ _ t=>t=qK i
noncomputable instance[CE T (eo a)]:CE T (eo (wx i a)):=P8 "append" aac aad mi (LW i) (vJ i) (eo a) (λc h=>#[_,Dj c h,W]) λh k=>by ext h;show OC k
noncomputable instance[x:CE T (es o)][CE T (es a)]:CE T (es (pf o a)):=P8 "append" aac aad mi x.chk (es o) (es a) x.ok Ih
def MC(a:Gm)(C f:Str):Bool:=(a.M.cl.lookup C).any λL=>L.contains f
def Aw{b:Gm}{X:Cx}{E:XK}{C f:Str}(c:Ct T b X E)(h:MC b C f=S):∃L,jX X.K C L/\f∈L:=by let(L,q,a):=a8 h;show#[L,c.md.cl _ _ q,YL.mp a]
noncomputable instance{C f:Str}[x:CE T (es a)]:CE T (es (aU C f a)) where
 chk Γ e:=(Sd e).any λy=>y.2.1==f&&MC Γ C f&&RP y.1&&x.chk Γ y.1
 ok c h:=by let((o,n,p),q,b):=a8 h;rw[yn q];simp only[Uu,beq_iff_eq]at b;let(((rfl,r),m),l):=b;let(L,g,d):=Aw c r;let(t,j,i):=x.ok c l;show#[_,LY j (gM m),GR g d i]
class FM (T:G Fd) (rz:Bool) (C m:Str) (F:fJ) (n:Nat) where
 i:Nat
 lv:Nat
 ps:G Str
 h:T[i]?=M (fdM rz lv C m ps n F)
section
variable{C m:Str}{F:fJ}{n:Nat}
def HA(T:G Fd)(b hd:Bool)(C m:Str)(F:fJ)(n:Nat)[o:FM T b C m F n](x:Gm->U4->Bool)(u:Gm->G U4->Bool)(a:Gm)(e:U4):Bool:=(!hd||a.rz&&b)&&decide (o.i<a.top)&&decide (o.lv<=a.lv)&&(a.M.cl.lookup C).isSome&&(P2 m e).any λy=>x a y.1&&u a y.2.1
def zQ{k hd:Bool}[o:FM T k C m F n]{x:Gm->U4->Bool}{u:Gm->bb U4->Bool}{s:Gm}{X:Cx}{E:XK}{e:U4}(c:Ct T s X E)(h:HA T k hd C m F n x u s e=S):∃(b:U4) (l:bb U4) (p q:Pos) (L:bb Str) (pl:Sem Bool),e=.Call (.Attribute b m p) l [] q/\x s b=S/\u s l=S/\jX X.K C L/\mZ X.prog X.w X.K X.mg X.base (if k then L4.kK X.prog X.w else jY) o.lv C m o.ps (jR X.K n F)/\Wr o.lv X.A/\dr (if k then L4.kK X.prog X.w else jY) X (if hd then E else E0)/\l.all iX=S/\eval (.Call (.Attribute b m p) l [] q) X.env=(do
   let ov<-eval b X.env
   standAt p.atName
   let(f,first)<-holding [ov] (getMethod ov m pl)
   callWith q f first (backTo q (UW l X.env)) (backToKw q (keywordEach [] X.env))):=by
 unfold HA at h;simp only[Uu,decide_eq_true_eq]at h;let((((a,v),t),r),j):=h;let((b,l,p,q),z,d):=a8 j;let(rfl,H,G,g,y):=t8 z;rw[Uu]at d;let(L,i):=V9.mp r;let(pl,ev):=Rx (m:=m) (env:=X.env) H g y G;show#[b,l,p,q,L,pl,W,d.1,d.2,c.md.cl _ _ i,c.fs _ _ v o.h,c.rm.mono t,?_,g,ev];cases hd with
 |true=>let a:=(Uu _ _).mp a;rw[a.2];show Db c a.1
 |false=>cases k with
  |true=>show Pa
  |false=>show Gn
def Qp(s hd:Bool)(A:Jd TE)(U:Jd TA)[o:FM T s C m F n][x:CE T A][u:CA T U](k:∀{K E L to t},jX K C L->A K E to->U K E t->J K E (l9 K C m (jR K n F) (if hd then E else E0) to t)):CE T J where
 chk:=HA T s hd C m F n x.chk λy l=> !l.isEmpty&&u.chk y l
 ok c h:=by
  let(b,l,p,q,L,pl,rfl,v,a,r,j,i,g,d,f):=zQ c h;rw[Uu]at a;let(to,k1,k2):=x.ok c v;let(t,k3,k4):=u.ok c a.2;cases l with
  |nil=>cases a.1
  |cons e l=>show#[_,Q4 j g i k1 k3 (UG _) (d7 d) (jr d) f,k r k2 k4]
def Rv(s hd:Bool)(A:Jd TE)[o:FM T s C m F n][x:CE T A](k:∀{K E L to},jX K C L->A K E to->J K E (l9 K C m (jR K n F) (if hd then E else E0) to jf)):CE T J where
 chk:=HA T s hd C m F n x.chk λ_ l=>l.isEmpty
 ok c h:=by let(b,l,p,q,L,pl,rfl,j,a,i,g,f,e,r,d):=zQ c h;let(to,k1,k2):=x.ok c j;rw[Vs]at a;subst a;show#[_,Pj g e f k1 (UG _) d,k i k2]
noncomputable instance[FM T R C m F n][CE T (es o)][CE T (es a)][CA T (as b)]:CE T (es (aM C m F n o (aj a b))):=Qp (C:=C) (m:=m) (F:=F) (n:=n) R R (es o) (as (aj a b)) zm
noncomputable instance[FM T R C m F n][CE T (es o)]:CE T (es (aM C m F n o aG)):=Rv (C:=C) (m:=m) (F:=F) (n:=n) R R (es o) λh k=>zm h k sI
noncomputable instance[FM T S C m F n][CE T (es o)][CE T (es a)][CA T (as b)]:CE T (es (nt C m F n o (aj a b))):=Qp (C:=C) (m:=m) (F:=F) (n:=n) S S (es o) (as (aj a b)) MH
class FK (T:G Fd) (C:Str) (F:fJ) (n:Nat) where
 i:Nat
 lv:Nat
 ps:G Str
 h:T[i]?=M (fdK lv C ps n F)
noncomputable instance[o:FK T C F n][x:CE T (es a)][u:CA T (as b)]:CE T (es (p7 C F n (aj a b))) where
 chk Γ e:=(Γ.M.cl.lookup C).isSome&&(PR Γ o.i (o.lv+1) C e).any λy=>CK.chk T PA (as (aj a b)) Γ (y.1::y.2.1)
 ok c h:=by rw[Uu]at h;let(L,j):=V9.mp h.1;let(y,q,p):=a8 h.2;let(rfl,g,i,f,d):=qS q;let(w,v,_):=mH c g;let(t,r,l):=CK.ok c p;show#[_,Ky (c.fs _ _ i o.h) Gn c.rm r f w v (d7 d) (jr d),IP (c.md.cl _ _ j) l]
end
end CC
set_option warn.classDefReducibility false
namespace CC
open PySem L2 L3 L10
variable{T:bb Fd}{A B C J:Jd TE}{U Z:Jd TA}{Q R:Jd TT}
theorem Sm{a:Gm}{X:Cx}{E:XK}(c:Ct T a X E):X.A.units+1<cLine:=DL c.rm
noncomputable instance[x:CE T (es d)][y:CE T (es k)]:CE T (es (p9 d k)) where
 chk Γ e:=(tG e).any λp=>iX p.2.1&&x.chk Γ p.1&&y.chk Γ p.2.1
 ok c h:=by let(p,q,a):=a8 h;simp only[Uu]at a;let(l,i,g):=x.ok c a.1.2;let(j,f,b):=y.ok c a.2;rw[gR q];show#[_,IX (Sm c) i f (t7 a.1.1),Er g b]
def LS(x y:Gm->U4->Bool)(a:Gm)(e:U4):Bool:=(Qo .In e).any λp=>x a p.1&&y a p.2
def Gh[x:CE T (es k)][y:CE T (es d)]{l X E e}(c:Ct T l X E)(h:LS x.chk y.chk l e=S):∃t,PE X e t/\PT X e (tB t)/\ce X.K E t (rl Ux k d):=by let(p,q,a):=a8 h;rw[Uu]at a;let(_,rfl,b):=tV q;let(n,g,j):=x.ok c a.1;let(m,f,i):=y.ok c a.2;show#[_,xM (B8 (Sm c) g f) b,yf (B8 (Sm c) g f) b,Jt j i]
noncomputable instance[x:CE T (es k)][y:CE T (es d)]:CT T (ki (bc (rl Ux k d))):=#[LS x.chk y.chk,λc h=>let#[_,_,h1,a]:=Gh c h;#[_,h1,Co a]]
noncomputable instance[x:CE T (es d)][y:CE T (es k)]:CE T (es (rY d k)) where
 chk Γ e:=(P2 "pop" e).any λz=>x.chk Γ z.1&&match z.2.1 with
  |[e]=>y.chk Γ e
  |_=>Ux
 ok c h:=by
  let((b,l,p,q),z,g):=a8 h;let(rfl,m,j,a,u):=t8 z;rw[Uu]at g;let(i,f):=g;let(L,t,r):=x.ok c i
  match l,a,f with
  |[e],a,f=>let a:[e].all iX=S:=a;let(v,o,n):=y.ok c f;show#[_,Ck t o #[gM m,tE a (by show 1<20;decide),j,?_],B1 r n];rw[d7 a];rfl
noncomputable instance[x:CE T (es d)]:CE T (es (u9 d)) where
 chk Γ e:=(EX Γ "list" e).any λy=>y.2.1.isEmpty&&(P2 "values" y.1).any λz=>z.2.1.isEmpty&&x.chk Γ z.1
 ok c h:=by let((e,l,E,w),q,f):=a8 h;let(rfl,g,i):=kj q;simp only[Uu,Vs]at f;let(rfl,o):=f;let((b,l,v,u),z,a):=a8 o;let(rfl,r,p,H,G):=t8 z;simp only[Uu,Vs]at a;let(rfl,n):=a;let(t,m,j):=x.ok c n;show#[_,xH c g yu (.inr #[_,W]) (L10.xu c.cm) i (fu (Ob aai aab PySem.F.type_dict_values L10.Bi m (gM r) p) km (kZ W)),Eo j]
def QY(x:Str){v:Ut}(b:VF x=M v)(y:(∃id,v=.builtin id)\/∃ty,v=.type ty)(A:Jd TE)[p:CE T A]{r:lD->G V->Hp->VK->Prop}(m:∀{X:Cx},X.calm=S->W3 X v (r X.K))(k:∀{K E t},A K E t->J K E (Ew (r K) (fZ t jf))):CE T J where
 chk Γ e:=(EX Γ x e).any λy=>y.2.1.isEmpty&&p.chk Γ y.1
 ok c h:=by let((e,l,o,n),q,d):=a8 h;let(rfl,g,a):=kj q;simp only[Uu,Vs]at d;let(rfl,j):=d;let(t,i,f):=p.ok c j;show#[_,xH c g b y (m c.cm) a (fu i km (d7 a)),k f]
noncomputable instance[CE T (es d)]:CE T (es (qU d)):=QY "sorted" vW (.inl #[_,W]) (es d) (r:=λ_=>yj) L10.xL FC
noncomputable instance[CE T (es d)]:CE T (es (rJ d)):=QY "dict" L10.ND (.inr #[_,W]) (es d) (r:=xl) L10.xk Gz
def DZ(i:Nat)(a:Gm)(e:U4):Bool:=(vN e).any λx=>a.N[i]? ==M x.1&&(a.sc.lookup x.1==M .local||(a.sc.lookup x.1==M .cell&&a.fc.contains x.1))
def oG{b:Gm}{X:Cx}{E:XK}{i:Nat}{e:U4}(c:Ct T b X E)(h:DZ i b e=S):∃x p,e=.Name x p/\X.N[i]?=M x/\L2.Oq X.env.scope x/\(X.fn x=S\/Wy x X.env.scope.names=M U0.local):=by
 let((x,p),q,a):=a8 h;simp only[Uu,VV]at a;show#[x,p,rV q,by rw[c.n];show beq_iff_eq.mp a.1,?_];ext L2.Oq;rw[c.sc];rcases a.2 with z|⟨z,w⟩
 .show#[.inl (dW z),.inr (dW z)]
 .show#[.inr (dW z),.inl (c.fc _ (YL.mp w))]
def Rc{G:Jd TG}(i:Nat)(k:∀{K E},G K E (lV i)):CG T G where
 chk:=DZ i
 ok c h:=by let(x,p,rfl,d,b,a):=oG c h;show#[_,#[IR c.nd d b a,λ_=>W],k]
noncomputable instance:CG T (go (gN i)):=Rc i uq
noncomputable instance:CG T (BU (eR i)):=Rc i pQ
def Q0{G:Jd xK}(k:∀{K E},G K E Jf):CH T G:=#[λ_ l=>l.isEmpty,λ_ h=>by rw[Vs.mp h];show#[_,#[GW,W,W],k]]
noncomputable instance:CH T (gs PD):=Q0 OT
noncomputable instance:CH T (Og Bx):=Q0 JT
def Qf{I:Jd xK}(G:Jd TG)(H:Jd xK)[x:CG T G][y:CH T H](k:∀{K E t u},G K E t->H K E u->I K E (zX t u)):CH T I where
 chk Γ l:=match l with
  |e::r=>x.chk Γ e&&y.chk Γ r
  |[]=>Ux
 ok c h:=by
  split at h
  .rw[Uu]at h;let(n,(j,a),i):=x.ok c h.1;let(m,(g,d,b),f):=y.ok c h.2;show#[_,#[F7 j g (by rw[a];rfl),by rw[a,UO,UO,d],by rw[a,List.findIdx?_cons,b];rfl],k i f]
  .ext h
noncomputable instance[CG T (go g)][CH T (gs r)]:CH T (gs (D2 g r)):=Qf (go g) (gs r) Hr
noncomputable instance[CG T (BU g)][CH T (Og r)]:CH T (Og (rb g r)):=Qf (BU g) (Og r) DG
def QR{I:Jd TG}(n:Nat)(H:Jd xK)[y:CH T H](k:∀{K E t},H K E t->I K E (Hn K n t)):CG T I where
 chk Γ e:=(EG e).any λl=>decide (l.length=n)&&y.chk Γ l
 ok c h:=by let(l,q,a):=a8 h;let(_,_,rfl):=sW q;simp only[Uu,decide_eq_true_eq]at a;let(rfl,b):=a;let(t,(i,f,d),g):=y.ok c b;show#[_,#[Pg c.cm i f d,λ_=>W],k g]
noncomputable instance[CH T (gs r)]:CG T (go (gT n r)):=QR n (gs r) NZ
noncomputable instance[CH T (Og r)]:CG T (BU (K4 n r)):=QR n (Og r) IJ
def P0(A:Jd TE){I:Jd TI}[x:CE T A]{f:lD->TE->TI}(p:∀{X:Cx} {d e t},PE X e t->PI X d e (f X.K t))(k:∀{K E t},A K E t->I K E (f K t)):CI T I where
 chk Γ p:=iX p.2&&x.chk Γ p.2
 ok c h:=by rw[Uu]at h;let(t,b,a):=x.ok c h.2;show#[_,#[p b,h.1],k a]
noncomputable instance[CE T (eo a)]:CI T (io (im a)):=P0 (eo a) Dr Ov
noncomputable instance[CE T (es a)]:CI T (KZ (ie a)):=P0 (es a) Dr HL
noncomputable instance[CI T (io f)]:CI T (Qi f):=uX (A:=io f) λh=>L3.IO.s h
noncomputable instance[CI T (io f)]:CI T (KZ (kg f)):=uX (A:=io f) Du
noncomputable instance[u:CA T (ao a)]:CI T (io (mr iO a)) where
 chk L p:=(EX L "range" p.2).any λy=>y.2.1.isEmpty&&u.chk L [y.1]
 ok {L X E p} c h:=by let((e,l,w,v),q,b):=a8 h;let(z,g,f):=kj q;simp only[Uu,Vs]at b;let(rfl,m):=b;let(o,n,_):=mf c g;let(t,j,i):=u.ok c m;let(r,d):=p;let z:d=_:=z;subst z;show#[_,#[Bj o n j (d7 f),W],JS i]
noncomputable instance[u:CA T (ao a)]:CI T (io (AN a)) where
 chk L p:=za p.1&&(EX L "zip" p.2).any λy=>match y.2.1 with
  |[r]=>u.chk L [y.1,r]
  |_=>Ux
 ok {L X E p} c h:=by
  rw[Uu]at h;let((e,l,F,w),q,d):=a8 h.2;let(z,g,b):=kj q;let(v,o,_):=mf c g;let(f,i):=p;let z:i=_:=z;subst z;let n:za f=S:=h.1
  match l,b,d with
  |[r],b,d=>let b:[e,r].all iX=S:=b;let(t,m,j):=u.ok c d;let(_,_,_,rfl):=uP n;show#[_,#[Pn v o m (d7 b) (jr b),W],Mx j]
end CC
set_option warn.classDefReducibility false
namespace CC
open PySem L2 L3 L10
variable{T:bb Fd}{A B C J:Jd TE}{U Z:Jd TA}{Q R:Jd TT}{G:Jd TG}{I:Jd TI}
noncomputable instance:CQ T (nQ dZ):=#[λ_ l=>l.isEmpty,λ_ h=>by rw[Vs.mp h];show#[_,vK,Fy]]
noncomputable instance:CQ T (ki jy):=#[λ_ l=>l.isEmpty,λ_ h=>by rw[Vs.mp h];show#[_,vK,Fg]]
def Ts(Q:Jd TT)[d:CT T Q]:CQ T Q where
 chk Γ l:=match l with
  |[e]=>d.chk Γ e
  |_=>Ux
 ok c h:=by
  split at h
  .let(t,b,a):=d.ok c h;show#[_,ES b,a]
  .ext h
noncomputable instance[CT T (nQ q)]:CQ T (nQ q):=Ts (nQ q)
noncomputable instance[CT T (ki q)]:CQ T (ki q):=Ts (ki q)
def t0{b:Type}(P:Jd (St->Hp->b->Prop))(K:lD)(E:XK):St->Hp->b->Prop:=λa H Q=>∀t,P K E t->t a H Q
def g0(P:Jd TG)(K:lD)(E:XK):TG:=λv a H Q=>∀t,P K E t->t v a H Q
class Cl {τ:Type} (P:Jd (St->Hp->τ->Prop)):Prop where
 cl:∀{K E},P K E (t0 P K E)
class ClG (P:Jd TG):Prop where
 cl:∀{K E},P K E (g0 P K E)
noncomputable instance:Cl (eo g):=#[λB b O a H d Q R w _ h=>h B b O a H d Q R w]
noncomputable instance:Cl (es g):=#[λB a H α b d Q s l w _ h=>h B a H α b d Q s l w]
noncomputable instance:Cl (nQ g):=#[λB b O a H d Q R w _ h=>h B b O a H d Q R w]
noncomputable instance:Cl (ki g):=#[λB a H α b d Q s l w _ h=>h B a H α b d Q s l w]
noncomputable instance:ClG (go g):=#[λB b O a H d v pv Q R p w _ h=>h B b O a H d v pv Q R p w]
noncomputable instance:ClG (BU g):=#[λB a H α b d v x Q s l p w _ h=>h B a H α b d v x Q s l p w]
def Ph(e:U4):bb Str:=((vN e).map (·.1)).toList++((EG e).getD []).filterMap λe=>(vN e).map (·.1)
def Nf(l:bb (Str×U0)):bb Str:=(l.filter λy=>y.2==U0.cell&&l.all λp=> !(p.1==y.1)|| !(p.2==U0.free)).map (·.1)
def S7(a:Gm)(l:bb (Str×U0)):bb (Str×U0):=l.map λp=>if(p.2==U0.free&&(ScopeKind.function==ScopeKind.function)&&a.sc.lookup p.1==M .cell)then(p.1,.cell)else p
def Gm.inn(b:Gm)(own:bb Str)(a:bb (Str×Nat))(sc:bb (Str×U0)):Gm:={b with N:=own++a.map (·.1),sc:=S7 b sc,rz:=Ux,fa:=Ux,fc:=Nf sc}
def yy(a:Gm)(b:bb Nat):bb (Str×Nat):=b.filterMap λj=>(a.N[j]?).map λx=>(x,j)
def S9(b:Gm)(sc:WA)(a:bb (Str×Nat)):Bool:=a.all λp=>b.N[p.2]? ==M p.1&&sc.names.lookup p.1==M .free&&(b.sc.lookup p.1==M .cell||b.sc.lookup p.1==M .free)
theorem LQ{g:Gm}{X:Cx}{E:XK}{sc:WA}(c:Ct T g X E):∀{a:bb (Str×Nat)},S9 g sc a=S->aay X sc a
 |[],_=>trivial
 |p::r,h=>by unfold S9 at h;simp only[XG,Uu,VV]at h;let(((f,e),d),b):=h;show#[#[by rw[c.n];show beq_iff_eq.mp f,dW e,?_],LQ c b];rw[c.sc];show d.imp dW dW
theorem yX{env:Env}{y:Str}:∀{l:bb (Str×U0)} {acc:bb (Str×Uz)},(∀p∈l,p.1=y->(p.2==U0.free)=Ux)->acc.lookup y=P->(fS env l acc).lookup y=P
 |[],_,_,h=>h
 |(n,k)::r,acc,h,d=>by
  let a:=λacc=>yX (env:=env) (y:=y) (l:=r) (acc:=acc) λp b=>h p (UM _ b);ext fS;split
  .rename_i q
   let ne:n≠y:=λe=>by rw[h (n,k) UP e]at q;ext q
   split
   .show a _ (by rw[Vr,show(y==n)=Ux from beq_eq_false_iff_ne.mpr (dN ne)];show d)
   .show a _ d
  .show a _ d
def Cd{env:Env}{l:bb (Str×U0)}{y:Str}(h:y∈Nf l):((fS env l []).lookup y).isNone=S:=by
 let(p,d,rfl):=U6.mp h;let(_,a):=Wh.mp d;rw[Uu]at a;rw[yX (λq b e=>?_) W]
 .rfl
 .let:=VZ.mp a.2 q b;rw[e,eg]at this;revert this;cases q.2==U0.free<;>intro h<;>first|rfl|ext h
structure Lc(T:bb Fd)(Γ':Gm)(X:Cx)(E:XK)(n:Nat)(fj:bb Nat)(I:Jd TI)(G:Jd TG)(Q:Jd TT)(A:Jd TE)(sc:WA)(elt:U4)(cp:XW) where
 own:bb Str
 fv:bb (Str×Nat)
 wi:TI
 e:cp.is_async=0
 ln:own.length=n
 fj:fv.map (·.2)=fj
 pi:PI X cp.target cp.iter wi
 i:I X.K E wi
 pg:∀s H C fp,PG (bU X s H sc C (dg own fv) fp) cp.target (g0 G X.K E0)
 g:G X.K E0 (g0 G X.K E0)
 pq:∀s H C fp,xo (bU X s H sc C (dg own fv) fp) cp.ifs (t0 Q X.K E0)
 q:Q X.K E0 (t0 Q X.K E0)
 pe:∀s H C fp,PE (bU X s H sc C (dg own fv) fp) elt (t0 A X.K E0)
 a:A X.K E0 (t0 A X.K E0)
 fvk:aay X sc fv
 fr:(sc.names.all λy=> !(y.2==U0.free)||X.env.scope.names.lookup y.1==M .cell||X.env.scope.names.lookup y.1==M .free)=S
 kd:sc.kind=.function
 nd:(sc.names.map (·.1)).Nodup
 nm:∀y∈sc.names,y.2=.local->sc.names.lookup y.1=M .local
 fold:∀z,foldedSetIterable cp.iter X.env z=pure z
 ct:∀s H C fp W E',Ct T Γ' ((bU X s H sc C (dg own fv) fp).YH W) E'
def G5(n:Nat)(e:bb Nat)(i:CI T I)(g:CG T G)(w:CQ T Q)(x:CE T A)(b:Gm)(elt:U4)(c:XW)(sc:WA):Bool:=
 let own:=Ph c.target
 let d:=yy b e
 let a:=b.inn own d sc.names
 decide (own.length=n)&&decide (d.map (·.2)=e)&&decide (c.is_async=0)&&S9 b sc d&&(sc.names.all λy=> !(y.2==U0.free)||b.sc.lookup y.1==M .cell||b.sc.lookup y.1==M .free)&&decide (sc.kind=.function)&&decide ((sc.names.map (·.1)).Nodup)&&(sc.names.all λy=> !(y.2==U0.local)||sc.names.lookup y.1==M .local)&&decide ((own++d.map (·.1)).Nodup)&&i.chk b (c.target,c.iter)&&g.chk a c.target&&w.chk a c.ifs&&x.chk a elt
def zS[Cl A][Cl Q][ClG G]{i:CI T I}{g:CG T G}{w:CQ T Q}{x:CE T A}{n:Nat}{D:bb Nat}{k:Gm}{X:Cx}{E:XK}{j:U4}{V:XW}{sc:WA}(c:Ct T k X E)(h:G5 n D i g w x k j V sc=Uv):Nonempty (Lc T (k.inn (Ph V.target) (yy k D) sc.names) X E n D I G Q A sc j V):=by
 unfold G5 at h;simp only[Uu,decide_eq_true_eq]at h;let((((((((((((h1,Y),S),k1),k2),k3),k4),k5),k6),P),O),N),M):=h;let(q,(L,F),K):=i.ok c P;let ct:∀s H C a W p,Ct T (k.inn (Ph V.target) (yy k D) sc.names) ((bU X s H sc C (dg (Ph V.target) (yy k D)) a).YH W) p:=λs H C a W p=>
  #[rfl,k6,by show(relabel sc X.env).names=S7 k sc.names;unfold relabel S7 Env.kindOf;rw[c.kd,c.sc],k3,c.cm,c.rm,λz=>(ZQ z),λz=>(ZQ z),λy l=>Cd l,c.md,c.fs]
 let m:∀s H C a,Ct T (k.inn (Ph V.target) (yy k D) sc.names) (bU X s H sc C (dg (Ph V.target) (yy k D)) a) E0:=λs H C a=>ct s H C a _ E0;show#[#[Ph V.target,yy k D,q,S,h1,Y,L,K,λs H C a=>?_,ClG.cl,λs H C a=>?_,Cl.cl,λs H C a=>?_,Cl.cl,LQ c k1,?_,k3,k4,λy l e=>?_,zW F,ct]]
 .let(t,(f,_),d):=g.ok (m s H C a) O;show λb s o H v u Q I r z=>f _ _ _ _ _ _ _ I r (z _ d)
 .let(t,f,d):=w.ok (m s H C a) N;show λb s o H Q I z=>f _ _ _ _ _ I (z _ d)
 .let(t,f,d):=x.ok (m s H C a) M;show λb s o H Q I z=>f _ _ _ _ _ I (z _ d)
 .rw[c.sc];show k2
 .let:=VZ.mp k5 y l;rw[e]at this;show dW this
def OY(e:U4):z (U4×XW×WA×Pos):=(Tm e).bind λy=>match y.2.1 with
 |[a]=>M (y.1,a,y.2.2)
 |_=>P
def zP{e:U4}{y:U4×XW×WA×Pos}(h:OY e=M y):e=.ListComp y.1 [y.2.1] y.2.2.1 y.2.2.2:=by
 let((a,l,s,p),q,b):=Vu.mp h;rw[L8 q]
 match l,b with
 |[d],b=>ext b;rfl
def RH(I:Jd TI)(G:Jd TG)(Q:Jd TT)(A:Jd TE)[Cl A][Cl Q][ClG G][i:CI T I][g:CG T G][w:CQ T Q][x:CE T A](n:Nat)(v:bb Nat)(k:∀{K E own u a g t s},own.length=n->u.map (·.2)=v->I K E a->G K E0 g->Q K E0 t->A K E0 s->J K E (rC own u a g t s)):CE T J where
 chk Γ e:=(OY e).any λy=>G5 n v i g w x Γ y.1 y.2.1 y.2.2.1
 ok c h:=by let((j,m,r,p),q,f):=a8 h;rw[zP q];let⟨l⟩:=zS c f;let(o,b,d,as):=m;obtain rfl:as=0:=l.e;show#[_,yH l.own l.fv c.cm l.pi l.pg l.pq l.pe l.fvk l.fr l.kd l.nd l.nm l.fold,k l.ln l.fj l.i l.g l.q l.a]
noncomputable instance[CI T (Qi f)][CG T (go g)][CQ T (nQ q)][CE T (eo a)]:CE T (eo (eS n l f g q a)):=RH (Qi f) (go g) (nQ q) (eo a) n l wo
noncomputable instance[CI T (KZ f)][CG T (BU g)][CQ T (ki q)][CE T (es a)]:CE T (es (i8 n l f g q a)):=RH (KZ f) (BU g) (ki q) (es a) n l vG
end CC
set_option warn.classDefReducibility false
namespace CC
open PySem L2 L3 L10
variable{T:bb Fd}{A B C J:Jd TE}{U Z:Jd TA}{Q R:Jd TT}{G:Jd TG}{I:Jd TI}{S Y X:Jd TS}
def QN:Wk->z (U4×bb Wk×bb Wk)
 |.If c a b _=>M (c,a,b)
 |_=>P
def Gx:Wk->z (z U4)
 |.Return e _=>M e
 |_=>P
def LF:Wk->z U4
 |.Expr e _=>M e
 |_=>P
def pS:Wk->z (U4×U4)
 |.Assign [t] e _=>M (t,e)
 |_=>P
def KQ:Wk->z (U4×U4×bb Wk)
 |.For t i b [] _=>M (t,i,b)
 |_=>P
def Qs:Wk->z (U4×bb Wk)
 |.While c b [] _=>M (c,b)
 |_=>P
def Rb:Wk->z U4
 |.Raise (M e) P _=>M e
 |_=>P
section
variable{s:Wk}
theorem Ip(h:QN s=M x):∃p,s=.If x.1 x.2.1 x.2.2 p:=ra (P:=λx=>∃p,s=.If x.1 x.2.1 x.2.2 p) (by ext s<;>first|show trivial|show#[_,W]) h
theorem uJ(h:Gx s=M x):∃p,s=.Return x p:=ra (P:=λx=>∃p,s=.Return x p) (by ext s<;>first|show trivial|show#[_,W]) h
theorem Gu(h:LF s=M x):∃p,s=.Expr x p:=ra (P:=λx=>∃p,s=.Expr x p) (by ext s<;>first|show trivial|show#[_,W]) h
theorem iu(h:pS s=M x):∃p,s=.Assign [x.1] x.2 p:=ra (P:=λx=>∃p,s=.Assign [x.1] x.2 p) (by ext s<;>first|show trivial|(rename_i l _ _;rcases l with _|⟨t,_|⟨_,_⟩⟩<;>first|show trivial|show#[_,W])) h
theorem GA(h:KQ s=M x):∃p,s=.For x.1 x.2.1 x.2.2 [] p:=ra (P:=λx=>∃p,s=.For x.1 x.2.1 x.2.2 [] p) (by ext s<;>first|show trivial|(rename_i l _;ext l<;>first|show trivial|show#[_,W])) h
theorem Ho(h:Qs s=M x):∃p,s=.While x.1 x.2 [] p:=ra (P:=λx=>∃p,s=.While x.1 x.2 [] p) (by ext s<;>first|show trivial|(rename_i l _;ext l<;>first|show trivial|show#[_,W])) h
theorem HI(h:Rb s=M x):∃p,s=.Raise (M x) Ld p:=ra (P:=λx=>∃p,s=.Raise (M x) Ld p) (by ext s<;>first|show trivial|(rename_i a b _;ext a<;>ext b<;>first|show trivial|show#[_,W])) h
end
def Tk(S:Jd TS)[o:CU T S]:CS T S where
 chk Γ b:=match b with
  |[s]=>o.chk Γ s
  |_=>Ux
 ok c h:=by
  split at h
  .let(t,d,a):=o.ok c h;show#[_,lG d,a]
  .ext h
noncomputable instance[CU T (so f)]:CS T (so f):=Tk (so f)
noncomputable instance[CU T (WJ f)]:CS T (WJ f):=Tk (WJ f)
noncomputable instance:CS T (so cG):=#[λ_ b=>b.isEmpty,λ_ h=>by rw[Vs.mp h];show#[_,y0,Iz]]
noncomputable instance:CS T (WJ bX):=#[λ_ b=>b.isEmpty,λ_ h=>by rw[Vs.mp h];show#[_,y0,Cz]]
def LH(Y X:Jd TS)[o:CU T Y][n:CS T X](k:∀{K E t u},Y K E t->X K E u->S K E (Fm t u)):CS T S where
 chk Γ b:=match b with
  |s::r=>o.chk Γ s&&n.chk Γ r
  |_=>Ux
 ok c h:=by
  split at h
  .rw[Uu]at h;let(t,f,e):=o.ok c h.1;let(g,d,a):=n.ok c h.2;show#[_,lM f d,k e a]
  .ext h
noncomputable instance[CU T (so f)][CS T (so g)]:CS T (so (aZ f g)):=LH (so f) (so g) Nz
noncomputable instance[CU T (WJ f)][CS T (WJ g)]:CS T (WJ (aH f g)):=LH (WJ f) (WJ g) J3
def Ln(Q:Jd TT)(Y X:Jd TS)[o:CT T Q][m:CS T Y][n:CS T X](k:∀{K E c t u},Q K E c->Y K E t->X K E u->S K E (Hd c t u)):CU T S where
 chk Γ s:=(QN s).any λy=>o.chk Γ y.1&&m.chk Γ y.2.1&&n.chk Γ y.2.2
 ok c h:=by let(y,q,a):=a8 h;let(_,rfl):=Ip q;simp only[Uu]at a;let(t,i,g):=o.ok c a.1.1;let(l,f,e):=m.ok c a.1.2;let(j,d,b):=n.ok c a.2;show#[_,Ra i f d,k g e b]
noncomputable instance[CT T (nQ q)][CS T (so f)][CS T (so g)]:CU T (so (ja q f g)):=Ln (nQ q) (so f) (so g) QC
noncomputable instance[CT T (ki q)][CS T (WJ f)][CS T (WJ g)]:CU T (WJ (bS q f g)):=Ln (ki q) (WJ f) (WJ g) M6
def Lo(A:Jd TE)[x:CE T A](k:∀{K E t},A K E t->S K E (JK t)):CU T S where
 chk Γ s:=(Gx s).any λy=>y.any (x.chk Γ)
 ok c h:=by let(y,q,g):=a8 h;let(e,a,f):=a8 g;let(_,rfl):=uJ q;subst a;let(t,d,b):=x.ok c f;show#[_,Ff d,k b]
noncomputable instance[CE T (eo a)]:CU T (so (cb a)):=Lo (eo a) NH
noncomputable instance[CE T (es a)]:CU T (WJ (L10.fR a)):=Lo (es a) Kv
noncomputable instance:CU T (WJ oO) where
 chk _ s:=(Gx s).any (·.isNone)
 ok c h:=by let(y,q,a):=a8 h;let(_,rfl):=uJ q;rw[Wt.mp a];show#[_,Kl,Di]
def CF(A:Jd TE)[x:CE T A](k:∀{K E t},A K E t->S K E (vv t)):CU T S where
 chk Γ s:=(LF s).any λe=>(iX e&& !Oa e)&&x.chk Γ e
 ok c h:=by let(y,q,a):=a8 h;let(_,rfl):=Gu q;let a:=(Uu _ _).mp a;let(t,d,b):=x.ok c a.2;show#[_,Am d (Aa a.1),k b]
noncomputable instance[CE T (eo a)]:CU T (so (lU a)):=CF (eo a) Hl
noncomputable instance[CE T (es a)]:CU T (WJ (bv a)):=CF (es a) Cv
noncomputable instance:CU T (WJ Oo):=#[λ_ _=>Uv,λ_ _=>#[_,CJ,BS]]
def KW(i:Nat)(A:Jd TE)[x:CE T A](k:∀{K E t},A K E t->S K E (sG t (lV i))):CU T S where
 chk Γ s:=(pS s).any λy=>(iX y.2&& !Oa y.2)&&(DZ i Γ y.1&&x.chk Γ y.2)
 ok c h:=by let((d,e),q,a):=a8 h;let(_,rfl):=iu q;let a:=(Uu _ _).mp a;let b:=(Uu _ _).mp a.2;let(t,g,f):=x.ok c b.2;let(y,p,z,k1,k2,k3):=oG c b.1;let z:d=_:=z;subst z;show#[_,qA c.nd k1 k2 g (Aa a.1) k3,k f]
noncomputable instance[CE T (eo a)]:CU T (so (dL a (gN i))):=KW i (eo a) λh=>xc h uq
noncomputable instance[CE T (es a)]:CU T (WJ (cJ a (eR i))):=KW i (es a) λh=>sR h pQ
def RO(A:Jd TE)(G:Jd TG)[x:CE T A][y:CG T G](k:∀{K E t g},A K E t->G K E g->S K E (sG t g)):CU T S where
 chk Γ s:=(pS s).any λz=>PU z.2&&za z.1&&y.chk Γ z.1&&x.chk Γ z.2
 ok c h:=by let((l,e),q,a):=a8 h;let(_,rfl):=iu q;simp only[Uu]at a;let(((b,i),f),d):=a;let(t,j,a):=x.ok c d;let(m,(k1,k3),k2):=y.ok c f;let(_,_,_,rfl):=uP i;show#[_,NC j k1 (Im b) (Ax b) (by rw[k3];rfl),k a k2]
noncomputable instance[CE T (eo a)][CH T (gs r)]:CU T (so (dL a (gT n r))):=RO (eo a) (go (gT n r)) xc
noncomputable instance[CE T (es a)][CH T (Og r)]:CU T (WJ (cJ a (K4 n r))):=RO (es a) (BU (K4 n r)) sR
def LX{elt b sc x p n}{a:Pos}{env:Env}(h:env.kindOf x=M .cell):W0 (.ListComp elt [b] sc a) (M (.Name x p)) n env=pure Ux:=by show(pure _:Sem Bool)=_;rw[h];congr 1;show(((_&&Ux)&&_)&&_)=Ux;rw[adL];rfl
def KP(I:Jd TI)(G:Jd TG)(Q:Jd TT)(A:Jd TE)[Cl A][Cl Q][ClG G][ii:CI T I][g:CG T G][w:CQ T Q][x:CE T A](n:Nat)(r:bb Nat)(i:Nat)(k:∀{K E own o b g j f},own.length=n->o.map (·.2)=r->I K E b->G K E0 g->Q K E0 j->A K E0 f->S K E (sG (rC own o b g j f) (lV i))):CU T S where
 chk Γ s:=(pS s).any λz=>(vN z.1).any λv=>(OY z.2).any λy=>DZ i Γ z.1&&(Γ.sc.lookup v.1==M .cell||(Γ.sc.lookup v.1==M .local&&v.2.line==y.2.2.2.line&& !(y.2.2.1.names.any λy=>y.1==v.1&&(y.2==.local||y.2==.cell))))&&G5 n r ii g w x Γ y.1 y.2.1 y.2.2.1
 ok c h:=by
  let((d,e),q,h2):=a8 h;let(_,rfl):=iu q;let((v,vp),N,h3):=a8 h2;let((elt,cp,sc,p),L,m):=a8 h3;let u:d=_:=rV N;let t:e=_:=zP L;subst u t;simp only[Uu,Xo,VV]at m;let((hg,a),hc):=m;let(_,_,z,k1,k2,k3):=oG c hg;ext z;let⟨l⟩:=zS c hc;let(d,iter,ifs,as):=cp;obtain rfl:as=0:=l.e;show#[_,?_,k l.ln l.fj l.i l.g l.q l.a];rcases a with a|⟨⟨a,hp⟩,ha⟩
  .let a:=dW a;rw[<-c.sc]at a;show qA c.nd k1 k2 (yH l.own l.fv c.cm l.pi l.pg l.pq l.pe l.fvk l.fr l.kd l.nd l.nm l.fold) (LX a) k3
  .let a:=dW a;rw[<-c.sc]at a;show Ks l.own l.fv c.nd k1 a c.cm l.pi l.pg l.pq l.pe l.fvk l.fr (P7 c.kd a hp ha) l.kd l.nd l.nm l.fold
noncomputable instance[CI T (Qi f)][CG T (go g)][CQ T (nQ q)][CE T (eo a)]:CU T (so (dL (eS n l f g q a) (gN i))):=KP (Qi f) (go g) (nQ q) (eo a) n l i λm j h e d b=>xc (wo m j h e d b) uq
noncomputable instance{C f:Str}[x:CE T (es o)][y:CE T (es a)]:CU T (WJ (d5 C f o a)) where
 chk Γ s:=(pS s).any λz=>(Sd z.1).any λw=>w.2.1==f&&MC Γ C f&&iX z.2&&x.chk Γ w.1&&y.chk Γ z.2
 ok c h:=by let((g,e),q,E):=a8 h;let(_,rfl):=iu q;let((b,n,p),i,d):=a8 E;let z:g=_:=yn i;subst z;simp only[Uu,beq_iff_eq]at d;let((((rfl,v),u),r),m):=d;let(L,l,j):=Aw c v;let(t,k1,k2):=x.ok c r;let(F,k3,k4):=y.ok c m;show#[_,OU k1 k3 (Qj u),Hv l j k2 k4]
noncomputable instance[x:CE T (es d)][y:CE T (es k)][p:CE T (es v)]:CU T (WJ (rQ d k v)) where
 chk Γ s:=(pS s).any λr=>(tG r.1).any λw=>iX r.2&&x.chk Γ w.1&&y.chk Γ w.2.1&&p.chk Γ r.2
 ok c h:=by let((b,e),q,m):=a8 h;let(_,rfl):=iu q;let(w,f,a):=a8 m;let p:b=_:=gR f;subst p;simp only[Uu]at a;let(((l,j),i),g):=a;let(t,k1,k2):=x.ok c j;let(o,k3,k4):=y.ok c i;let(n,k5,k6):=CK.ok c g;show#[_,GQ (Sm c) k1 k3 k5 (Kz l),EJ k2 k4 k6]
def Lb(I:Jd TI)(G:Jd TG)(Y:Jd TS)[v:CI T I][y:CG T G][m:CS T Y](k:∀{K E j g t},I K E j->G K E g->Y K E t->S K E (Iw j g t)):CU T S where
 chk Γ s:=Γ.fa&&(KQ s).any λz=>v.chk Γ (z.1,z.2.1)&&y.chk Γ z.1&&m.chk Γ z.2.2
 ok c h:=by rw[Uu]at h;let(z,q,a):=a8 h.2;let(_,rfl):=GA q;simp only[Uu]at a;let(t,(e,b),d):=v.ok c a.1.1;let(i,(k1,_),k2):=y.ok c a.1.2;let(f,k3,k4):=m.ok c a.2;show#[_,OQ (c.po h.1) c.cm e k1 k3 (zW b),k d k2 k4]
noncomputable instance[CI T (io f)][CG T (go g)][CS T (so b)]:CU T (so (kY f g b)):=Lb (io f) (go g) (so b) N8
noncomputable instance[CI T (KZ f)][CG T (BU g)][CS T (WJ b)]:CU T (WJ (tF f g b)):=Lb (KZ f) (BU g) (WJ b) Jq
def gm(M:Md)(N:bb Str)(a:Wk)(lv top:Nat)(b:Bool):Gm:=#[M,N,(az a).names,lv,b,Uv,Nf (az a).names,top]
def SJ(N a:bb Str)(sc:WA):Bool:=decide (sc.kind=.function)&& !sc.isCoroutine&& !sc.isGenerator&&decide N.Nodup&&decide (N.take a.length=a)&&a.all (λx=>sc.names.lookup x==M .local||sc.names.lookup x==M .cell)&&sc.names.all (λy=> !(y.2==.free))
def sX{N c:bb Str}{sc:WA}(h:SJ N c sc=Uv):WK N c sc:=by
 unfold SJ at h;simp only[Uu,decide_eq_true_eq,Xo]at h;let((((((m,l),j),i),g),f),d):=h;show#[m,l,j,i,g,λx b=>?_,λy a e=>?_]
 .let:=VZ.mp f x b;rw[VV]at this;show this.imp dW dW
 .let:=VZ.mp d y a;rw[e]at this;ext this
section
variable{P:UZ}{w:Vf}{K:lD}{y:Str->bg Ut}{base:Heap}{f:Uz}{L:VG}{M:Md}{Z x:Str}{N v:bb Str}{k n top:Nat}{Y:Wk}
def V6(T:bb Fd)(S:Jd TS)[c:CS T S](M:Md)(N v:bb Str)(Y:Wk)(k top:Nat)(a:Bool):Bool:=SJ N v (az Y)&&c.chk (gm M N Y k top a) (bO Y)
theorem Tv(a:aaV K y M)(fs:∀i L,i<top->T[i]?=cL L->L P w K y base)(S:WK N v (az Y)){c A outer s H E}(b:Wr k (A.deeper (Vi Z (az Y) s.heap.objs.size f c))):Ct T (gm M N Y k top Ux) (eP jY P w K y base N Z (az Y) f c A outer s H E).nox E:=
 #[W,S.nd,W,S.kind,W,b,λ_=>aao.never,λz=>ZQ z,λ_ _=>W,a,fs]
theorem Tj(a:aaV K y M)(fs:∀i L,i<top->T[i]?=cL L->L P w K y base)(S:WK N v (az Y)){c A outer s H E}(b:Wr k (A.deeper (Vi Z (az Y) s.heap.objs.size f c))):Ct T (gm M N Y k top Uv) (eP (L4.kK P w) P w K y base N Z (az Y) f c A outer s H E) E:=
 #[W,S.nd,W,S.kind,W,b,λ_=>aao.leaving,λ_=>#[_,_,_,_,_,_,_,_,_,W],λ_ _=>W,a,fs]
def YW{g:FS}{b:FN}[c:CS T (so g)](d:aaV K y M)(fs:∀i L,i<top->T[i]?=cL L->L P w K y base)(F:ZL K x Z Y f L)(h:V6 T (so g) M N v Y k top Ux=Uv)(m:v.length=n:=by rfl)(j:b=eD N.length g:=by rfl):FnOk P w K y base jY (k+1) f L v (zJ K n b):=by let h:=(Uu _ _).mp h;let S:=sX h.1;show Tw F S m W j λl A a s H E e=>c.ok (Tv d fs S e) h.2
def Yo{g:dH}{b:fJ}[c:CS T (WJ g)](d:aaV K y M)(fs:∀i L,i<top->T[i]?=cL L->L P w K y base)(F:ZL K x Z Y f L)(h:V6 T (WJ g) M N v Y k top Ux=Uv)(m:v.length=n:=by rfl)(j:b=cH N.length g:=by rfl):FnOk P w K y base jY (k+1) f L v (jR K n b):=by let h:=(Uu _ _).mp h;let S:=sX h.1;show Tl F S m W j λl A a s H E e=>c.ok (Tv d fs S e) h.2
def agd{g:dH}{b:fJ}[c:CS T (WJ g)](d:aaV K y M)(fs:∀i L,i<top->T[i]?=cL L->L P w K y base)(F:ZL K x Z Y f L)(h:V6 T (WJ g) M N v Y k top Uv=Uv)(m:v.length=n:=by rfl)(j:b=cH N.length g:=by rfl):FnOk P w K y base (L4.kK P w) (k+1) f L v (jR K n b):=by let h:=(Uu _ _).mp h;let S:=sX h.1;show S8 F S m W j λl A a s H E e=>c.ok (Tj d fs S e) h.2
end
section
variable{T:bb Fd}{P:UZ}{w:Vf}{K:lD}{mg:Str->bg Ut}{base:Heap}
theorem fs0:∀i fd,i<0->T[i]?=M fd->fd P w K mg base:=λ_ _ h=>a7 h (aae _)
theorem Yp{n:Nat}{x:Fd}(h:∀i fd,i<n->T[i]?=M fd->fd P w K mg base)(e:T[n]?=M x)(a:x P w K mg base):∀i fd,i<n+1->T[i]?=M fd->fd P w K mg base:=λi fd b q=>by
 rcases Nat.lt_succ_iff_lt_or_eq.mp b with z|rfl
 .show h i fd z q
 .rw[e]at q;ext q;show a
theorem look{α:Type}{R:Str->α->Prop}{y:Str}{e:α}{l:bb (Str×α)}(h:R y e)(r:∀x d,l.lookup x=M d->R x d):∀x d,((y,e)::l).lookup x=M d->R x d:=λx d q=>by
 rw[Vr]at q;split at q
 .rename_i z;rw[beq_iff_eq]at z;ext q;rw[z];show h
 .show r x d q
abbrev QS(K:lD)(mg:Str->z Ut):Str->D->Prop:=λx d=>∃v u,mg x=M u/\RelV v u/\∀O H,DV O K H v d
theorem csN:∀x d,([]:bb (Str×D)).lookup x=M d->QS K mg x d:=λ_ _ h=>nomatch h
theorem csC{y:Str}{e:D}{l:bb (Str×D)}(h:QS K mg y e)(r:∀x d,l.lookup x=M d->QS K mg x d):∀x d,((y,e)::l).lookup x=M d->QS K mg x d:=look h r
theorem csW{x:Str}{a:Uz}{d:D}(h:mg x=M (.ref a))(k:∀O H,DV O K H (.ref a) d):QS K mg x d:=#[.ref a,_,h,W,k]
theorem clN:∀C L,([]:bb (Str×bb Str)).lookup C=M L->jX K C L:=λ_ _ h=>nomatch h
theorem clC{y:Str}{e:bb Str}{l:bb (Str×bb Str)}(h:jX K y e)(r:∀x d,l.lookup x=M d->jX K x d):∀x d,((y,e)::l).lookup x=M d->jX K x d:=look h r
abbrev Uq(K:lD)(mg:Str->z Ut)(x:Str):Prop:=∃C,U8 K UY x=M (M (.ref C))/\mg x=M (.ref C)/\Xu K C RL "ValueError.__new__"=Uv
theorem exN:∀x∈([]:bb Str),Uq K mg x:=λ_ h=>nomatch h
end
end CC
set_option warn.classDefReducibility false
namespace CC
open PySem L2 L3 L10
variable{T:bb Fd}
noncomputable instance:BOp Ec:=GC .Pow #[_,Na,Jl]
noncomputable instance[g:CE T (eo a)]:CE T (eo (BK a)) where
 chk Γ e:=(RQ e).any λy=>(match y.1 with|.Not=>S|_=>R)&&g.chk Γ y.2
 ok c h:=by let((o,e),q,b):=a8 h;let(_,rfl):=xw q;rw[Uu]at b;let(t,f,d):=g.ok c b.2;ext o<;>first|show#[_,Pc f,Nq d]|cases b.1
end CC
set_option warn.classDefReducibility false
namespace CC
open PySem L2 L3 L10
variable{T:bb Fd}{A B C J:Jd TE}{U Z:Jd TA}{Q R:Jd TT}
noncomputable instance:CB EF:=#["any",_,Rn,.inl #[_,W],λh=>#[_,EB h,LZ]]
end CC
set_option warn.classDefReducibility false
namespace CC
open PySem L2 L3 L10
variable{T:bb Fd}{A B C J:Jd TE}{U Z:Jd TA}{Q R:Jd TT}
theorem xU{a:Gm}{X:Cx}{E:XK}(c:Ct T a X E):X.A.units+64<cLine:=c.rm.units
noncomputable instance:CE T (es tZ) where
 chk _ e:=(S3 e).any λy=>y.1.isEmpty&&y.2.isEmpty
 ok _ h:=by let((k,v),q,a):=a8 h;let(_,rfl):=Ce q;simp only[Uu,Vs]at a;let(rfl,rfl):=a;show#[_,LD.pe_ddnew,BP]
noncomputable instance[x:CE T (es a)][y:CE T (es b)]:CE T (es (AH a b)) where
 chk o e:=(S3 e).any λz=>match z.1,z.2 with
  |[M k],[v]=>x.chk o k&&y.chk o v
  |_,_=>Ux
 ok {o X E e} c h:=by
  let((f,p),q,d):=a8 h;let(_,rfl):=Ce q
  match f,p,d with
  |[M k],[v],d=>simp only[Uu]at d;let(n,l,j):=x.ok c d.1;let(m,i,g):=y.ok c d.2;show#[_,LD.pe_dd1 (xU c) l i,JQ j g]
noncomputable instance[x:CE T (es d)][y:CE T (es k)]:CE T (es (iG d k)) where
 chk Γ e:=(tG e).any λp=>iX p.2.1&&x.chk Γ p.1&&y.chk Γ p.2.1
 ok c h:=by let(p,q,a):=a8 h;simp only[Uu]at a;let(l,i,g):=x.ok c a.1.2;let(j,f,b):=y.ok c a.2;rw[gR q];show#[_,LD.pe_ddget (xU c) i f (t7 a.1.1),Bc g b]
def K5(op:ace)(x y:Gm->U4->Bool)(a:Gm)(e:U4):Bool:=(Qo op e).any λp=>x a p.1&&y a p.2
def Qc(neg:Bool):ace:=if neg then .NotIn else .In
def DH{neg:Bool}[x:CE T (es k)][y:CE T (es d)]{l X E e}(c:Ct T l X E)(h:K5 (Qc neg) x.chk y.chk l e=S):∃t,PE X e t/\PT X e (tB t)/\ce X.K E t (qh neg k d):=by
 let(p,q,g):=a8 h;rw[Uu]at g;let(_,rfl,a):=tV q;let(n,f,j):=x.ok c g.1;let(m,b,i):=y.ok c g.2;cases neg with
 |false=>show#[_,xM (LD.pc_ddin (xU c) f b) a,yf (LD.pc_ddin (xU c) f b) a,vL j i]
 |true=>show#[_,xM (LD.pc_ddnin (xU c) f b) a,yf (LD.pc_ddnin (xU c) f b) a,vL j i]
noncomputable instance[x:CE T (es k)][y:CE T (es d)]:CT T (ki (bc (qh neg k d))):=#[K5 (Qc neg) x.chk y.chk,λc h=>let#[_,_,h1,a]:=DH c h;#[_,h1,Co a]]
noncomputable instance[x:CE T (es d)][y:CE T (es k)][p:CE T (es v)]:CU T (WJ (mv d k v)) where
 chk Γ s:=(pS s).any λr=>(tG r.1).any λw=>iX r.2&&x.chk Γ w.1&&y.chk Γ w.2.1&&p.chk Γ r.2
 ok c h:=by let((b,e),q,m):=a8 h;let(_,rfl):=iu q;let(w,f,a):=a8 m;let p:b=_:=gR f;subst p;simp only[Uu]at a;let(((l,j),i),g):=a;let(t,k1,k2):=x.ok c j;let(o,k3,k4):=y.ok c i;let(n,k5,k6):=CK.ok c g;show#[_,LD.ps_ddput (xU c) k1 k3 k5 (Kz l),Bp k2 k4 k6]
def LO:Wk->z (U4×aba×U4)
 |.AugAssign t o e _=>M (t,o,e)
 |_=>P
theorem F4{s:Wk}(h:LO s=M x):∃p,s=.AugAssign x.1 x.2.1 x.2.2 p:=ra (P:=λx=>∃p,s=.AugAssign x.1 x.2.1 x.2.2 p) (by ext s<;>first|show trivial|show#[_,W]) h
class IOp (f:D->D->z RV) where
 op:aba
 ok:∀{X:Cx},∃ti,R0 X op ti/\iZ X.K ti f
noncomputable instance:IOp My:=#[.Add,#[_,Kg,Bt]]
noncomputable instance[o:IOp f][x:CE T (es a)]:CU T (WJ (BO i f a)) where
 chk Γ s:=(LO s).any λy=>decide (y.2.1=o.op)&&(DZ i Γ y.1&&x.chk Γ y.2.2)
 ok c h:=by let((d,op,e),q,b):=a8 h;let(_,rfl):=F4 q;simp only[Uu,decide_eq_true_eq]at b;let(rfl,r,n):=b;let(t,m,l):=x.ok c n;let(y,p,z,k1,k2,k3):=oG c r;let z:d=_:=z;subst z;let(u,j,g):=o.ok;show#[_,MD c.nd k1 k2 m j k3,G9 g l]
noncomputable instance[g:CT T (ki q)][m:CS T (WJ b)]:CU T (WJ (mG q b)) where
 chk Γ s:=Γ.fa&&(Qs s).any λy=>g.chk Γ y.1&&m.chk Γ y.2
 ok c h:=by rw[Uu]at h;let(y,q,a):=a8 h.2;let(_,rfl):=Ho q;rw[Uu]at a;let(t,e,d):=g.ok c a.1;let(f,k1,k2):=m.ok c a.2;show#[_,Fp (c.po h.1) e k1,AG d k2]
def vD:D->V
 |.int i=>.int i
 |_=>.WL
class alA (l:G D):Prop where
 h:∀K O H,Wb O K H (l.map vD) l
abbrev fdD(ds:G D)(lv:Nat)(x:Str)(b:G Str)(n:Nat)(F:fJ):Fd:=λP w K a base=>Dv P w K a base (L4.kK P w) lv x b (ds.map vD) (jR K n F)
abbrev afx(lv:Nat)(C:Str)(b:G Str)(n:Nat)(F:fJ):Fd:=λP w K a base=>v3 P w K a base (L4.kK P w) lv C b (jR K n F)
class FKE (T:G Fd) (C:Str) (F:fJ) (n:Nat) where
 i:Nat
 lv:Nat
 ps:G Str
 h:T[i]?=M (afx lv C ps n F)
noncomputable instance{C:Str}[o:FKE T C F n][x:CE T (es a)][u:CA T (as b)]:CE T (es (Bw C F n (aj a b))) where
 chk Γ e:=Γ.rz&&(Γ.M.cl.lookup C).isSome&&(PR Γ o.i (o.lv+1) C e).any λy=>CK.chk T PA (as (aj a b)) Γ (y.1::y.2.1)
 ok c h:=by simp only[Uu]at h;let(L,j):=V9.mp h.1.2;let(y,q,m):=a8 h.2;let(rfl,g,i,f,d):=qS q;let(v,r,_):=mH c g;let(t,p,l):=CK.ok c m;show#[_,Ky (c.fs _ _ i o.h) (Db c h.1.1) c.rm p f v r (d7 d) (jr d),Pv (c.md.cl _ _ j) l]
abbrev fdX(lv:Nat)(x f:Str):Fd:=λP w K b base=>∃(C B fI:I) (d:Obj) (a:VG) (e:G Str),L9.XC K C B fI/\K.lookup fI=M d/\WH K (.ref fI)=S/\FnOk P w K b base jY lv fI a e (L9.tT C f)/\Binds K a e []/\U8 K UY x=M (M (.ref C))/\b x=M (.ref C)
class FX (T:G Fd) (x f:Str) where
 i:Nat
 lv:Nat
 h:T[i]?=M (fdX lv x f)
noncomputable instance{k f:Str}[o:FX T k f][x:CE T (es a)]:CU T (WJ (lF k f a)) where
 chk i s:=i.rz&&(Rb s).any λe=>(PR i o.i (o.lv+1) k e).any λy=>y.2.1.isEmpty&&x.chk i y.1
 ok {i X E s} c h:=by rw[Uu]at h;let(O,M):=h;let(e,q,L):=a8 M;let(_,rfl):=HI q;let((e0,l,p1,p2),v,b):=a8 L;let(rfl,g,hi,H,m):=qS v;simp only[Uu,Vs]at b;let(rfl,b):=b;let(u,P,_):=mH c (x:=k) g;let(C,B,fI,oI,S,ps,I,F,G,FI,Y,w,z):=c.fs _ _ hi o.h;let(t,r,K):=x.ok c b;let p:=c.rm.mono H;let(N,n,d,f,cd,A,j,s0,H0,e):=c.px O;show#[_,?_,wP w K];rw[e]at u r p⊢;show L9.BH I F G FI Y p u z (fu r km (d7 m)) P (d7 m) (jr m)
def agg{P:UZ}{w:Vf}{K:lD}{r:Str->z Ut}{base:Heap}{f:I}{fd:VG}{M:Md}{a x:Str}{N q:G Str}{k n top:Nat}{d:Wk}{g:dH}{e:fJ}{TT:I}{o:Array Ut}[c:CS T (WJ g)](j:aaV K r M)(fs:∀i fd,i<top->T[i]?=cL fd->fd P w K r base)(F:aaO K x a d f fd TT o)(h:V6 T (WJ g) M N q d k top Uv=Uv)(t:q.length=n:=by rfl)(m:e=cH N.length g:=by rfl):FnOk P w K r base (L4.kK P w) (k+1) f fd q (jR K n e):=by let h:=(Uu _ _).mp h;let S:=sX h.1;show Rf F S t W m λp A b s H E l=>c.ok (Tj j fs S l) h.2
end CC
set_option warn.classDefReducibility false
namespace CC
open PySem L2 L3 L10
variable{T:bb Fd}{A B C J:Jd TE}{U Z:Jd TA}{Q R:Jd TT}
abbrev SX(lv:Nat)(x f g:Str):Fd:=λP w K b base=>∃(C B fI:I) (d:Obj) (a:VG) (e:G Str),L9.XC K C B fI/\K.lookup fI=M d/\WH K (.ref fI)=S/\FnOk P w K b base jY lv fI a e (L9.D8 C f g)/\Binds K a e []/\U8 K UY x=M (M (.ref C))/\b x=M (.ref C)
class FX2 (T:G Fd) (x f g:Str) where
 i:Nat
 lv:Nat
 h:T[i]?=M (SX lv x f g)
end CC
set_option warn.classDefReducibility false
namespace CC
open PySem L2 L3 L10
variable{T:bb Fd}{A B C J:Jd TE}{U Z:Jd TA}{Q R:Jd TT}
noncomputable instance:BOp uj:=GC .Add #[_,Jm,DC]
noncomputable instance[x:CE T (es a)]:CE T (es (wj a)) where
 chk N e:=(EX N "list" e).any λy=>y.2.1.isEmpty&&(EX N "reversed" y.1).any λz=>z.2.1.isEmpty&&x.chk N z.1
 ok {N X E e} c h:=by let((e,l,K,I),q,f):=a8 h;let(rfl,g,j):=kj q;simp only[Uu,Vs]at f;let(rfl,p):=f;let((e2,L,H,G),i,d):=a8 p;let(z,r,b):=kj i;let z:e=_:=z;subst z;simp only[Uu,Vs]at d;let(rfl,o):=d;let(t,n,m):=x.ok c o;let(F,w,_):=mf c g;let(v,u,_):=mf c r;show#[_,wX c.cm F w v u n (d7 j) (d7 b),Dp m]
noncomputable instance[CI T (KZ f)][CG T (BU g)][CQ T (ki q)][CE T (es a)]:CU T (WJ (cJ (jc (i8 n l f g q a)) (eR i))):=KP (KZ f) (BU g) (ki q) (es a) n l i λm j h e d b=>sR (yO (vG m j h e d b)) pQ
end CC
set_option warn.classDefReducibility false
namespace CC
open PySem L2 L3 L10
variable{T:bb Fd}
end CC
set_option warn.classDefReducibility false
namespace CC
open PySem L2 L3 L10
variable{T:bb Fd}{A B:Jd TE}
end CC
namespace M02
inductive Con(E:G (Nat×Nat))(r0:Nat):Bool->Nat->Prop
 |base:Con E r0 S r0
 |col {r c:Nat}:Con E r0 S r->(r,c)∈E->Con E r0 R c
 |row {r c:Nat}:Con E r0 R c->(r,c)∈E->Con E r0 S r
def has(n c:Nat):Prop:=n.testBit c=S
structure Nums(E:G (Nat×Nat))(R C:Nat)(ns:G Nat):Prop where
 len:ns.length=R
 lt:∀n∈ns,n<2^C
 own:∀r c,(r,c)∈E->has (ns.getD r 0) c
 snd:∀r,r<R->∀c,has (ns.getD r 0) c->Con E r Ux c
abbrev NF:=G Nat×G Nat
structure aof(E:G (Nat×Nat))(r0:Nat)(s:NF):Prop where
 a:r0∈s.1
 n:∀x∈s.1,Con E r0 S x
 f:∀x∈s.2,Con E r0 R x
 d:s.2.Nodup
 d1:s.1.Nodup
structure aoC(R C:Nat)(ss:G (Nat×Nat)):Prop where
 r1:1<=R
 r6:R<=6
 c1:1<=C
 c6:C<=6
 l1:1<=ss.length
 l12:ss.length<=12
 nd:ss.Nodup
 inn:∀s∈ss,s.1<R/\s.2<C
end M02
local macro_rules(kind:=«term{_}»)|`({$a})=>`(L3.ae $a L3.aq)|`({$a,$b})=>`(L3.ae $a (L3.ae $b L3.aq))|`({$a,$b,$c})=>`(L3.ae $a (L3.ae $b (L3.ae $c L3.aq)))|`({$a,$b,$c,$d})=>`(L3.ae $a (L3.ae $b (L3.ae $c (L3.ae $d L3.aq))))
local macro_rules|`(~~~$n)=>`(L3.pC (.int $n))
namespace STP
open PySem L2 L3
def gC:FS:=(aZ (ja (aB (aA ko (aA aO (aa 0) (~~~2)) (pC .none))) (cb (aA aO (aa 0) (~~~2))) cG)
 (cb (fY (L10.Ap 0) {eS 2 [] (im (aA aO (aa 0) (~~~0))) (gT 2 (D2 (gN 0) (D2 (gN 1) PD))) (aB (aA cj (aA aO (aa 1) (~~~0)) (pC (.str "layer")))) (aA aO (aa 1) (~~~1))})))
def dA:FN:=eD 1 gC
def fM:FS:=(aZ (dL (aA aO (aA aO (aA aO (aa 0) (~~~1)) (aa 1)) (aa 2)) (gN 3))
 (aZ (ja (aB (aA cj (aA aO (aa 3) (~~~0)) (pC (.str "below")))) (cb (aA aO (aA aO (aA aO (aa 0) (~~~1)) (~~~0)) (aa 2))) cG)
 (cb (aa 3))))
def gO:FN:=eD 4 fM
def dM:FS:=(cb (eS 1 [1] (im (aA aO (aa 0) (~~~2))) (gN 0) (aB (fY vX {eS 1 [0] (im (aa 1)) (gN 0) dZ (aA GJ (aa 0) (aA aO (aa 1) (~~~0)))})) (aa 0)))
def bw:FN:=eD 2 dM
def eA:FS:=(aZ (kY (im (aA aO (aa 0) (~~~2))) (gN 2) (ja (aB (aA cj (fY rc {aA aO (aa 2) (~~~0)}) (fY L9.fC {aa 1}))) (cb (aA cz (cC {bj {pC (.str "letter"),aA aO (aa 2) (~~~1)}}) (aA gp (cC {pC (.tuple [(.str "none")])}) (aA mw (fY cI {aa 1}) (~~~1))))) cG))
 (cb (eS 1 [0] (im (aa 1)) (gN 0) dZ (aA aO (aA aO (aA aO (aa 1) (~~~1)) (~~~0)) (aa 0)))))
def eB:FN:=eD 3 eA
open L10
def dU:dH:=(aH (d5 "Hand" "bed" (ar 0) (ag (aa 1)))
 (aH (d5 "Hand" "acts" (ar 0) (rJ (ag (aA aO (aa 2) (~~~0)))))
 (aH (d5 "Hand" "waiting" (ar 0) (ag (aA aO (aa 2) (~~~1))))
 (aH (d5 "Hand" "once" (ar 0) (ag (aA aO (aa 2) (~~~2))))
 (d5 "Hand" "sent" (ar 0) (ag (cC aq)))))))
def cZ:fJ:=cH 3 dU
def fD:dH:=(fR (hV (aj (xE nF (aj (i8 1 [0] (ie (qU (aU "Hand" "acts" (ar 0)))) (eR 0) jy (hV (aj (ag (aa 0)) (aj (p9 (aU "Hand" "acts" (ar 1)) (ag (aa 0))) aG)))) aG)) (aj (aU "Hand" "waiting" (ar 0)) (aj (aU "Hand" "once" (ar 0)) aG)))))
def bx:fJ:=cH 1 fD
def di:dH:=(fR (xB (jd ko (aU "Hand" "waiting" (ar 0)) (ag (pC .none))) (jd GJ (ag (aa 1)) (eO (aU "Hand" "waiting" (ar 0)) (ag (~~~0))))))
def bN:fJ:=cH 2 di
def eF:dH:=(fR (jd GJ (ag (aa 1)) (u9 (aU "Hand" "acts" (ar 0)))))
def bC:fJ:=cH 2 eF
def gS:dH:=(aH (bS (jW (bq (aB (aA cj (aA aO (aa 2) (~~~0)) (pC (.str "letter"))))) (sD (bc (aM "Hand" "has_act" bC 2 (ar 0) (aj (ag (aa 2)) aG))))) (bv (pf (aU "Hand" "sent" (ar 0)) (ag (bj {aA aO (aa 2) (~~~1),pC (.str "down")})))) bX)
 (rQ (aU "Hand" "acts" (ar 0)) (ag (aa 1)) (ag (aa 2))))
def bp:fJ:=cH 3 gS
def jF:dH:=(aH (cJ (rY (aU "Hand" "acts" (ar 0)) (ag (aa 1))) (eR 2))
 (bS (jW (bq (aB (aA cj (aA aO (aa 2) (~~~0)) (pC (.str "letter"))))) (sD (bc (aM "Hand" "has_act" bC 2 (ar 0) (aj (ag (aa 2)) aG))))) (bv (pf (aU "Hand" "sent" (ar 0)) (ag (bj {aA aO (aa 2) (~~~1),pC (.str "up")})))) bX))
def iA:fJ:=cH 3 jF
def fq:dH:=(aH (cJ (eO (aU "Hand" "waiting" (ar 0)) (ag (~~~0))) (eR 1))
 (aH (cJ (eO (aU "Hand" "waiting" (ar 0)) (ag (~~~2))) (eR 2))
 (aH (d5 "Hand" "waiting" (ar 0) (ag (pC .none)))
 (aH (cJ (jc (K6 (bq (aB (aA cj (aa 2) (pC (.tuple [(.str "chord")]))))) (gX eB 2 (aj (aU "Hand" "bed" (ar 0)) (aj (ag (aa 1)) aG))) (ag (cC {bj {pC (.str "layer"),aA aO (aa 2) (~~~2)}})))) (eR 3))
 (tF (kg (AN {aa 1,aa 3})) (K4 2 (rb (eR 4) (rb (eR 5) Bx))) (bv (aM "Hand" "come" bp 3 (ar 0) (aj (ag (aa 4)) (aj (ag (aa 5)) aG)))))))))
def cB:fJ:=cH 6 fq
def cU:dH:=(aH (bS (BT (bc (jd lZ (aU "Hand" "waiting" (ar 0)) (ag (pC .none)))) (BT (bc (jd kQ (eO (aU "Hand" "waiting" (ar 0)) (ag (~~~2))) (ag (pC (.tuple [(.str "chord")]))))) (bc (jd kQ (gX dA 1 (aj (aM "Hand" "stands" bx 1 (ar 0) aG) aG)) (ag (~~~0)))))) (fR (ag (pC (.bool R)))) bX)
 (fR (jd kQ (gX bw 2 (aj (aU "Hand" "bed" (ar 0)) (aj (jd cz (eO (aU "Hand" "waiting" (ar 0)) (ag (~~~0))) (ag (bj {aa 1}))) aG))) (ag (cC aq)))))
def cS:fJ:=cH 2 cU
def cN:dH:=(aH (cJ (jd cz (eO (aU "Hand" "waiting" (ar 0)) (ag (~~~0))) (ag (bj {aa 1}))) (eR 2))
 (aH (d5 "Hand" "waiting" (ar 0) (hV (aj (ag (aa 2)) (aj (eO (aU "Hand" "waiting" (ar 0)) (ag (~~~1))) (aj (ag (pC (.tuple [(.str "chord")]))) aG)))))
 (bS (bc (jd cj (i8 1 [] (ie (gX bw 2 (aj (aU "Hand" "bed" (ar 0)) (aj (ag (aa 2)) aG)))) (eR 0) jy (ag (fY cI {aA aO (aa 0) (~~~0)}))) (ag (cC {fY cI {aa 2}})))) (bv (aM "Hand" "decide" cB 1 (ar 0) aG)) bX)))
def cM:fJ:=cH 3 cN
def gh:dH:=(aH (cJ (gX dA 1 (aj (aM "Hand" "stands" bx 1 (ar 0) aG) aG)) (eR 2))
 (aH (cJ (gX gO 3 (aj (aU "Hand" "bed" (ar 0)) (aj (ag (aa 2)) (aj (ag (aa 1)) aG)))) (eR 3))
 (aH (cJ (ag (aA aO (aa 3) (~~~0))) (eR 4))
 (aH (bS (bq (aB (aA uN (aa 4) (bj {pC (.str "layer"),pC (.str "once")})))) (d5 "Hand" "once" (ar 0) (ag (pC .none))) bX)
 (bS (bq (aB (aA cj (aa 4) (pC (.str "tap"))))) (d5 "Hand" "waiting" (ar 0) (ag (bj {bj {aa 1},~~~0,aa 3}))) (bS (jW (bq (aB (aA cj (aa 4) (pC (.str "letter"))))) (jW (bq (aB (aA cj (aa 2) (~~~0)))) (bc (jd kQ (gX bw 2 (aj (aU "Hand" "bed" (ar 0)) (aj (ag (bj {aa 1})) aG))) (ag (cC aq)))))) (d5 "Hand" "waiting" (ar 0) (ag (bj {bj {aa 1},~~~0,pC (.tuple [(.str "chord")])}))) (bS (bq (aB (aA cj (aa 4) (pC (.str "once"))))) (aH (bv (aM "Hand" "come" bp 3 (ar 0) (aj (ag (aa 1)) (aj (ag (pC (.tuple [(.str "none")]))) aG))))
 (d5 "Hand" "once" (ar 0) (ag (aA aO (aa 3) (~~~1))))) (bv (aM "Hand" "come" bp 3 (ar 0) (aj (ag (aa 1)) (aj (ag (aa 3)) aG)))))))))))
def eG:fJ:=cH 5 gh
def gl:dH:=(aH (bS (BT (bc (rl R (ag (aa 1)) (aU "Hand" "acts" (ar 0)))) (bc (aM "Hand" "is_waiting" bN 2 (ar 0) (aj (ag (aa 1)) aG)))) oO bX)
 (aH (bS (bc (aM "Hand" "makes_chord" cS 2 (ar 0) (aj (ag (aa 1)) aG))) (aH (bv (aM "Hand" "put_to_chord" cM 2 (ar 0) (aj (ag (aa 1)) aG)))
 oO) bX)
 (aH (bS (bc (jd ko (aU "Hand" "waiting" (ar 0)) (ag (pC .none)))) (bv (aM "Hand" "decide" cB 1 (ar 0) aG)) bX)
 (bv (aM "Hand" "begin" eG 2 (ar 0) (aj (ag (aa 1)) aG))))))
def gf:fJ:=cH 2 gl
def fF:dH:=(aH (cJ (eO (aU "Hand" "waiting" (ar 0)) (ag (~~~2))) (eR 2))
 (bS (bq (aB (aA cj (aa 2) (pC (.tuple [(.str "chord")]))))) (bv (aM "Hand" "decide" cB 1 (ar 0) aG)) (aH (d5 "Hand" "waiting" (ar 0) (ag (pC .none)))
 (bv (aM "Hand" "come" bp 3 (ar 0) (aj (ag (aa 1)) (aj (ag (bj {pC (.str "letter"),aA aO (aa 2) (~~~1)})) aG)))))))
def eZ:fJ:=cH 3 fF
def gK:dH:=(aH (bS (bc (aM "Hand" "is_waiting" bN 2 (ar 0) (aj (ag (aa 1)) aG))) (bv (aM "Hand" "settle" eZ 2 (ar 0) (aj (ag (aa 1)) aG))) bX)
 (bS (bc (rl R (ag (aa 1)) (aU "Hand" "acts" (ar 0)))) (bv (aM "Hand" "go" iA 2 (ar 0) (aj (ag (aa 1)) aG))) bX))
def gU:fJ:=cH 2 gK
def ei:dH:=(aH (bS (bc (jd lZ (aU "Hand" "waiting" (ar 0)) (ag (pC .none)))) oO bX)
 (aH (cJ (jd cz (eO (aU "Hand" "waiting" (ar 0)) (ag (~~~1))) (ag (~~~1))) (eR 1))
 (aH (d5 "Hand" "waiting" (ar 0) (hV (aj (eO (aU "Hand" "waiting" (ar 0)) (ag (~~~0))) (aj (ag (aa 1)) (aj (eO (aU "Hand" "waiting" (ar 0)) (ag (~~~2))) aG)))))
 (bS (bc (jd cj (ag (aa 1)) (eO (aU "Hand" "bed" (ar 0)) (ag (~~~3))))) (bv (aM "Hand" "decide" cB 1 (ar 0) aG)) bX))))
def eN:fJ:=cH 2 ei
def sF:dH:=(aH (cJ (p7 "Hand" cZ 3 (aj (ag (aa 0)) (aj (ag (aa 1)) aG))) (eR 3))
 (aH (bS (bq (aB (aA cj (aA aO (aa 2) (~~~0)) (pC (.str "turn"))))) (bv (aM "Hand" "wait_on" eN 1 (ar 3) aG)) (bS (bq (aB (aA cj (aA aO (aa 2) (~~~0)) (pC (.str "down"))))) (bv (aM "Hand" "press" gf 2 (ar 3) (aj (ag (aA aO (aa 2) (~~~1))) aG))) (bv (aM "Hand" "lift" gU 2 (ar 3) (aj (ag (aA aO (aa 2) (~~~1))) aG)))))
 (fR (hV (aj (aU "Hand" "sent" (ar 3)) (aj (aM "Hand" "stands" bx 1 (ar 3) aG) aG))))))
def df:fJ:=cH 4 sF
end STP
local macro_rules| `(tactic|ext:4)=> `(tactic|·first|((simp only[aci,acj]);rfl)|rfl)| `(tactic|ext:2)=> `(tactic|first|with_reducible assumption|change L3.eK _ _|change L3.mM _ _|change L3.ju _ _|change L3.FL _ _|change L3.vo _ _|change L3.vj _ _|change L3.ajh _ _|change L3.ahS _ _|change L3.gj _ _|change L3.tU _ _|change L3.acB _ _|change L3.acN _ _|change L3.agr _ _|change L3.aht _ _|change L3.sV _ _|change L3.agQ _ _|change L3.ahg _ _|change L3.afH _ _|change L3.uy _ _|change L3.afY _ _|change L3.afE _ _|change L3.ags _ _|change L3.aiM _ _|change L3.dI|change L3.eU|change L3.pN|change L3.alp|change L3.aoL|change L3.Lk|change L3.hW _|change L3.dS _|(with_reducible rfl))| `(tactic|ext:0)=> `(tactic|first
 |change L3.av
 |((with_reducible apply L3.af);rfl)
 |((with_reducible apply L3.iM);rfl)
 |change L3.aw
 |change L3.lB
 |((with_reducible apply L3.au);(·ext:0);(·ext:0);(·rfl);(·rfl);(·ext:2))
 |((with_reducible apply L3.LC);(·ext:0);(·rfl);(·rfl))
 |((with_reducible apply L3.ah);(·ext:0);(·ext:0))
 |((with_reducible apply L3.aK);(·ext:0);(·rfl))
 |((with_reducible apply L3.dh);(·ext:0);(·rfl);(·first|ext:2|rfl))
 |((with_reducible apply L3.bf);(·ext:0);(·rfl);(·rfl);(·with_reducible assumption))
 |((with_reducible apply L3.bW);(·ext:0);(·rfl);(·exact UA rfl))
 |((with_reducible apply L3.mJ);(·ext:0);(·rfl);(·exact UA rfl))
 |((with_reducible apply L3.ah3);(·ext:0);(·rfl);(·rfl))
 |((with_reducible apply L3.lP);(·ext:0);(·rfl))
 |((with_reducible apply L3.yT);(·ext:0);(·ext:0);(·ext:0);(·rfl);(·first|with_reducible assumption|rfl))
 |((with_reducible apply L3.ahi);(·ext:0))
 |((with_reducible apply L3.iT);(·ext:0);(·intro _;ext:0))
 |((with_reducible apply L3.kN);(·ext:0);(·intro _;ext:0))
 |((with_reducible apply L3.zk);(·ext:0))
 |((with_reducible apply L3.nZ);(·ext:0);(·intro _;ext:0))
 |((with_reducible apply L3.aed);(·ext:0);(·intro _;ext:0))
 |((with_reducible apply L3.GS);(·ext:0);(·rfl);(·first|with_reducible assumption|rfl))
 |((with_reducible apply L3.iP);(·ext:0);(·rfl);(·rfl))
 |((with_reducible apply L3.afU);(·ext:0);(·rfl);(·rfl))
 |((with_reducible apply L3.sH);(·rfl);(·ext:0);(·rfl);(·rfl);(·first|with_reducible assumption|(simp only[V7,UO,L3.fG] at*;ext));ext:4)
 |((with_reducible apply L3.aiB);(·rfl);(·ext:0);(·rfl);(·rfl);(·with_reducible assumption);(·with_reducible assumption);(·with_reducible assumption);ext:4)
 |((with_reducible apply L3.yt);(·ext:0);(·rfl);ext:4)
 |((with_reducible apply L3.zG);(·ext:0))
 |((with_reducible apply L3.tY);(·ext:0);(·rfl)))
local macro_rules| `(tactic|ext:6)=> `(tactic|first
 |((with_reducible apply L3.ajk);(·ext:0);(·ext:0);(·rfl);(·rfl);(·ext:2))
 |((with_reducible apply L3.ahq);(·ext:0);(·rfl);(·rfl);(·with_reducible assumption))
 |((with_reducible apply L3.ajp);(·ext:0);(·rfl);(·first|ext:2|rfl))
 |ext:0)
local macro_rules| `(tactic|ext:0)=> `(tactic|first
 |with_reducible assumption
 |((with_reducible apply L3.nZ);(·ext:0);(·intro _;ext:6))
 |((with_reducible apply L3.aed);(·ext:0);(·intro _;ext:6))
 |((with_reducible apply L3.af7);(·ext:0);(·ext:0);(·ext:0);(·rfl);(·rfl);(·rfl);(·ext:2);(·intro _;ext:2))
 |((with_reducible apply L3.yS);(·ext:0);(·rfl);(·rfl);(·rfl)))
local macro_rules| `(tactic|ext:1)=> `(tactic|first
 |((with_reducible apply L3.b9);(·ext:0);(·rfl);ext:4;try ext:1)
 |((with_reducible apply L3.ahb);(·ext:0);try ext:1)
 |((with_reducible apply L3.yz);try ext:1)
 |((with_reducible apply L3.cK);try ext:1)
 |((with_reducible apply L3.dJ);(·ext:0);(·rfl))
 |((with_reducible apply L3.gD);(·ext:0))
 |((with_reducible apply L3.ahT);(·ext:0);(·rfl);ext:4)
 |((with_reducible apply L3.oJ);(·ext:0))
 |((with_reducible apply L3.dw);(·ext:0);(·rfl))
 |((with_reducible apply L3.zq);(·ext:0))
 |(with_reducible apply L3.oA))
namespace STP
open PySem L2 L3
def iB(c:Nat):Str:=#[#v[97+c]]
inductive Mn where
 |Vd (c:Nat)
 |WX (n:Int)
 |Zl (c:Nat) (n:Int)
 |once (n:Int)
 |none
 |below
 deriving DecidableEq
def mD:Mn->D
 |.Vd c=>.tuple [.str "letter",.str (iB c)]
 |.WX n=>.tuple [.str "layer",.int n]
 |.Zl c n=>.tuple [.str "tap",.str (iB c),.int n]
 |.once n=>.tuple [.str "once",.int n]
 |.none=>.tuple [.str "none"]
 |.below=>.tuple [.str "below"]
def VM(L a:Int):Mn->Prop
 |.Vd c=>c<26
 |.WX n=>1<=n/\n<a
 |.Zl c n=>c<26/\1<=n/\n<a
 |.once n=>1<=n/\n<a
 |.none=>True
 |.below=>L≠0
def Mn.isL:Mn->Bool
 |.Vd _=>S
 |_=>R
structure Bd where
 n:Int
 ls:G (G Mn)
 cs:G (G Nat×Nat)
 wt:Int
def db(l:G Mn):D:=.tuple (l.map mD)
def V6(c:G Nat×Nat):D:=.tuple [.tuple (bt c.1),.str (iB c.2)]
def bD(b:Bd):D:=.tuple [.int b.n,.tuple (b.ls.map db),.tuple (b.cs.map V6),.int b.wt]
def VL(n a:Int)(b:G (G Mn)):Prop:=∀(i:Nat) l,b[i]?=M l->(l.length:Int)=n/\∀m∈l,VM i a m
def wK(l0:G Mn)(k:Nat):Bool:=(l0[k]?.map Mn.isL).getD R
def VC(l0:G Mn)(c:G Nat×Nat):Prop:=2<=c.1.length/\c.1.Pairwise (·<·)/\(∀k∈c.1,wK l0 k=S)/\c.2<26
structure VB(b:Bd):Prop where
 n1:1<=b.n
 n5:b.n<=5
 l1:1<=b.ls.length
 l3:b.ls.length<=3
 vl:VL b.n b.ls.length b.ls
 c4:b.cs.length<=4
 vc:∀c∈b.cs,VC (b.ls.headD []) c
 cu:b.cs.Pairwise λa c=>a.1≠c.1
 w1:1<=b.wt
 w4:b.wt<=4
def wn:Mn->Nat
 |.Vd _=>0
 |.WX _=>1
 |.Zl _ _=>2
 |.once _=>3
 |.none=>4
 |.below=>5
def ws:Nat->Str
 |0=> "letter"
 |1=> "layer"
 |2=> "tap"
 |3=> "once"
 |4=> "none"
 |_=> "below"
def wd(m:Mn):Str:=ws (wn m)
def nz(m:Mn):wn m<6:=by ext m<;>show UA W
def lL(m:Mn):aO (mD m) (.int 0)=M (.fz (.str (wd m))):=by ext m<;>show dI
theorem LP(m:Mn):UB.strOk (wd m)=S:=(by left:∀i,i<6->UB.strOk (ws i)=S) _ (nz m)
def vF:∀i,i<6->∀j,j<6->(ws i==ws j)=decide (i=j):=by left
def wc(m:Mn)(j:Nat)(a:j<6):cj (.str (wd m)) (.str (ws j))=M (.fz (.bool (decide (wn m=j)))):=by rw[Sl (LP m) ((by left:∀i,i<6->UB.strOk (ws i)=S) j a)];ext wd;rw[vF _ (nz m) _ a]
def Mn.isB:Mn->Bool
 |.below=>S
 |_=>R
def Mn.acb:Mn->Bool
 |.WX _=>S
 |_=>R
def Mn.isT:Mn->Bool
 |.Zl _ _=>S
 |_=>R
def Mn.isO:Mn->Bool
 |.once _=>S
 |_=>R
theorem ig(m:Mn):cj (.str (wd m)) (.str "letter")=M (.fz (.bool m.isL)):=(wc m 0 ()).trans (by ext m<;>rfl)
theorem EI(m:Mn):cj (.str (wd m)) (.str "below")=M (.fz (.bool m.isB)):=(wc m 5 ()).trans (by ext m<;>rfl)
theorem El(m:Mn):cj (.str (wd m)) (.str "layer")=M (.fz (.bool m.acb)):=(wc m 1 ()).trans (by ext m<;>rfl)
theorem OA(m:Mn):cj (.str (wd m)) (.str "tap")=M (.fz (.bool m.isT)):=(wc m 2 ()).trans (by ext m<;>rfl)
theorem Jj(m:Mn):cj (.str (wd m)) (.str "once")=M (.fz (.bool m.isO)):=(wc m 3 ()).trans (by ext m<;>rfl)
def P5(m:Mn):uN (.str (wd m)) (.tuple [.str "layer",.str "once"])=M (.fz (.bool (!(m.acb||m.isO)))):=by
 let h:∀a:Str,UB.strOk a=S->uN (.str a) (.tuple [.str "layer",.str "once"])=M (.fz (.bool (!(("layer":Str)==a||("once":Str)==a)))):=λa b=>by show(if(j8 (.str a)&&(UB.strOk "layer"&&(UB.strOk "once"&&S)))=S then M (RV.fz (.bool (!(UB.eqv (.str "layer") (.str a)||(UB.eqv (.str "once") (.str a)||false)))))else P)=_;rw[show j8 (.str a)=S by ext j8;rw[show UB.canLay0 (.str a)=S from b];rfl,show UB.strOk "layer"=S by left,show UB.strOk "once"=S by left,aaC];rfl
 rw[h _ (LP m)];ext wd;rw[show(("layer":Str)==ws (wn m))=_ from vF 1 () _ (nz m),show(("once":Str)==ws (wn m))=_ from vF 3 () _ (nz m)];ext m<;>rfl
def LB:Mn->Prop
 |.Vd c=>c<26
 |.Zl c _=>c<26
 |_=>True
def VM.lb(h:VM L nL m):LB m:=by
 cases m with
 |Vd c=>show h
 |Zl c n=>show h.1
 |_=>trivial
def ky(h:c<26):UB.strOk (iB c)=S:=by show((#v[97+c]:Array Nat).all λc=>decide (c<0x110000))=S;simp;ext
def oh(h:iB c=iB d):c=d:=by
 let:(97+c)=97+d:=by let a:=ef (λz:Str=>z.cps.toList) h;show List.head_eq_of_cons_eq a
 ext
def xZ(h:LB m):UB.canLay0 (mD m)=S:=by
 cases m with
 |Vd c=>show(UB.strOk "letter"&&(UB.strOk (iB c)&&S))=S;rw[ky h,show UB.strOk "letter"=S by left];rfl
 |WX n=>show(UB.strOk "layer"&&(S&&S))=S;left
 |Zl c n=>show(UB.strOk "tap"&&(UB.strOk (iB c)&&(S&&S)))=S;rw[ky h,show UB.strOk "tap"=S by left];rfl
 |once n=>show(UB.strOk "once"&&(S&&S))=S;left
 |none=>show(UB.strOk "none"&&S)=S;left
 |below=>show(UB.strOk "below"&&S)=S;left
def Gf(h:LB m):j8 (mD m)=S:=by ext j8;rw[xZ h];ext m<;>rfl
def mR:Mn->G D
 |.Vd c=>[.str (iB c)]
 |.WX n=>[.int n]
 |.Zl c n=>[.str (iB c),.int n]
 |.once n=>[.int n]
 |.none=>[]
 |.below=>[]
def La(m:Mn):mD m=.tuple (.str (wd m)::mR m):=by ext m<;>rfl
def Q9(a b:Mn):decide (wd a=wd b)=decide (wn a=wn b):=by
 let h:=vF _ (nz a) _ (nz b)
 assumption
theorem zF(c d:Nat):decide (iB c=iB d)=decide (c=d):=decide_eq_decide.mpr #[oh,λh=>by rw[h]]
def NJ(a b:Mn)(h:wn a=wn b):UB.eqvAll (mR a) (mR b)=decide (a=b):=by
 ext a<;>ext b<;>first|ext h|skip
 .show(decide (iB _=iB _)&&S)=_;rw[zF,Zh];show decide_eq_decide.mpr #[λh=>by rw[h],λh=>by ext h;rfl]
 .show(decide (_=_)&&S)=_;rw[Zh];show decide_eq_decide.mpr #[λh=>by rw[h],λh=>by ext h;rfl]
 .show(decide (iB _=iB _)&&(decide (_=_)&&S))=_;rw[zF,Zh,<-Bool.decide_and];show decide_eq_decide.mpr #[λh=>by rw[h.1,h.2],λh=>by ext h;show#[W,W]]
 .show(decide (_=_)&&S)=_;rw[Zh];show decide_eq_decide.mpr #[λh=>by rw[h],λh=>by ext h;rfl]
 .rfl
 .rfl
def Ny(a b:Mn):UB.eqv (mD a) (mD b)=decide (a=b):=by
 rw[La,La];show(decide (wd a=wd b)&&UB.eqvAll (mR a) (mR b))=_;rw[Q9];by_cases h:wn a=wn b
 .rw[a4 h,Ym,NJ a b h]
 .rw[a5 h,X0,a5 λz=>h (by rw[z])]
theorem zg:∀{l:G Mn},(∀m∈l,LB m)->UB.canLayAll0 (l.map mD)=S
 |[],_=>rfl
 |m::r,h=>by show(UB.canLay0 (mD m)&&UB.canLayAll0 (r.map mD))=S;rw[xZ (h m UP),zg λx a=>h x (UM _ a)];rfl
theorem zb(a:Mn):∀l:G Mn,((l.map mD).any λe=>UB.eqv e (mD a))=decide (a∈l)
 |[]=>rfl
 |m::r=>by
  rw[UU,XD,zb a r,Ny,<-Bool.decide_or]
  grind
def Kp{l:G Mn}(c:LB a)(b:∀m∈l,LB m):GJ (mD a) (.list (l.map mD))=M (.fz (.bool (decide (a∈l)))):=by show(if(j8 (mD a)&&UB.canLayAll0 (l.map mD))=S then _ else _)=_;rw[Gf c,zg b,Wn,ax W,zb]
def yK(e:α->D)(g:α->z D)(I:aQ->Prop)(xs:G α)(o:I k)(f:xs.length<=1000)(b:∀x∈xs,∀k,I k->∃c,jv gt C J (e x) k=.ok (g x,c)/\I c):j7 (dj gt C J (xs.map e) k [])=.ok (xs.filterMap g):=by
 let h:∀(xs:G α) (a:G D) (k:aQ),I k->a.length+xs.length<=1000->(∀x∈xs,∀k,I k->∃c,jv gt C J (e x) k=.ok (g x,c)/\I c)->dj gt C J (xs.map e) k a=.ok (a++xs.filterMap g):=by
  intro xs
  induction xs with
  |nil=>intro a k _ _ _;show Res.ok a=_;simp_all
  |cons x r i=>
   intro a k l f b;rw[UO]at f;let(c,n,m):=b x UP k l;rw[UU,pU n ()];let d:(a++(g x).toList).length+r.length<=1000:=by
    rw[UE];cases g x with
    |none=>rw[abJ,V7];ext
    |some y=>rw[Option.toList_some,WO];ext
   rw[i _ c m d λy j=>b y (UM _ j),Ve];cases q:g x with
   |none=>rw[aaG q];rfl
   |some y=>rw[aaH q];rfl
 rw[h xs [] k o (by simpa using f) b];rfl
def yZ(a:cP o=o):cP (M (PV.fz d)::o)=M (.fz d)::o:=by show Ga _::cP o=_;rw[a];rfl
def uB{α:Type}{k:FT}{m:FE}{c:aQ}(e f:α->D)(p:α->Bool)(xs:G α)(h:xs.length<=1000)(j:cP c=c)(d:∀x∈xs,k (M (.fz (e x))::c)=.ok (p x,M (.fz (e x))::c))(i:∀x∈xs,p x=S->m (M (.fz (e x))::c)=.ok (.fz (f x),M (.fz (e x))::c)):j7 (dj (gN 0) k m (xs.map e) (P::c) [])=.ok ((xs.filter p).map f):=by
 rw[yK e (λx=>if p x=S then M (f x)else P) (λl=>∃o,l=o::c) xs #[P,W] h ?_]
 .congr 1
  clear h d i
  induction xs with
  |nil=>rfl
  |cons x r g=>
   cases q:p x with
   |true=>rw[aaH (b:=f x) (by rw[ax q]),List.filter_cons_of_pos q,g];rfl
   |false=>rw[aaG (by rw[aE (by rw[q];simp)]),List.filter_cons_of_neg (by rw[q];simp),g]
 .rintro x a l ⟨o,rfl⟩
  cases q:p x with
  |true=>show#[_,HD W ((d x a).trans (by rw[q])) (i x a q) W (yZ j),_,W]
  |false=>show#[_,Qh W ((d x a).trans (by rw[q])) (yZ j),_,W]
theorem yx(xs:G α):xs.filter (λ_=>S)=xs:=List.filter_eq_self.mpr λ_ _=>W
def jI{α:Type}(e f:α->D)(xs:G α)(b:xs.length<=1000)(g:cP cp=cp)(d:∀x∈xs,o (M (.fz (e x))::cp)=.ok (.fz (f x),M (.fz (e x))::cp)):j7 (dj (gN 0) dZ o (xs.map e) (P::cp) [])=.ok (xs.map f):=by rw[uB e f (λ_=>S) xs b g (λ_ _=>W) λx a _=>d x a,yx]
theorem iz(p:α->Bool):∀l:G α,kL (l.map λc=>UB.bool (p c))=M (l.map p)
 |[]=>rfl
 |c::r=>by show(kL (r.map λc=>UB.bool (p c))).map (p c::·)=_;rw[iz p r];rfl
def pc(p:α->Bool)(l:G α):vX [.list (l.map λc=>UB.bool (p c))]=M (.fz (.bool (l.all p))):=by show(kL _).map (λbs=>RV.fz (.bool (bs.all id)))=_;rw[iz];simp_all
theorem qj:∀ns:G Int,l8 (ns.map UB.int)=M ns
 |[]=>rfl
 |n::r=>by show(l8 (r.map UB.int)).map (n::·)=_;rw[qj r];rfl
abbrev Ac:=Nat->z Mn
abbrev Wq:=z (G Nat×Int×z (Nat×Int))
structure Xi where
 ac:Ac
 wt:Wq
 oc:z Int
def gx(ac:Ac):G (Nat×Mn):=(UR 5).filterMap λk=>(ac k).map λa=>(k,a)
def pD(p:Nat×Mn):D:=.tuple [nd p.1,mD p.2]
def re:z (Nat×Int)->D
 |some (c,n)=>mD (.Zl c n)
 |none=>.tuple [.str "chord"]
def i4:Wq->D
 |some (b,a,w)=>.tuple [.tuple (bt b),.int a,re w]
 |none=>.none
def rA:z Int->D
 |some o=>.int o
 |none=>.none
def dB(s:Xi):D:=.tuple [.tuple ((gx s.ac).map pD),i4 s.wt,rA s.oc]
inductive Zk where
 |down (k:Nat)
 |up (k:Nat)
 |turn
def dQ:Zk->D
 |.down k=>.tuple [.str "down",nd k]
 |.up k=>.tuple [.str "up",nd k]
 |.turn=>.tuple [.str "turn",.int 0]
def fE:p∈gx ac↔p.1<5/\ac p.1=M p.2:=by
 ext gx;rw[X1];constructor
 .rintro⟨k,d,b⟩
  cases q:ac k with
  |none=>simp_all
  |some a=>rw[q]at b;ext b;show#[V5.mp d,q]
 .rintro⟨d,b⟩;show#[p.1,V5.mpr d,by rw[b];rfl]
theorem sO(ac:Ac):(gx ac).length<=5:=List.length_filterMap_le _ _
def Ng:Nat×Mn->z Int
 |(_,.WX n)=>M n
 |_=>P
def wE(ac:Ac):Int:=(((gx ac).filterMap Ng).foldl j6 P).getD 0
def nV(ac:Ac):z Int->Int
 |some o=>o
 |none=>wE ac
def C6(ac:Ac):j7 (dj (gT 2 (D2 (gN 0) (D2 (gN 1) PD))) (aB (aA cj (aA aO (aa 1) (~~~0)) (pC (.str "layer")))) (aA aO (aa 1) (~~~1)) ((gx ac).map pD) [P,P] [])=.ok (((gx ac).filterMap Ng).map .int):=by
 rw[yK pD (λp=>(Ng p).map .int) (λf=>∃d b,f=[d,b]) (gx ac) #[P,P,W] (Vk (sO ac) ()) ?_,List.map_filterMap];rintro⟨k,a⟩ _ f ⟨d,b,rfl⟩;let e1:=lL a;let e2:=El a;let e:aB (aA cj (aA aO (aa 1) (~~~0)) (pC (.str "layer"))) [M (.fz (nd k)),M (.fz (mD a))]=.ok (a.acb,[M (.fz (nd k)),M (.fz (mD a))]):=by ext:0
 show#[[M (.fz (nd k)),M (.fz (mD a))],?_,_,_,W];cases a with
 |WX n=>show HD W e (au (af W) av W W eU) W W
 |_=>show Qh W e W
def vM(s:Xi):dA [dB s]=.ok (.fz (.int (nV s.ac s.oc))):=by
 show fW W ?_;let e2:aO (dB s) (.int 2)=M (.fz (rA s.oc)):=pN;let e0:aO (dB s) (.int 0)=M (.fz (.tuple ((gx s.ac).map pD))):=dI;ext gC;cases q:s.oc with
 |some o=>
  rw[q]at e2;let e3:ko (rA (M o)) .none=M (.fz (.bool S)):=W;ext:1
  .intro _;show dJ (by ext:0) W W
  .intro h;ext h
 |none=>
  rw[q]at e2;let e3:ko (rA P) .none=M (.fz (.bool R)):=W;ext:1
  .intro h;ext h
  .intro _;show cK (dw (dh (rv:=.fz (.int (wE s.ac))) (ah (d9 (by ext:0) W (C6 s.ac)) aw) W ?_) W W);show(l8 _).map _=_;rw[qj];rfl
def rj(b:Bd)(L k:Nat):Mn:=((b.ls[L]?.getD [])[k]?).getD .none
def look(b:Bd)(L:Int)(k:Nat):Mn:=if(rj b L.toNat k).isB=S then rj b 0 k else rj b L.toNat k
section
variable{b:Bd}(Z:VB b)
include Z
def KC{L k:Nat}(a:L<b.ls.length)(d:(k:Int)<b.n):∃l,b.ls[L]?=M l/\l[k]?=M (rj b L k):=by
 let f:=Z.vl L _ (UI a);let e:k<(b.ls[L]).length:=by ext
 show#[_,UI a,?_];ext rj;simp_all
def x8{L k:Nat}(d:L<b.ls.length)(a:(k:Int)<b.n):VM L b.ls.length (rj b L k):=by let(l,f,e):=KC Z d a;show(Z.vl L l f).2 _ (UX e)
def D1{L k:Nat}(e:L<b.ls.length)(a:(k:Int)<b.n):∃d,aO (.tuple (b.ls.map db)) (nd L)=M (.fz d)/\aO d (nd k)=M (.fz (mD (rj b L k))):=by let(l,f,g):=KC Z e a;show#[db l,Cy (by rw[UJ,f];rfl),Cy (by simp_all)]
def GU{L:Int}{k:Nat}(i:0<=L)(h:L<b.ls.length)(e:(k:Int)<b.n):gO [bD b,.int L,nd k]=.ok (.fz (mD (look b L k))):=by
 obtain⟨n,rfl⟩:∃n:Nat,L=(n:Int):=#[L.toNat,by ext];let g:=Z.l1;let(d,e2,e3):=D1 Z (L:=n) () e;let(f,e4,e5):=D1 Z (L:=0) () e;let e1:aO (bD b) (.int 1)=M (.fz (.tuple (b.ls.map db))):=eU;let e6:=lL (rj b n k);let e7:=EI (rj b n k);let e8:aO (.tuple (b.ls.map db)) (.int 0)=M (.fz f):=e4;let a:look b (n:Int) k=if(rj b n k).isB=S then rj b 0 k else rj b n k:=W
 rw[a];generalize rj b n k=m at e3 e6 e7 a;generalize rj b 0 k=m0 at e5 a;show fW W ?_;ext fM;ext:1
 .intro q;rw[ax q];show dJ (by ext:0) W W
 .intro q;rw[aE (by rw[q];simp)];show cK (dw (by ext:0) W W)
def sL{L:Int}{k:Nat}(f:0<=L)(h:L<b.ls.length)(e:(k:Int)<b.n):VM L b.ls.length (look b L k)/\look b L k≠.below:=by
 let g:=Z.l1;let a:=x8 Z (L:=0) (k:=k) () e;let v:=x8 Z (L:=L.toNat) (k:=k) () e;let d:rj b 0 k≠.below:=λz=>by rw[z]at a;show a W
 rw[Zf f]at v;ext look;split
 .show#[?_,d]
  generalize rj b 0 k=m at a d;cases m with
  |below=>show a7 W d
  |_=>show a
 .rename_i q;show#[v,λz=>?_];rw[z]at q;show q W
omit Z in
theorem FH(ks:bb Nat)(a:ks.length<=5)(c:bb Nat×Nat):aB (fY vX {eS 1 [0] (im (aa 1)) (gN 0) dZ (aA GJ (aa 0) (aA aO (aa 1) (~~~0)))}) [cL (.fz (V6 c)),cL (.fz (.tuple (bt ks)))]=.ok (ks.all λk=>decide (k∈c.1),[cL (.fz (V6 c)),cL (.fz (.tuple (bt ks)))]):=by
 have e:j7 (dj (gN 0) dZ (aA GJ (aa 0) (aA aO (aa 1) (~~~0))) (bt ks) [Ld,cL (.fz (V6 c))] [])=.ok (ks.map λk=>.bool (decide (k∈c.1))):=jI nd (λk=>.bool (decide (k∈c.1))) ks (by ext) rfl λk _=>by have e0:aO (V6 c) (.int 0)=cL (.fz (.tuple (bt c.1))):=dI;exact au (rv:=.fz (.bool (decide (k∈c.1)))) (af rfl) (by ext:0) rfl rfl (uy _ _)
 exact aK (dh (rv:=.fz (.bool (ks.all λk=>decide (k∈c.1)))) (ds:=[.list (ks.map λk=>.bool (decide (k∈c.1)))]) (ah (d9 (cs:=[V6 c]) (ds:=bt ks) (by ext:0) rfl e) aw) rfl (pc _ _)) rfl
def d6(b:Bd)(a:G Nat):G (G Nat×Nat):=b.cs.filter λc=>a.all λk=>decide (k∈c.1)
def zV(a:o.length<=5):bw [bD b,.tuple (bt o)]=.ok (.ow ((d6 b o).map V6)):=by let e2:aO (bD b) (.int 2)=M (.fz (.tuple (b.cs.map V6))):=pN;let d:=Z.c4;show fW W ?_;ext dM;show dw (d9 (cs:=[.tuple (bt o)]) (by ext:0) W (uB V6 V6 (λc=>o.all λk=>decide (k∈c.1)) b.cs () W (λc _=>FH o a c) λc _ _=>af W)) W W
def nM(a:G Nat):G Nat:=(jx (a.map ZX)).map aa2
omit Z in
theorem qE(ks:bb Nat):(nM ks).Perm ks:=by have h:=(dX (ks.map ZX)).map aa2;rw[Vn]at h;exact h.trans (by rw[show(aa2∘ZX)=id from funext λx=>rfl,List.map_id])
omit Z in
theorem Kr(ks:bb Nat):(jx (ks.map ZX)).map UB.int=bt (nM ks):=by unfold nM bt;rw[Vn];refine XQ λx a=>?_;obtain⟨n,_,rfl⟩:=U6.mp ((dX _).mem_iff.mp a);rfl
omit Z in
theorem ye(ks:bb Nat):(nM ks).Pairwise (·<=·):=by
 have h:∀l:bb Int,l.Pairwise (·<=·)->(l.map aa2).Pairwise (·<=·):=λl h=>by rw[Yg];exact h.imp λh=>by ext
 exact h _ (dC _)
omit Z in
theorem G0(ks:bb Nat):(nM ks).length=ks.length:=(qE ks).length_eq
omit Z in
theorem vA{ks:bb Nat}(h:ks.length<64):L9.fC [.tuple (bt ks)]=cL (.ow (bt (nM ks))):=by
 have e:bt ks=(ks.map ZX).map UB.int:=by rw[Vn];rfl
 show(match l8 (bt ks)with
  |some a=>if a.length<64 then cL (RV.ow ((jx a).map .int))else Ld
  |none=>Ld)=_
 rw[e,qj];dsimp only;rw[ax (by rw[Uy];exact h),Kr]
def Q3(b:Bd)(a:G Nat):G Mn:=match b.cs.find? λc=>decide (c.1=nM a)with
 |some c=>.Vd c.2::UH (a.length - 1) .none
 |none=>a.map (rj b 0)
omit Z in
omit Z in
theorem Rq(n:Nat)(d:D):(UH n [d]).flatten=UH n d:=by
 induction n with
 |zero=>rfl
 |succ n a=>rw[VJ,Wz,a];rfl
def Nx{n:bb Nat}(G:1<=n.length)(F:n.length<=5)(B:∀k∈n,(k:Int)<b.n):eB [bD b,.tuple (bt n)]=.ok (.ow ((Q3 b n).map mD)):=by
 let e2:aO (bD b) (.int 2)=M (.fz (.tuple (b.cs.map V6))):=pN;let e1:aO (bD b) (.int 1)=M (.fz (.tuple (b.ls.map db))):=eU;let E:=Z.l1;let i:=vA (ks:=n) ();show fW W ?_;ext eA;let rt:∀c:bb Nat×Nat,(aA cz (cC {bj {pC (.str "letter"),aA aO (aa 2) (~~~1)}}) (aA gp (cC {pC (.tuple [(.str "none")])}) (aA mw (fY cI {aa 1}) (~~~1)))) [M (.fz (bD b)),M (.fz (.tuple (bt n))),M (.fz (V6 c))]=.ok (.ow ((Mn.Vd c.2::UH (n.length - 1) Mn.none).map mD),[M (.fz (bD b)),M (.fz (.tuple (bt n))),M (.fz (V6 c))]):=λc=>by
  let l:aO (V6 c) (.int 1)=M (.fz (.str (iB c.2))):=eU;let j:gp (.list [.tuple [.str "none"]]) (.int (((bt n).length:Int) - 1))=M (.ow (UH (n.length - 1) (.tuple [.str "none"]))):=by rw[fG,show((n.length:Int) - 1)=((n.length - 1:Nat):Int) by ext];show(NG () ()).trans (by rw[Rq])
  let y:cz (.list [mD (.Vd c.2)]) (.list (UH (n.length - 1) (.tuple [.str "none"])))=M (.ow ((Mn.Vd c.2::UH (n.length - 1) Mn.none).map mD)):=by show(if 1+(UH (n.length - 1) (UB.tuple [.str "none"])).length<=1000000 then M (RV.ow ([mD (.Vd c.2)]++UH (n.length - 1) (UB.tuple [.str "none"])))else P)=_;rw[VR,ax (),UU,List.map_replicate];rfl
  show au (by ext:0) (au (by ext:0) (au (by ext:0) av W W (mM _ _)) W W j) W W y
 let f:∀(e:bb (bb Nat×Nat)) (o:bg PV),(∀c,e.find? (λc=>decide (c.1=nM n))=M c->nU (gN 2) (ja (aB (aA cj (fY rc {aA aO (aa 2) (~~~0)}) (fY L9.fC {aa 1}))) (cb (aA cz (cC {bj {pC (.str "letter"),aA aO (aa 2) (~~~1)}}) (aA gp (cC {pC (.tuple [(.str "none")])}) (aA mw (fY cI {aa 1}) (~~~1))))) cG) (e.map V6) [M (.fz (bD b)),M (.fz (.tuple (bt n))),o]=.ok (.rt (.ow ((Mn.Vd c.2::UH (n.length - 1) Mn.none).map mD))))/\
   (e.find? (λc=>decide (c.1=nM n))=P->∃u,nU (gN 2) (ja (aB (aA cj (fY rc {aA aO (aa 2) (~~~0)}) (fY L9.fC {aa 1}))) (cb (aA cz (cC {bj {pC (.str "letter"),aA aO (aa 2) (~~~1)}}) (aA gp (cC {pC (.tuple [(.str "none")])}) (aA mw (fY cI {aa 1}) (~~~1))))) cG) (e.map V6) [M (.fz (bD b)),M (.fz (.tuple (bt n))),o]=.ok (.nx [M (.fz (bD b)),M (.fz (.tuple (bt n))),u])):=by
  intro e
  induction e with
  |nil=>show λo=>#[λc h=>(by ext h),λ_=>#[o,W]]
  |cons c r A=>
   intro o;let C:aO (V6 c) (.int 0)=M (.fz (.tuple (bt c.1))):=dI
   let a:aB (aA cj (fY rc {aA aO (aa 2) (~~~0)}) (fY L9.fC {aa 1})) [M (.fz (bD b)),M (.fz (.tuple (bt n))),M (.fz (V6 c))]=.ok (decide (c.1=nM n),[M (.fz (bD b)),M (.fz (.tuple (bt n))),M (.fz (V6 c))]):=
    aK (au (dh (by ext:0) W W) (dh (by ext:0) W i) W W (sV _ _)) W
   rw[Vl];by_cases h:c.1=nM n
   .rw[a4 h]at a⊢;show#[λH t=>?_,λt=>(by ext t)];ext t;show((gN 2 (.fz (V6 c)) [M (.fz (bD b)),M (.fz (.tuple (bt n))),o]).bind λg=>_)=_;rw[Gb,eh];show((ja _ _ _ [M (.fz (bD b)),M (.fz (.tuple (bt n))),M (.fz (V6 c))]).bind _)=_;rw[Sv a,tY (rt c) W];rfl
   .rw[a5 h]at a⊢
    let w:nU (gN 2) (ja (aB (aA cj (fY rc {aA aO (aa 2) (~~~0)}) (fY L9.fC {aa 1}))) (cb (aA cz (cC {bj {pC (.str "letter"),aA aO (aa 2) (~~~1)}}) (aA gp (cC {pC (.tuple [(.str "none")])}) (aA mw (fY cI {aa 1}) (~~~1))))) cG) ((c::r).map V6) [M (.fz (bD b)),M (.fz (.tuple (bt n))),o]=nU (gN 2) (ja (aB (aA cj (fY rc {aA aO (aa 2) (~~~0)}) (fY L9.fC {aa 1}))) (cb (aA cz (cC {bj {pC (.str "letter"),aA aO (aa 2) (~~~1)}}) (aA gp (cC {pC (.tuple [(.str "none")])}) (aA mw (fY cI {aa 1}) (~~~1))))) cG) (r.map V6) [M (.fz (bD b)),M (.fz (.tuple (bt n))),M (.fz (V6 c))]:=by show((gN 2 (.fz (V6 c)) [M (.fz (bD b)),M (.fz (.tuple (bt n))),o]).bind λg=>_)=_;rw[Gb,eh];show((ja _ _ _ [M (.fz (bD b)),M (.fz (.tuple (bt n))),M (.fz (V6 c))]).bind _)=_;rw[SL a];rfl
    rw[w];show A _
 let(z,m):=f b.cs P;let v:im (aA aO (aa 0) (~~~2)) [M (.fz (bD b)),M (.fz (.tuple (bt n))),P]=.ok (b.cs.map V6,[M (.fz (bD b)),M (.fz (.tuple (bt n))),P]):=by ext:0
 ext Q3;cases q:b.cs.find? λc=>decide (c.1=nM n)with
 |some c=>show .eq (C7 ((x4 v).trans (z c q))) #[W]
 |none=>let(u,m):=m q;show .eq (D4 ((x4 v).trans m)) ?_;show dw (d9 (by ext:0) W ?_) W W;rw[Vn];show jI nd (mD∘rj b 0) n () W λk p=>?_;let(d,l,j):=D1 Z (L:=0) () (B k p);let l:aO (.tuple (b.ls.map db)) (.int 0)=M (.fz d):=l;show au (by ext:0) (af W) W W j
end
end STP
local macro_rules|`(-($x))=>`(Option.some (.fz $x))
namespace STP
open PySem L2 L3
open L10
def je(p:Nat×Mn):b5×SV:=(.inl (p.1:Int),.fz (mD p.2))
def ke(ac:Ac)(k:Nat)(o:z Mn):Ac:=λj=>if j=k then o else ac j
def dR:ke ac k o k=o:=by ext ke;simp_all
def fT(h:j≠k):ke ac k o j=ac j:=by ext ke;rw[aE h]
def FR(ac:Ac):(gx ac).Pairwise λp q=>p.1<q.1:=by
 ext gx;show afs _ (λa f h p d q b=>?_) (aa3);cases e:ac a with
 |none=>simp_all
 |some x=>
  cases g:ac f with
  |none=>simp_all
  |some y=>rw[e]at d;rw[g]at b;ext d;ext b;show h
def qQ(ac:Ac):((gx ac).map (·.1)).Nodup:=by rw[agp,Yg];show(FR ac).imp λh=>U3 h
def z7{l:G (Nat×Mn)}(h:(l.map (·.1)).Nodup):l.Nodup:=by rw[agp,Yg]at h;show h.imp λh e=>h (by rw[e])
theorem qX{l:G (Nat×Mn)}(h:(l.map (·.1)).Nodup)(hm:∀p,p∈l↔p.1<5/\ac p.1=M p.2):l.Perm (gx ac):=
 (List.perm_ext_iff_of_nodup (z7 h) (z7 (qQ ac))).mpr λp=>(hm p).trans fE.symm
section
variable{Y:bb (Nat×Mn)}{X:Ac}(Z:Y.Perm (gx X))
include Z
theorem jA:p∈Y↔p.1<5/\X p.1=M p.2:=Z.mem_iff.trans fE
theorem CY:(Y.map (·.1)).Nodup:=(Z.map (·.1)).nodup_iff.mpr (qQ X)
def EN:Y.length<=5:=by rw[Z.length_eq];show sO X
def lw{k:Nat}(d:k<5):iH (Y.map je) (.inl (k:Int))=(X k).map λa=>SV.fz (mD a):=by
 ext iH;cases q:(Y.map je).find? λb=>decide (b.1=(.inl (k:Int):b5))with
 |none=>
  cases e:X k with
  |none=>rfl
  |some a=>let:=ack.mp q (je (k,a)) (U6.mpr #[(k,a),(jA Z).mpr #[d,e],W]);show a7 (a4 W) this
 |some b=>
  let(p,h,rfl):=U6.mp (aar q);let g:=a6 (List.find?_some (p:=λb:b5×SV=>decide (b.1=(.inl (k:Int):b5))) q);let f:p.1=k:=by let:=Sum.inl.inj g;ext
  rw[<-f,((jA Z).mp h).2];rfl
def Ia{k:Nat}(n:k<5):∃c:G (Nat×Mn),i6 (Y.map je) (.inl (k:Int)) (.fz (mD a))=c.map je/\c.Perm (gx (ke X k (M a))):=by
 ext i6;let g:∀p:Nat×Mn,((je p).1=(.inl (k:Int):b5))↔p.1=k:=λp=>#[λh=>by let:=Sum.inl.inj h;ext,λh=>by rw[<-h];rfl];split
 .rename_i h
  show#[Y.map λp=>if p.1=k then(k,a)else p,?_,qX ?_ λp=>?_]
  .rw[Vn,Vn]
   show XQ λp _=>?_;show(if(je p).1=(.inl (k:Int):b5)then((je p).1,SV.fz (mD a))else je p)=je (if p.1=k then(k,a)else p);by_cases e:p.1=k
   .rw[ax ((g p).mpr e),ax e,(g p).mpr e];rfl
   simp_all
  .rw[Vn,show Y.map ((·.1)∘λp:Nat×Mn=>if p.1=k then(k,a)else p)=Y.map (·.1)from XQ λp _=>by
    show(if p.1=k then(k,a)else p).1=p.1;split
    .rename_i e;show e.symm
    .rfl]
   show CY Z
  .let(v,j,i):=Xz.mp h
   let(m,u,rfl):=U6.mp j;let b:=(g m).mp (a6 i);rw[U6];constructor
   .rintro⟨r,t,rfl⟩
    split
    .show#[n,dR]
    .rename_i e;let:=(jA Z).mp t;show#[this.1,by rw[fT e];show this.2]
   .rintro⟨d,f⟩
    by_cases e:p.1=k
    .rw[e,dR]at f;show#[m,u,?_];rw[ax b,<-e,UT f]
    .rw[fT e]at f;show#[p,(jA Z).mpr #[d,f],by rw[aE e]]
 .rename_i h
  let A:=λp l e=>h (Xz.mpr #[je p,U6.mpr #[p,l,W],a4 ((g p).mpr e)]);show#[Y++[(k,a)],by rw[U9];rfl,qX ?_ λp=>?_]
  .rw[U9,WW];show#[CY Z,VU.mpr #[V0,YY],λx q y o=>?_];let(p,b,rfl):=U6.mp q;rw[US.mp o];show A p b
  .rw[Vg,US]
   constructor
   .rintro(b|rfl)
    .let:=(jA Z).mp b;show#[this.1,by rw[fT (A p b)];show this.2]
    .show#[n,dR]
   .rintro⟨b,d⟩
    by_cases e:p.1=k
    .rw[e,dR]at d;show .inr (by rw[<-e,UT d])
    .rw[fT e]at d;show .inl ((jA Z).mpr #[b,d])
def Cg{k:Nat}:∃c:G (Nat×Mn),kE (Y.map je) (.inl (k:Int))=c.map je/\c.Perm (gx (ke X k P)):=by
 let f:∀p:Nat×Mn,((je p).1=(.inl (k:Int):b5))↔p.1=k:=λp=>#[λh=>by let:=Sum.inl.inj h;ext,λh=>by rw[<-h];rfl];show#[Y.filter λp=>decide (p.1≠k),?_,qX ?_ λp=>?_]
 .ext kE;rw[List.filter_map];congr 1;show List.filter_congr λp _=>?_;show decide_eq_decide.mpr (not_congr (f p))
 .show ajA ((List.filter_sublist).map _) (CY Z)
 .rw[Wh,jA Z,decide_eq_true_eq]
  constructor
  .rintro⟨⟨b,a⟩,d⟩;show#[b,by rw[fT d];show a]
  .rintro⟨b,a⟩
   by_cases e:p.1=k
   .rw[e,dR]at a;ext a
   .rw[fT e]at a;show#[#[b,a],e]
def Dq:aF wR ((Y.map je).map (·.1))=M (Y.map λp=>(p.1:Int)):=by
 clear Z
 induction Y with
 |nil=>rfl
 |cons p r a=>rw[UU,UU];ext aF;rw[a];rfl
def CN:jx (Y.map λp=>(p.1:Int))=(gx X).map λp=>(p.1:Int):=by show jQ ((dX _).trans (Z.map _)) (dC _) ?_;rw[Yg];show(FR X).imp λh=>by ext
end
abbrev Sn:=G (Nat×Bool)
def lm(ac:Ac)(a:Mn):Bool:=decide (a∈(gx ac).map (·.2))
def pY(ac:Ac):Mn->Sn
 |.Vd c=>if lm ac (.Vd c)=S then[]else[(c,S)]
 |_=>[]
def MF(ac:Ac):Mn->Sn
 |.Vd c=>if lm ac (.Vd c)=S then[]else[(c,R)]
 |_=>[]
def fV(p:Xi×Sn)(k:Nat)(a:Mn):Xi×Sn:=({p.1 with ac:=ke p.1.ac k (M a)},p.2++pY p.1.ac a)
def go(p:Xi×Sn)(k:Nat):Xi×Sn:=match p.1.ac k with
 |some a=>({p.1 with ac:=ke p.1.ac k P},p.2++MF (ke p.1.ac k P) a)
 |none=>p
def jg(p:Xi×Sn)(a:G (Nat×Mn)):Xi×Sn:=a.foldl (λp q=>fV p q.1 q.2) p
def g7(b:Bd)(a:G Nat):z (Nat×Int)->G Mn
 |some (_,n)=>[.WX n]
 |none=>Q3 b a
def cQ(b:Bd)(p:Xi×Sn):Xi×Sn:=match p.1.wt with
 |none=>p
 |some (a,_,w)=>jg ({p.1 with wt:=P},p.2) (a.zip (g7 b a w))
def Dl:Wq->Nat->Bool
 |some (a,_,_),k=>decide (k∈a)
 |none,_=>R
def DU(b:Bd)(s:Xi)(k:Nat):Bool:=match s.wt with
 |some (a,_,P)=>decide (nV s.ac s.oc=0)&& !(d6 b (a++[k])).isEmpty
 |_=>R
def tX(b:Bd)(p:Xi×Sn)(k:Nat):Xi×Sn:=match p.1.wt with
 |some (a,g,_)=>if(d6 b (a++[k])).map (·.1.length)=[(a++[k]).length]then cQ b ({p.1 with wt:=M (a++[k],g,P)},p.2)else({p.1 with wt:=M (a++[k],g,P)},p.2)
 |none=>p
def fQ(s:Xi)(m:Mn):Xi:=if(m.acb||m.isO)=S then s else{s with oc:=P}
def uW(b:Bd)(L:Int)(p:Xi×Sn)(k:Nat):Mn->Xi×Sn
 |.Zl c n=>({p.1 with wt:=M ([k],0,M (c,n))},p.2)
 |.Vd c=>if(decide (L=0)&& !(d6 b [k]).isEmpty)=S then({p.1 with wt:=M ([k],0,P)},p.2)else fV p k (.Vd c)
 |.once n=>({(fV p k .none).1 with oc:=M n},(fV p k .none).2)
 |m=>fV p k m
def GL(b:Bd)(p:Xi×Sn)(k:Nat):Xi×Sn:=
 uW b (nV p.1.ac p.1.oc) (fQ p.1 (look b (nV p.1.ac p.1.oc) k),p.2) k (look b (nV p.1.ac p.1.oc) k)
def lh(b:Bd)(p:Xi×Sn)(k:Nat):Xi×Sn:=
 if((p.1.ac k).isSome||Dl p.1.wt k)=S then p else if DU b p.1 k=S then tX b p k else GL b (cQ b p) k
def cV(b:Bd)(p:Xi×Sn)(k:Nat):Xi×Sn:=match p.1.wt with
 |some (_,_,P)=>cQ b p
 |some (_,_,M (c,_))=>fV ({p.1 with wt:=P},p.2) k (.Vd c)
 |none=>p
def uV(b:Bd)(p:Xi×Sn)(k:Nat):Xi×Sn:=go (if Dl p.1.wt k=S then cV b p k else p) k
def ka(b:Bd)(p:Xi×Sn):Xi×Sn:=match p.1.wt with
 |none=>p
 |some (a,g,w)=>if g+1=b.wt then cQ b ({p.1 with wt:=M (a,g+1,w)},p.2)else({p.1 with wt:=M (a,g+1,w)},p.2)
def bh(b:Bd)(s:Xi):Zk->Xi×Sn
 |.down k=>lh b (s,[]) k
 |.up k=>uV b (s,[]) k
 |.turn=>ka b (s,[])
def Ht(b:Bd)(s:Xi):G (Str×SV):=[("bed",.fz (bD b)),("acts",.rf 1),("waiting",.fz (i4 s.wt)),("once",.fz (rA s.oc)),("sent",.rf 2)]
def ir(p:Nat×Bool):D:=.tuple [.str (iB p.1),.str (if p.2=S then "down" else "up")]
def cX(b:Bd)(s:Xi)(sn:Sn)(a:G (Nat×Mn))(J:aL):aL:=.obj "Hand" (Ht b s):: .Zm (a.map je):: .lst ((sn.map ir).map .fz)::J
def HS(b:Bd)(p:Xi×Sn)(c:aL):Prop:=∃a J,a.Perm (gx p.1.ac)/\c=cX b p.1 p.2 a J
section
variable{b:Bd}{s:Xi}{sn:Sn}{Y:bb (Nat×Mn)}{J:aL}{ρ:aV}{i:Nat}{X:aL}{p:Xi×Sn}{k:Nat}{a:Mn}
def OW:(Ht b s).lookup ("bed":Str)=-(bD b):=by rfl
def JA:(Ht b s).lookup ("acts":Str)=M (.rf 1):=by rfl
def Iq:(Ht b s).lookup ("waiting":Str)=-(i4 s.wt):=by rfl
def JD:(Ht b s).lookup ("once":Str)=-(rA s.oc):=by rfl
def JC:(Ht b s).lookup ("sent":Str)=M (.rf 2):=by rfl
def SE(m:Str):Bool:=(m== "bed"||m== "acts"||m== "waiting"||m== "once"||m== "sent")==R
def RD(h:SE m=S):(Ht b s).lookup m=P:=by unfold SE at h;simp only[beq_iff_eq,abK]at h;let((((j,g),f),e),d):=h;ext Ht;simp_all
theorem mB(h:ρ[i]?=M (M (.rf 0))):aU "Hand" "bed" (ar i) ρ (cX b s sn Y J)=.ok (.fz (bD b)) (cX b s sn Y J):=g8 (a9 h) W OW
theorem gc(h:ρ[i]?=M (M (.rf 0))):aU "Hand" "acts" (ar i) ρ (cX b s sn Y J)=.ok (.rf 1) (cX b s sn Y J):=g8 (a9 h) W JA
theorem bu(h:ρ[i]?=M (M (.rf 0))):aU "Hand" "waiting" (ar i) ρ (cX b s sn Y J)=.ok (.fz (i4 s.wt)) (cX b s sn Y J):=g8 (a9 h) W Iq
theorem Ag(h:ρ[i]?=M (M (.rf 0))):aU "Hand" "once" (ar i) ρ (cX b s sn Y J)=.ok (.fz (rA s.oc)) (cX b s sn Y J):=g8 (a9 h) W JD
theorem tJ(h:ρ[i]?=M (M (.rf 0))):aU "Hand" "sent" (ar i) ρ (cX b s sn Y J)=.ok (.rf 2) (cX b s sn Y J):=g8 (a9 h) W JC
theorem jP(w:Wq)(h:ρ[i]?=M (M (.rf 0)))(d:o ρ X=.ok (.fz (i4 w)) (cX b s sn Y J)):d5 "Hand" "waiting" (ar i) o ρ X=.ok (.nx ρ) (cX b {s with wt:=w} sn Y J):=
 (mS d (a9 h) W (by show UA W)).trans (by rfl)
theorem Af(o:z Int)(h:ρ[i]?=M (M (.rf 0)))(d:C ρ X=.ok (.fz (rA o)) (cX b s sn Y J)):d5 "Hand" "once" (ar i) C ρ X=.ok (.nx ρ) (cX b {s with oc:=o} sn Y J):=
 (mS d (a9 h) W (by show UA W)).trans (by rfl)
def bA(d:HS b p X)(hm:SE m=S)(h:ρ[i]?=M (M (.rf 0)))(g:fa ρ X=.ok xs X)(c:(SV.rf 0::xs).length=n)(e:F (.rf 0::xs) X=.ok x o):aM "Hand" m F n (ar i) fa ρ X=.ok x o:=by let(Y,J,f,rfl):=d;show Ah (a9 h) W (RD hm) g c e
def Da(Y:G (Nat×Mn)):(Y.map je).map (·.2)=((Y.map (·.2)).map mD).map SV.fz:=by rw[Vn,Vn,Vn];rfl
def AK(ac:Ac):Prop:=∀k a,ac k=M a->k<5/\LB a
def B2(e:HS b p X)(f:AK p.1.ac)(h:LB a):∃c,bC [.rf 0,.fz (mD a)] X=.ok (.fz (.bool (lm p.1.ac a))) c/\HS b p c:=by
 let(Y,J,d,rfl):=e;let e1:lm p.1.ac a=decide (a∈Y.map (·.2)):=decide_eq_decide.mpr (d.map (·.2)).symm.mem_iff;let lb:∀m∈Y.map (·.2),LB m:=λm hm=>by let(q,g,rfl):=U6.mp hm;show(f _ _ ((jA d).mp g).2).2
 show#[cX b p.1 p.2 Y (J++[.lst ((Y.map je).map (·.2))]),?_,Y,_,d,W];rw[e1];show iR W (gW (b7 (ai (af W)) (JE (gc W) W) (xN W (eW (by rw[Da];show aJ)) (Kp h lb))))
theorem y6(f:sn.length<1000)(h:ρ[i]?=M (M (.rf 0)))(e:o ρ (cX b s sn Y J)=.ok (.fz (ir (c,d))) (cX b s sn Y J)):pf (aU "Hand" "sent" (ar i)) o ρ (cX b s sn Y J)=.ok (.fz .none) (cX b s (sn++[(c,d)]) Y J):=
 (sC (tJ h) W e W (by rw[Uy,Uy];ext)).trans (by ext cX;rw[U9,U9];rfl)
def qH(d:Y.Perm (gx s.ac))(g:k<5)(n:ρ[0]?=M (M (.rf 0)))(m:ρ[1]?=M (-(nd k)))(l:ρ[2]?=M (-(mD a))):∃c:G (Nat×Mn),c.Perm (gx (ke s.ac k (M a)))/\rQ (aU "Hand" "acts" (ar 0)) (ag (aa 1)) (ag (aa 2)) ρ (cX b s sn Y J)=.ok (.nx ρ) (cX b {s with ac:=ke s.ac k (M a)} sn c J):=by let(c,j,h):=Ia d g;let f:aa 1 (bP ρ)=.ok (.fz (nd k),bP ρ):=af (by ext bP;rw[UJ,m];rfl);let e:aa 2 (bP ρ)=.ok (.fz (mD a),bP ρ):=af (by ext bP;rw[UJ,l];rfl);show#[c,h,(HR (ai e) (gc n) (ai f) W W (by rw[Uy];let:=EN d;ext)).trans ?_];rw[j];rfl
def oB(l:HS b p X)(u:AK p.1.ac)(B:LB a)(m:k<5)(t:p.2.length<1000):∃x,bp [.rf 0,.fz (nd k),.fz (mD a)] X=.ok (.fz .none) x/\HS b (fV p k a) x:=by
 let e0:=lL a;let e1:=ig a;cases q:a.isL with
 |false=>
  let(Y,J,g,rfl):=l;rw[q]at e1;let(d,h,v):=qH (ρ:=[M (.rf 0),-(nd k),-(mD a)]) g m W W W;show#[_,kT W (b8 (gy (eT (aW (by ext:0))) gu) v),d,J,h,?_];let:pY p.1.ac a=[]:=by ext a<;>first|rfl|ext q
  ext fV;simp_all
 |true=>
  rw[q]at e1;let(j,h,w):=B2 l u B;let f:∀r,lm p.1.ac a=r->(jW (bq (aB (aA cj (aA aO (aa 2) (~~~0)) (pC (.str "letter"))))) (sD (bc (aM "Hand" "has_act" bC 2 (ar 0) (aj (ag (aa 2)) aG))))) [M (.rf 0),-(nd k),-(mD a)] X=.ok (!r) j:=λr e=>by rw[e]at h;show eY (aW (by ext:0)) (tI (aR (bA l (by rfl) W (am (ai (af W)) aI) W h)))
  let(Y,J,g,rfl):=w;cases A:lm p.1.ac a with
  |true=>
   let(d,o,n):=qH (ρ:=[M (.rf 0),-(nd k),-(mD a)]) g m W W W;show#[_,kT W (b8 (gy (f S A) gu) n),d,J,o,?_];let:pY p.1.ac a=[]:=by
    ext a<;>first|ext q|skip
    show(if lm p.1.ac _=S then _ else _)=_;simp_all
   ext fV;simp_all
  |false=>
   ext a<;>first|ext q|skip
   rename_i c;let(d,o,n):=qH (ρ:=[M (.rf 0),-(nd k),-(mD (.Vd c))]) (sn:=p.2++[(c,S)]) g m W W W;let y:aO (mD (.Vd c)) (.int 1)=-(.str (iB c)):=eU;show#[_,kT W (b8 (ez (f R A) (gQ (y6 t W (ai (show _=Res.ok (PV.fz (.tuple [.str (iB c),.str "down"]),_) by ext:0))))) n),d,J,o,?_];let:pY p.1.ac (.Vd c)=[(c,S)]:=by show(if lm p.1.ac _=S then _ else _)=_;simp_all
   ext fV;rw[this]
end
end STP
namespace STP
open PySem L2 L3 L10
def VA(a:Int):Mn->Prop
 |.Vd c=>c<26
 |.WX n=>1<=n/\n<a
 |.none=>True
 |_=>False
def VA.lb(h:VA nL m):LB m:=by
 cases m with
 |Vd c=>show h
 |Zl c n=>show h.elim
 |_=>trivial
structure SA(b:Bd)(s:Xi):Prop where
 ac:∀k a,s.ac k=M a->(k:Int)<b.n/\VA b.ls.length a
 oc:∀o,s.oc=M o->1<=o/\o<b.ls.length
structure WV(b:Bd)(ac:Ac)(ks:G Nat)(g:Int)(w:z (Nat×Int)):Prop where
 ne:ks≠[]
 nd:ks.Nodup
 kn:∀k∈ks,(k:Int)<b.n
 kf:∀k∈ks,ac k=P
 g0:0<=g
 tp:∀c n,w=M (c,n)->c<26/\(1<=n/\n<b.ls.length)/\ks.length=1
 ch:w=P->∀k∈ks,wK (b.ls.headD []) k=S
structure SW(b:Bd)(s:Xi):Prop where
 sa:SA b s
 wt:∀ks g w,s.wt=M (ks,g,w)->WV b s.ac ks g w/\g<b.wt
def x5{c:G Nat}(hd:c.Nodup)(h:∀k∈c,k<n):c.length<=n:=by rw[<-G0 c];let b:=(qE c).nodup_iff.mpr hd;show Hm (((ye c).and b).imp λh=>by ext) λk a=>h k ((qE c).mem_iff.mp a)
section
variable{b:Bd}(Z:VB b){s:Xi}{p:Xi×Sn}{Y:bb Nat}{g:Int}{w:bg (Nat×Int)}{X:Ac}{k:Nat}{a:Mn}
include Z
theorem WV.len(h:WV b X Y g w):Y.length<=5:=x5 h.nd λk d=>by let:=h.kn k d;let:=Z.n5;ext
omit Z in
theorem WV.ai4(h:WV b X Y g w):1<=Y.length:=List.length_pos_iff.mpr h.ne
theorem SA.ak(h:SA b s):AK s.ac:=λk a e=>by let:=h.ac k a e;let:=Z.n5;show#[by ext,(h.ac k a e).2.lb]
omit Z in
theorem SA.cm(h:SA b p.1)(d:(k:Int)<b.n)(ha:VA b.ls.length a):SA b (fV p k a).1:=by
 refine⟨λj x e=>?_,h.oc⟩;by_cases z:j=k
 .subst z;have f:cL a=cL x:=(dR (ac:=p.1.ac) (k:=j) (o:=cL a)).symm.trans e;cases f;exact⟨d,ha⟩
 .exact h.ac j x ((fT z).symm.trans e)
omit Z in
theorem SA.gg(h:SA b p.1):SA b (go p k).1:=by
 unfold go;split
 .refine⟨λj x e=>?_,h.oc⟩
  by_cases z:j=k
  .subst z;exact a7 ((dR (ac:=p.1.ac) (k:=j) (o:=Ld)).symm.trans e) (by simp)
  .exact h.ac j x ((fT z).symm.trans e)
 .exact h
omit Z in
theorem qY:(fV p k a).2.length<=p.2.length+1:=by
 show(p.2++pY p.1.ac a).length<=_;rw[UE];have:(pY p.1.ac a).length<=1:=by
  cases a with
  |Vd c=>show(if _ then _ else _:Sn).length<=1;split<;>simp
  |_=>simp[pY]
 ext
omit Z in
theorem AE(d:bb (Nat×Mn)):∀p:Xi×Sn,(jg p d).2.length<=p.2.length+d.length:=by
 induction d with
 |nil=>exact λp=>UG _
 |cons q r e=>intro p;have h:=e (fV p q.1 q.2);have f:=qY (p:=p) (k:=q.1) (a:=q.2);show(jg (fV p q.1 q.2) r).2.length<=_;rw[UO];ext
omit Z in
theorem SA.cms(d:bb (Nat×Mn)):∀{p:Xi×Sn},SA b p.1->(∀q∈d,(q.1:Int)<b.n/\VA b.ls.length q.2)->SA b (jg p d).1/\(jg p d).1.wt=p.1.wt/\(jg p d).1.oc=p.1.oc:=by
 induction d with
 |nil=>exact λh _=>⟨h,rfl,rfl⟩
 |cons q r i=>intro p h e;have f:=e q UP;exact i (h.cm f.1 f.2) λx j=>e x (UM _ j)
def Ma(h:wK (b.ls.headD []) k=S):∃c,rj b 0 k=.Vd c:=by
 let f:=Z.l1;obtain⟨d,r,e⟩:∃d r,b.ls=d::r:=by
  cases q:b.ls with
  |nil=>rw[q]at f;ext f
  |cons l r=>show#[l,r,W]
 unfold wK at h;ext rj;rw[e]at h⊢;rw[aaN,ZA];rw[List.headD_cons]at h;cases q:d[k]? with
 |none=>rw[q]at h;ext h
 |some m=>
  rw[q]at h;cases m with
  |Vd c=>show#[c,W]
  |_=>ext h
def IE(d:(k:Int)<b.n)(h:wK (b.ls.headD []) k=S):VA b.ls.length (rj b 0 k):=by let f:=Z.l1;let(c,e):=Ma Z h;let:=x8 Z (L:=0) () d;rw[e]at this⊢;show this
def Ol(h:WV b X Y g P):∀m∈Q3 b Y,VA b.ls.length m:=by
 intro m hm;unfold Q3 at hm;split at hm
 .rename_i c e
  rcases U5.mp hm with rfl|hm
  .show(Z.vc c (aar e)).2.2.2
  .rw[(List.mem_replicate.mp hm).2];trivial
 .let(j,d,rfl):=U6.mp hm;show IE Z (h.kn j d) (h.ch W j d)
def ue(h:WV b X Y g w):∀q∈Y.zip (g7 b Y w),(q.1:Int)<b.n/\VA b.ls.length q.2:=by
 intro q e;let d:=XJ e;show#[h.kn _ d.1,?_];cases w with
 |none=>show Ol Z h _ d.2
 |some f=>let(c,n):=f;rw[US.mp d.2];show(h.tp c n W).2.1
def WD(b:Bd)(s:Xi):Prop:=∀Y g w,s.wt=M (Y,g,w)->WV b s.ac Y g w
def iq(h:SA b p.1)(d:WD b p.1):SW b (cQ b p).1/\(cQ b p).1.wt=P/\(cQ b p).2.length<=p.2.length+5/\(cQ b p).1.oc=p.1.oc:=by
 ext cQ;split
 .rename_i q;show#[#[h,λY g w e=>by simp_all],q,Nat.le_add_right _ _,W]
 .rename_i Y g w q
  let v:=d Y g w q;let(j,i,f):=SA.cms (Y.zip (g7 b Y w)) (p:=({p.1 with wt:=P},p.2)) #[h.ac,h.oc] (ue Z v);show#[#[j,λ_ _ _ e=>?_],i,?_,f]
  .simp_all
  .let:=AE (Y.zip (g7 b Y w)) ({p.1 with wt:=P},p.2)
   let l:=v.len Z
   grind
omit Z in
theorem zD:∀(l:bb Int) (m:bg Int),l.foldl j6 m=m\/∃x∈l,l.foldl j6 m=cL x
 |[],m=>.inl rfl
 |x::r,m=>by
  rw[Yz];rcases zD r (j6 m x)with h|⟨y,hy,h⟩
  .rw[h]
   cases m with
   |none=>exact .inr ⟨x,UP,rfl⟩
   |some z=>
    show cL (if x>z then x else z)=cL z\/_;split
    .exact .inr ⟨x,UP,by show cL (if x>z then x else z)=_;rename_i q;rw[ax q]⟩
    .exact .inl rfl
  .exact .inr ⟨y,UM _ hy,h⟩
omit Z in
theorem zA:∀(l:bb Int) (m:bg Int),(∀x∈l,∃y,l.foldl j6 m=cL y/\x<=y)/\∀z,m=cL z->∃y,l.foldl j6 m=cL y/\z<=y
 |[],m=>⟨λx e=>(by cases e),λz h=>⟨z,h,Y6 _⟩⟩
 |x::r,m=>by
  rw[Yz];obtain⟨n,j⟩:=zA r (j6 m x);have i:∃z,j6 m x=cL z/\x<=z/\∀u,m=cL u->u<=z:=by
   cases m with
   |none=>exact⟨x,rfl,Y6 _,λu h=>by cases h⟩
   |some u=>
    refine⟨if x>u then x else u,rfl,?_,λv h=>?_⟩
    .split<;>ext
    .cases h;split<;>ext
  obtain⟨z,e1,e2,e3⟩:=i;obtain⟨y,e4,e5⟩:=j z e1;refine⟨λv d=>?_,λu f=>⟨y,e4,by have:=e3 u f;ext⟩⟩;rcases U5.mp d with rfl|d
  .exact⟨y,e4,by ext⟩
  .exact n v d
omit Z in
theorem zT{X:Ac}{n:Int}:n∈(gx X).filterMap Ng↔∃k,k<5/\X k=cL (.WX n):=by
 rw[X1];constructor
 .rintro⟨⟨k,m⟩,e,d⟩
  have f:=fE.mp e;cases m with
  |WX x=>have:x=n:=UT d;subst this;exact⟨k,f.1,f.2⟩
  |_=>cases d
 .rintro⟨k,e,d⟩;exact⟨(k,.WX n),fE.mpr ⟨e,d⟩,rfl⟩
def JR(h:SA b s):0<=wE s.ac/\wE s.ac<b.ls.length/\(∀k n,s.ac k=M (.WX n)->n<=wE s.ac)/\(wE s.ac=0\/∃k,s.ac k=M (.WX (wE s.ac))):=by
 let j:=Z.l1;let l:=Z.n5;ext wE;generalize hm:((gx s.ac).filterMap Ng).foldl j6 P=m;let f:=(zA ((gx s.ac).filterMap Ng) P).1;let d:=zD ((gx s.ac).filterMap Ng) P;rw[hm]at f d;let up:∀k n,s.ac k=M (.WX n)->∃y,m=M y/\n<=y:=λk n e=>f n (zT.mpr #[k,by let:=(h.ac k _ e).1;ext,e]);cases m with
 |none=>show#[Y6 _,by show(0:Int)<_;ext,λk n e=>?_,.inl W];let(y,e2,_):=up k n e;ext e2
 |some x=>
  rcases d with d|⟨y,o,d⟩
  .ext d
  .ext d;let(k,_,e):=zT.mp o;let:=(h.ac k _ e).2;let:1<=x/\x<b.ls.length:=this;show#[by show 0<=x;ext,by show x<_;ext,λk n e=>?_,.inr #[k,e]];let(y,e2,i):=up k n e;ext e2;show i
def x0(h:SA b s):0<=nV s.ac s.oc/\nV s.ac s.oc<b.ls.length:=by
 cases q:s.oc with
 |none=>let:=JR Z h;show#[this.1,this.2.1]
 |some o=>let:=h.oc o q;show#[by show 0<=o;ext,this.2]
end
section
variable{b:Bd}{s:Xi}{Q:Sn}{Y:bb (Nat×Mn)}{J:aL}{T:aV}{i:Nat}{X:aL}{p:Xi×Sn}{k:Nat}{a:Mn}
def xz(h:f x=M y):aF f [x]=M [y]:=by ext aF;rw[h];rfl
def fO:(l++[c]).set l.length o=l++[o]:=by simp
def mh(e:HS b p X):∃c,bx [.rf 0] X=.ok (.fz (dB p.1)) c/\HS b p c:=by
 let(Y,J,d,rfl):=e;let g:=EN d;let h:ie (qU (aU "Hand" "acts" (ar 0))) [M (.rf 0)] (cX b p.1 p.2 Y J)=.ok ((gx p.1.ac).map λq=>nd q.1) (cX b p.1 p.2 Y (J++[.dead])):=by
  show(ul (ds:=(gx p.1.ac).map λq=>nd q.1) (Jn (gc W) W (Dq d) (by rw[Uy];ext)) ?_).trans ?_
  .rw[CN d];show aJ.trans ?_;rw[Vn,Vn];rfl
  .rw[fO];rfl
 let j:dc (eR 0) jy (hV (aj (ag (aa 0)) (aj (p9 (aU "Hand" "acts" (ar 1)) (ag (aa 0))) aG))) ((gx p.1.ac).map λq=>nd q.1) [P,M (.rf 0)] (cX b p.1 p.2 Y (J++[.dead])) []=.ok (((gx p.1.ac).map pD).map .fz) (cX b p.1 p.2 Y (J++[.dead])):=by show(jO (λq:Nat×Mn=>nd q.1) (λq=>.fz (pD q)) _ (λT=>∃o,T=[o,M (.rf 0)]) (gx p.1.ac) _ [] #[P,W] (by let:=sO p.1.ac;grind) ?_).trans (by rw[Vn];rfl);rintro q f T ⟨o,rfl⟩;let hm:=fE.mp f;show#[[-(nd q.1),M (.rf 0)],W,W,?_,_,W];show qZ (am (ai (af W)) (am (Kc (gc W) (ai (af W)) W W (by rw[lw d hm.1,hm.2];rfl)) aI)) (UA W)
 let tp:xE nF (aj (i8 1 [0] (ie (qU (aU "Hand" "acts" (ar 0)))) (eR 0) jy (hV (aj (ag (aa 0)) (aj (p9 (aU "Hand" "acts" (ar 1)) (ag (aa 0))) aG)))) aG) [M (.rf 0)] (cX b p.1 p.2 Y J)=.ok (.fz (.tuple ((gx p.1.ac).map pD))) (cX b p.1 p.2 Y (J++[.dead]++[.lst (((gx p.1.ac).map pD).map .fz)])):=
  wv (am (ot h j) aI) (xz (eW aJ)) W
 show#[_,iR W (gW (qZ (am tp (am (bu W) (am (Ag W) aI))) (UA W))),Y,_,d,W]
def Dx(e:HS b p X):bN [.rf 0,.fz (nd k)] X=.ok (.fz (.bool (Dl p.1.wt k))) X:=by
 let(Y,J,f,rfl):=e;show iR W (gW ?_);cases q:p.1.wt with
 |none=>
  let e1:ko (i4 p.1.wt) .none=-(.bool R):=by rw[q];rfl
  show Bf (aR (b7 (bu W) (ai av) (bH e1)))
 |some x=>
  let(d,g,w):=x;let e1:ko (i4 p.1.wt) .none=-(.bool S):=by rw[q];rfl
  let e2:aO (i4 p.1.wt) (.int 0)=-(.tuple (bt d)):=by rw[q];show dI
  show A4 (aR (b7 (bu W) (ai av) (bH e1))) (b7 (ai (af W)) (bZ (bu W) (ai av) e2) (bH (uy _ _)))
def QO(E:HS b p X)(t:AK p.1.ac)(N:p.1.ac k=M a)(F:p.2.length<1000):∃D,iA [.rf 0,.fz (nd k)] X=.ok (.fz .none) D/\HS b (go p k) D:=by
 let(Y,J,B,rfl):=E;let G:=(t k a N).1;let lb:=(t k a N).2;let(f,I,w):=Cg B
 let n:rY (aU "Hand" "acts" (ar 0)) (ag (aa 1)) [M (.rf 0),-(nd k),P] (cX b p.1 p.2 Y J)=.ok (.fz (mD a)) (cX b {p.1 with ac:=ke p.1.ac k P} p.2 f J):=
  (JP (gc W) W (ai (af W)) W W (by rw[lw B G,N];rfl)).trans (by rw[I];rfl)
 let H:go p k=({p.1 with ac:=ke p.1.ac k P},p.2++MF (ke p.1.ac k P) a):=by ext go;rw[N]
 rw[H];let o:AK (ke p.1.ac k P):=λj x e=>by
  by_cases z:j=k
  .subst z;rw[dR]at e;ext e
  .rw[fT z]at e;show t j x e
 let e0:=lL a;let e1:=ig a;let l:aB (aA cj (aA aO (aa 2) (~~~0)) (pC (.str "letter"))) (bP [M (.rf 0),-(nd k),-(mD a)])=.ok (a.isL,bP [M (.rf 0),-(nd k),-(mD a)]):=by ext:0
 let v:XX (bS (jW (bq (aB (aA cj (aA aO (aa 2) (~~~0)) (pC (.str "letter"))))) (sD (bc (aM "Hand" "has_act" bC 2 (ar 0) (aj (ag (aa 2)) aG))))) (bv (pf (aU "Hand" "sent" (ar 0)) (ag (bj {aA aO (aa 2) (~~~1),pC (.str "up")})))) bX [M (.rf 0),-(nd k),-(mD a)] (cX b {p.1 with ac:=ke p.1.ac k P} p.2 f J)) (λ_ D=>SV.fz .none=.fz .none/\HS b ({p.1 with ac:=ke p.1.ac k P},p.2++MF (ke p.1.ac k P) a) D) (λ_ _=>False) (λr D=>r=.fz .none/\HS b ({p.1 with ac:=ke p.1.ac k P},p.2++MF (ke p.1.ac k P) a) D):=by
  cases q:a.isL with
  |false=>
   rw[q]at l;show dk (eT (aW l)) (jG #[W,f,J,w,?_]);let:MF (ke p.1.ac k P) a=[]:=by ext a<;>first|rfl|ext q
   simp_all
  |true=>
   rw[q]at l;let(h,u,K):=B2 (p:=({p.1 with ac:=ke p.1.ac k P},p.2)) #[f,J,w,W] o lb;let g:∀m,lm (ke p.1.ac k P) a=m->(jW (bq (aB (aA cj (aA aO (aa 2) (~~~0)) (pC (.str "letter"))))) (sD (bc (aM "Hand" "has_act" bC 2 (ar 0) (aj (ag (aa 2)) aG))))) [M (.rf 0),-(nd k),-(mD a)] (cX b {p.1 with ac:=ke p.1.ac k P} p.2 f J)=.ok (!m) h:=λm e=>by
    let u:bC [.rf 0,.fz (mD a)] (cX b {p.1 with ac:=ke p.1.ac k P} p.2 f J)=.ok (.fz (.bool m)) h:=by rw[<-e];show u
    show eY (aW l) (tI (aR (bA (p:=({p.1 with ac:=ke p.1.ac k P},p.2)) #[f,J,w,W] (by rfl) W (am (ai (af W)) aI) W u)))
   let(y,C,A,e2):=K;rw[e2]at g;cases q2:lm (ke p.1.ac k P) a with
   |true=>
    show dk (g S q2) (jG #[W,y,C,A,?_]);let:MF (ke p.1.ac k P) a=[]:=by
     ext a<;>first|ext q|skip
     show(if lm (ke p.1.ac k P) _=S then _ else _)=_;rw[ax q2]
    simp_all
   |false=>
    ext a<;>first|ext q|skip
    rename_i c;let L:aO (mD (.Vd c)) (.int 1)=-(.str (iB c)):=eU;show oP (g R q2) (gL (y6 (d:=R) F W (ai (show _=Res.ok (PV.fz (.tuple [.str (iB c),.str "up"]),_) by ext:0))) #[W,y,C,A,?_]);let:MF (ke p.1.ac k P) (.Vd c)=[(c,R)]:=by show(if lm (ke p.1.ac k P) _=S then _ else _)=_;simp_all
    rw[this]
 show g9 W (iL n W v)
end
section
variable{b:Bd}(Z:VB b){s:Xi}{N:Sn}{X:bb (Nat×Mn)}{J:aL}{Q:aV}{i:Nat}{T:aL}{p:Xi×Sn}{k:Nat}{a:Mn}{Y:bb Nat}{g:Int}{w:bg (Nat×Int)}
theorem Gw:∀(Y:G Nat) (as:G Mn),kr (bt Y) (as.map mD)=(Y.zip as).map pD
 |[],_=>by rfl
 |_::_,[]=>rfl
 |k::r,a::t=>by show UB.tuple [nd k,mD a]::kr (bt r) (t.map mD)=_;rw[Gw r t];rfl
def xJ(h:∀c n,w=M (c,n)->c<26):cj (re w) (.tuple [.str "chord"])=-(.bool w.isNone)/\kQ (re w) (.tuple [.str "chord"])=-(.bool w.isSome):=by
 cases w with
 |none=>
  let j:j8 (.tuple [.str "chord"])=S:=by left
  let f:UB.canLay0 (.tuple [.str "chord"])=S:=by left
  let d:UB.eqv (.tuple [.str "chord"]) (.tuple [.str "chord"])=S:=by rfl
  constructor
  .show(if(j8 (.tuple [.str "chord"])&&UB.canLay0 (.tuple [.str "chord"]))=S then M (RV.fz (.bool (UB.eqv (.tuple [.str "chord"]) (.tuple [.str "chord"]))))else P)=_;rw[j,f,d];rfl
  .show(if(j8 (.tuple [.str "chord"])&&UB.canLay0 (.tuple [.str "chord"]))=S then M (RV.fz (.bool (!UB.eqv (.tuple [.str "chord"]) (.tuple [.str "chord"]))))else P)=_;rw[j,f,d];rfl
 |some l=>
  let(c,n):=l;let lb:LB (.Zl c n):=h c n W;let e:UB.eqv (mD (.Zl c n)) (.tuple [.str "chord"])=R:=by rfl
  constructor
  .show(if(j8 (mD (.Zl c n))&&UB.canLay0 (.tuple [.str "chord"]))=S then M (RV.fz (.bool (UB.eqv (mD (.Zl c n)) (.tuple [.str "chord"]))))else P)=_;rw[Gf lb,show UB.canLay0 (.tuple [.str "chord"])=S by left,e];rfl
  .show(if(j8 (mD (.Zl c n))&&UB.canLay0 (.tuple [.str "chord"]))=S then M (RV.fz (.bool (!UB.eqv (mD (.Zl c n)) (.tuple [.str "chord"]))))else P)=_;rw[Gf lb,show UB.canLay0 (.tuple [.str "chord"])=S by left,e];rfl
theorem vR(Y:G Nat)(w:bg (Nat×Int))(as:G Mn):∀(f:G (Nat×Mn)) (p:Xi×Sn) (T:aL) (m l:bg SV),HS b p T->AK p.1.ac->(∀q∈f,q.1<5/\LB q.2)->p.2.length+f.length<1000->
  ∃A c,ji (K4 2 (rb (eR 4) (rb (eR 5) Bx))) (bv (aM "Hand" "come" bp 3 (ar 0) (aj (ag (aa 4)) (aj (ag (aa 5)) aG)))) (f.map pD) [M (.rf 0),-(.tuple (bt Y)),-(re w),-(.list (as.map mD)),m,l] T=.ok (.nx A) c/\HS b (jg p f) c
 |[],p,T,m,l,B,_,_,_=>#[_,T,W,B]
 |q::r,p,T,m,l,B,L,C,hl=>by
  rw[UO]at hl;let h:=C q UP;let(d,e1,y):=oB B L h.2 h.1 ();let n:AK (fV p q.1 q.2).1.ac:=λj x e=>by
   by_cases z:j=q.1
   .let u:M q.2=M x:=by rw[z]at e;show(dR).symm.trans e
    ext u;show#[by rw[z];show h.1,h.2]
   .show L j x ((fT z).symm.trans e)
  let:=qY (p:=p) (k:=q.1) (a:=q.2);let(A,c,e2,v):=vR Y w as r (fV p q.1 q.2) d (-(nd q.1)) (-(mD q.2)) y n (λx t=>C x (UM _ t)) ();show#[A,c,?_,v]
  let o:bv (aM "Hand" "come" bp 3 (ar 0) (aj (ag (aa 4)) (aj (ag (aa 5)) aG))) [M (.rf 0),-(.tuple (bt Y)),-(re w),-(.list (as.map mD)),-(nd q.1),-(mD q.2)] T=.ok (.nx [M (.rf 0),-(.tuple (bt Y)),-(re w),-(.list (as.map mD)),-(nd q.1),-(mD q.2)]) d:=
   gQ (bA B (by left) W (am (ai (af W)) (am (ai (af W)) aI)) W e1)
  show((bv (aM "Hand" "come" bp 3 (ar 0) (aj (ag (aa 4)) (aj (ag (aa 5)) aG))) [M (.rf 0),-(.tuple (bt Y)),-(re w),-(.list (as.map mD)),-(nd q.1),-(mD q.2)] T).bind _)=_;rw[o,ej];show e2
include Z
def jH(u:HS b p T)(o:SA b p.1)(f:p.1.wt=M (Y,g,w))(v:WV b p.1.ac Y g w)(I:p.2.length<900):∃x,cB [.rf 0] T=.ok (.fz .none) x/\HS b (cQ b p) x:=by
 let(X,J,z,rfl):=u;let e0:aO (i4 p.1.wt) (.int 0)=-(.tuple (bt Y)):=by rw[f];show dI
 let e2:aO (i4 p.1.wt) (.int 2)=-(re w):=by rw[f];show pN
 let r:=v.len Z;let t:=v.ai4;let E:=xJ λc n h=>(v.tp c n h).1;let C:cQ b p=jg ({p.1 with wt:=P},p.2) (Y.zip (g7 b Y w)):=by ext cQ;rw[f]
 rw[C];let m:aB (aA cj (aa 2) (pC (.tuple [.str "chord"]))) (bP [M (.rf 0),-(.tuple (bt Y)),-(re w),P,P,P])=.ok (w.isNone,bP [M (.rf 0),-(.tuple (bt Y)),-(re w),P,P,P]):=aK (au (af W) av W W E.1) W;let l:jc (K6 (bq (aB (aA cj (aa 2) (pC (.tuple [(.str "chord")]))))) (gX eB 2 (aj (aU "Hand" "bed" (ar 0)) (aj (ag (aa 1)) aG))) (ag (cC {bj {pC (.str "layer"),aA aO (aa 2) (~~~2)}}))) [M (.rf 0),-(.tuple (bt Y)),-(re w),P,P,P] (cX b {p.1 with wt:=P} p.2 X J)=.ok (.fz (.list ((g7 b Y w).map mD))) (cX b {p.1 with wt:=P} p.2 X (J++[.dead])):=by
  cases w with
  |none=>let G:=Nx Z t r v.kn;show(iS (J5 (aW m) (tm (am (mB W) (am (ai (af W)) aI)) W G)) (lu aJ)).trans (by rw[fO];rfl)
  |some F=>let(c,n):=F;let H:aO (re (M (c,n))) (.int 2)=-(.int n):=pN;show(iS (Ig (aW m) (eJ (show _=Res.ok (PV.ow [.tuple [.str "layer",.int n]],_) by ext:0))) (lu aJ)).trans (by rw[fO];rfl)
 let e:∃d x,tF (kg (AN {aa 1,aa 3})) (K4 2 (rb (eR 4) (rb (eR 5) Bx))) (bv (aM "Hand" "come" bp 3 (ar 0) (aj (ag (aa 4)) (aj (ag (aa 5)) aG)))) [M (.rf 0),-(.tuple (bt Y)),-(re w),-(.list ((g7 b Y w).map mD)),P,P] (cX b {p.1 with wt:=P} p.2 X (J++[.dead]))=.ok (.nx d) x/\HS b (jg ({p.1 with wt:=P},p.2) (Y.zip (g7 b Y w))) x:=by
  let K:=Z.n5;let(d,x,B,A):=vR Y w (g7 b Y w) (Y.zip (g7 b Y w)) ({p.1 with wt:=P},p.2) (cX b {p.1 with wt:=P} p.2 X (J++[.dead])) P P #[X,_,z,W] (SA.ak Z #[o.ac,o.oc]) (λq y=>by
   let:=ue Z v q y;show#[by ext,this.2.lb]) (by
   rw[List.length_zip];show p.2.length+_<1000;ext)
  show#[d,x,?_,A];ext tF;rw[qL (yS (ah (af W) (ah (af W) aw)) W W W),ej,Gw];show B
 let(d,x,e,j):=e;show#[x,kT (ρ1:=d) W ?_,j];show b8 (oS (bZ (bu W) (ai av) e0) W) (b8 (oS (bZ (bu W) (ai av) e2) W) (b8 (jP P W (ai av)) (b8 (oS l W) e)))
omit Z in
theorem Ko{c:bb Nat×Nat}(h:c.2<26):UB.canLay0 (V6 c)=Uv:=by show(UB.canLayAll0 (bt c.1)&&(UB.strOk (iB c.2)&&Uv))=Uv;rw[kR,ky h];rfl
omit Z in
theorem MW:∀{cs:bb (bb Nat×Nat)},(∀c∈cs,c.2<26)->kQ (.list (cs.map V6)) (.list [])=-(.bool (!cs.isEmpty)):=by
 intro cs h;have f:∀cs:bb (bb Nat×Nat),(∀c∈cs,c.2<26)->UB.canLayAll0 (cs.map V6)=Uv:=by
  intro cs
  induction cs with
  |nil=>exact λ_=>rfl
  |cons c r d=>intro h;show(UB.canLay0 (V6 c)&&UB.canLayAll0 (r.map V6))=Uv;rw[Ko (h c UP),d λx j=>h x (UM _ j)];rfl
 have e:∀cs:bb (bb Nat×Nat),UB.depthAll (cs.map V6)<=2:=by
  intro cs
  induction cs with
  |nil=>exact Vq _
  |cons c r d=>show max (UB.depth (V6 c)) (UB.depthAll (r.map V6))<=2;refine ahG.mpr ⟨?_,d⟩;show max (UB.depthAll (bt c.1)+1) (max 0 0)+1<=2;rw[n6];decide
 show(if((UB.canLayAll0 (cs.map V6)&&decide (UB.depthAll (cs.map V6)+1<=64))&&Uv)=Uv then cL (RV.fz (.bool (!UB.eqvAll (cs.map V6) [])))else Ld)=_;rw[f cs h,a4 (show UB.depthAll (cs.map V6)+1<=64 by have:=e cs;ext)];cases cs<;>rfl
theorem Ku(h:c∈d6 b Y):c.2<26:=(Z.vc c (Wh.mp h).1).2.2.2
omit Z in
theorem zt(h:Y≠[])(d:Y.length<=5):cz (.tuple (bt Y)) (.tuple [nd k])=-(.tuple (bt (Y++[k]))):=by
 show(if bt Y≠[]/\(bt Y).length+1<=1000000 then cL (RV.fz (.tuple (bt Y++[nd k])))else Ld)=_;rw[ax ⟨by cases Y with
  |nil=>exact a7 rfl h
  |cons x r=>simp[bt],by rw[fG];ext⟩,JG]
 rfl
def Ai{l:cR}{ω1:aL}(d:∃X J,ω1=cX b s N X J)(j:Q[0]?=M (M (.rf 0)))(e:Y.length<=5)(f:l Q ω1=.ok (.fz (.tuple (bt Y))) ω1):jd kQ (gX bw 2 (aj (aU "Hand" "bed" (ar 0)) (aj l aG))) (ag (cC aq)) Q ω1=.ok (.fz (.bool (!(d6 b Y).isEmpty))) (ω1++[.lst (((d6 b Y).map V6).map .fz)]++[.lst []]):=by let(X,J,rfl):=d;show b7 (tm (ds:=[bD b,.tuple (bt Y)]) (am (mB j) (am f aI)) W (zV Z e)) (eJ (ds:=[]) (ρ':=bP Q) (mJ aw W (Vq _))) ?_;show xN (eW (dP aJ)) (eW (ds:=[]) aJ) (MW λc h=>Ku Z h)
def Ni(l:HS b p T)(sw:SW b p.1)(H:(k:Int)<b.n)(L:Dl p.1.wt k=R):∃D,cS [.rf 0,.fz (nd k)] T=.ok (.fz (.bool (DU b p.1 k))) D/\HS b p D:=by
 cases q:p.1.wt with
 |none=>
  let m:DU b p.1 k=R:=by ext DU;rw[q]
  rw[m];let(X,J,j,rfl):=l;let e1:lZ (i4 p.1.wt) .none=-(.bool S):=by rw[q];rfl
  show#[_,iR W (mE (ez (pW (aR (b7 (bu W) (ai av) (bH e1)))) (gW (ai av)))),X,J,j,W]
 |some x=>
  let(Y,g,w):=x;let v:=(sw.wt Y g w q).1;let B:=v.len Z;let e1:lZ (i4 p.1.wt) .none=-(.bool R):=by rw[q];rfl
  let e2:aO (i4 p.1.wt) (.int 2)=-(re w):=by rw[q];show pN
  let e0:aO (i4 p.1.wt) (.int 0)=-(.tuple (bt Y)):=by rw[q];show dI
  let z:=(xJ λc n h=>(v.tp c n h).1).2;cases w with
  |some K=>
   let m:DU b p.1 k=R:=by ext DU;rw[q]
   rw[m];let(X,J,j,rfl):=l;show#[_,iR W (mE (ez (lC (aR (b7 (bu W) (ai av) (bH e1))) (pW (aR (b7 (bZ (bu W) (ai av) e2) (ai av) (bH z))))) (gW (ai av)))),X,J,j,W]
  |none=>
   let m:DU b p.1 k=(decide (nV p.1.ac p.1.oc=0)&& !(d6 b (Y++[k])).isEmpty):=by ext DU;rw[q]
   rw[m];let(f,E,A):=mh l;let d:(BT (bc (jd lZ (aU "Hand" "waiting" (ar 0)) (ag (pC .none)))) (BT (bc (jd kQ (eO (aU "Hand" "waiting" (ar 0)) (ag (~~~2))) (ag (pC (.tuple [(.str "chord")]))))) (bc (jd kQ (gX dA 1 (aj (aM "Hand" "stands" bx 1 (ar 0) aG) aG)) (ag (~~~0)))))) [M (.rf 0),-(nd k)] T=.ok (!decide (nV p.1.ac p.1.oc=0)) f:=by
    let F:bc (jd kQ (gX dA 1 (aj (aM "Hand" "stands" bx 1 (ar 0) aG) aG)) (ag (~~~0))) [M (.rf 0),-(nd k)] T=.ok (!decide (nV p.1.ac p.1.oc=0)) f:=
     aR (b7 (w6 (am (bA l (by rfl) W aI W E) aI) W (vM p.1)) (ai av) (bH (tU _ _)))
    let(X,J,j,rfl):=l;show lC (aR (b7 (bu W) (ai av) (bH e1))) (lC (aR (b7 (bZ (bu W) (ai av) e2) (ai av) (bH z))) F)
   by_cases u:nV p.1.ac p.1.oc=0
   .rw[a4 u]at d⊢
    let(X,J,j,rfl):=A;let r:k∉Y:=by rw[q]at L;show of_decide_eq_false L
    let o:(Y++[k]).Nodup:=by rw[WW];show#[v.nd,VU.mpr #[V0,YY],λx t y G e=>r (by simp_all)]
    let C:(Y++[k]).length<=5:=x5 o λx t=>by
     let I:=Z.n5;rcases Vg.mp t with h|h
     .let:=v.kn x h;ext
     .rw[US.mp h];ext
    show#[_,iR W (b8 (gy d gu) (gW (Ai Z #[X,J,W] W C (b7 (bZ (bu W) (ai av) e0) (ai (bW (ah (af W) aw) W (UA W))) (bH (zt v.ne B)))))),X,_,j,W]
   .rw[a5 u]at d⊢;show#[f,iR W (mE (ez d (gW (ai av)))),A]
end
section
variable{b:Bd}(Z:VB b){s:Xi}{sn:Sn}{ps:bb (Nat×Mn)}{J:aL}{ρ:aV}{i:Nat}{ω:aL}{p:Xi×Sn}{k:Nat}{a:Mn}{ks:bb Nat}{g:Int}{w:bg (Nat×Int)}
include Z
def L7(v:WV b p.1.ac ks g w)(c:k∉ks)(l:(k:Int)<b.n):(ks++[k]).Nodup/\(ks++[k]).length<=5:=by
 let d:(ks++[k]).Nodup:=by rw[WW];show#[v.nd,VU.mpr #[V0,YY],λx f y j e=>c (by simp_all)]
 show#[d,x5 d λx f=>?_];let m:=Z.n5;rcases Vg.mp f with h|h
 .let:=v.kn x h;ext
 .rw[US.mp h];ext
def xF(sw:SW b p.1)(l:(k:Int)<b.n)(C:p.1.ac k=P)(B:Dl p.1.wt k=R)(hm:DU b p.1 k=S):∃ks g,p.1.wt=M (ks,g,P)/\k∉ks/\WV b p.1.ac (ks++[k]) g P/\g<b.wt:=by
 unfold DU at hm;split at hm
 .rename_i ks g q
  rw[Uu]at hm;let(v,m):=sw.wt ks g P q;let e:k∉ks:=by rw[q]at B;show of_decide_eq_false B
  let(j,y):=L7 Z v e l;show#[ks,g,q,e,#[by simp,j,λx d=>?_,λx d=>?_,v.g0,λc n h=>(by ext h),λ_ x d=>?_],m]
  .rcases Vg.mp d with h|h
   .show v.kn x h
   .rw[US.mp h];show l
  .rcases Vg.mp d with h|h
   .show v.kf x h
   .rw[US.mp h];show C
  .let f:=hm.2
   cases A:d6 b (ks++[k])with
   |nil=>rw[A]at f;ext f
   |cons c r=>
    let o:c∈d6 b (ks++[k]):=by rw[A];show UP
    let(u,t):=Wh.mp o;let:=VZ.mp t x d;show(Z.vc c u).2.2.1 x (a6 this)
 .ext hm
def G7(r:HS b p ω)(sw:SW b p.1)(f:p.1.wt=M (ks,g,P))(v:WV b p.1.ac (ks++[k]) g P)(h:WV b p.1.ac ks g P)(t:p.2.length<900):∃x,cM [.rf 0,.fz (nd k)] ω=.ok (.fz .none) x/\HS b (tX b p k) x:=by
 let(ps,J,j,rfl):=r;let m:=v.len Z;let e0:aO (i4 p.1.wt) (.int 0)=-(.tuple (bt ks)):=by rw[f];show dI
 let e1:aO (i4 p.1.wt) (.int 1)=-(.int g):=by rw[f];show eU
 let A:tX b p k=if(d6 b (ks++[k])).map (·.1.length)=[(ks++[k]).length]then cQ b ({p.1 with wt:=M (ks++[k],g,P)},p.2)else({p.1 with wt:=M (ks++[k],g,P)},p.2):=by ext tX;rw[f]
 let C:HS b ({p.1 with wt:=M (ks++[k],g,P)},p.2) (cX b {p.1 with wt:=M (ks++[k],g,P)} p.2 ps J):=#[ps,J,j,W];let B:dc (eR 0) jy (ag (fY cI {aA aO (aa 0) (~~~0)})) ((d6 b (ks++[k])).map V6) [P] (cX b {p.1 with wt:=M (ks++[k],g,P)} p.2 ps (J++[.dead])) []=.ok ((bt ((d6 b (ks++[k])).map (·.1.length))).map .fz) (cX b {p.1 with wt:=M (ks++[k],g,P)} p.2 ps (J++[.dead])):=by
  show(jO V6 (λc=>.fz (nd c.1.length)) _ (λρ=>∃o,ρ=[o]) (d6 b (ks++[k])) _ [] #[P,W] ?_ ?_).trans (by ext bt;rw[Vn,Vn];rfl)
  .let:=Xw (λc:G Nat×Nat=>(ks++[k]).all λk=>decide (k∈c.1)) b.cs;let:=Z.c4;show 0+(d6 b (ks++[k])).length<=_;ext d6;ext
  .rintro c _ ρ ⟨o,rfl⟩;let n:aO (V6 c) (.int 0)=-(.tuple (bt c.1)):=dI;show#[[-(V6 c)],W,W,ai (dh (ah (au (af W) av W W n) aw) W ((hW _).trans (by rw[fG]))),_,W]
 let z:ie (gX bw 2 (aj (aU "Hand" "bed" (ar 0)) (aj (ag (aa 2)) aG))) [M (.rf 0),-(nd k),-(.tuple (bt (ks++[k])))] (cX b {p.1 with wt:=M (ks++[k],g,P)} p.2 ps J)=.ok ((d6 b (ks++[k])).map V6) (cX b {p.1 with wt:=M (ks++[k],g,P)} p.2 ps (J++[.dead])):=
  (ul (tm (am (mB W) (am (ai (af W)) aI)) W (zV Z m)) aJ).trans (by rw[fO];rfl)
 let rt:cC {fY cI {aa 2}} (bP [M (.rf 0),-(nd k),-(.tuple (bt (ks++[k])))])=.ok (.ow (bt [(ks++[k]).length]),bP [M (.rf 0),-(nd k),-(.tuple (bt (ks++[k])))]):=by show mJ (ah (dh (ah (af W) aw) W ((hW _).trans (by rw[fG]))) aw) W (UA W)
 let e:bc (jd cj (i8 1 [] (ie (gX bw 2 (aj (aU "Hand" "bed" (ar 0)) (aj (ag (aa 2)) aG)))) (eR 0) jy (ag (fY cI {aA aO (aa 0) (~~~0)}))) (ag (cC {fY cI {aa 2}}))) [M (.rf 0),-(nd k),-(.tuple (bt (ks++[k])))] (cX b {p.1 with wt:=M (ks++[k],g,P)} p.2 ps J)=.ok (decide ((d6 b (ks++[k])).map (·.1.length)=[(ks++[k]).length])) (cX b {p.1 with wt:=M (ks++[k],g,P)} p.2 ps (J++[.dead])++[.lst ((bt ((d6 b (ks++[k])).map (·.1.length))).map .fz)]++[.lst ((bt [(ks++[k]).length]).map .fz)]):=
  aR (b7 (ot z B) (eJ rt) (xN (eW (dP aJ)) (eW aJ) (sV _ _)))
 let d:HS b ({p.1 with wt:=M (ks++[k],g,P)},p.2) (cX b {p.1 with wt:=M (ks++[k],g,P)} p.2 ps (J++[.dead])++[.lst ((bt ((d6 b (ks++[k])).map (·.1.length))).map .fz)]++[.lst ((bt [(ks++[k]).length]).map .fz)]):=#[ps,_,j,W];generalize (cX b {p.1 with wt:=M (ks++[k],g,P)} p.2 ps (J++[.dead])++[.lst ((bt ((d6 b (ks++[k])).map (·.1.length))).map .fz)]++[.lst ((bt [(ks++[k]).length]).map .fz)]:aL)=L at e d;rw[A];show g9 W (iL (b7 (bZ (bu W) (ai av) e0) (ai (bW (ah (af W) aw) W (UA W))) (bH (zt h.ne (h.len Z)))) W (yE (jP (M (ks++[k],g,P)) W (qZ (am (ai (af W)) (am (bZ (bu W) (ai av) e1) (am (ai av) aI))) (UA W))) (vT e (λq=>?_) λq=>?_)))
 .rw[ax (a6 q)];let(l,y,u):=jH Z d #[sw.sa.ac,sw.sa.oc] W v t;show gL (bA d (by rfl) W aI W y) #[W,u]
 .rw[aE (of_decide_eq_false q)];show jG #[W,d]
def Iy(sw:SW b p.1)(d:p.1.wt=M (ks,g,P))(v:WV b p.1.ac (ks++[k]) g P)(f:g<b.wt):SW b (tX b p k).1:=by
 let h:tX b p k=if(d6 b (ks++[k])).map (·.1.length)=[(ks++[k]).length]then cQ b ({p.1 with wt:=M (ks++[k],g,P)},p.2)else({p.1 with wt:=M (ks++[k],g,P)},p.2):=by ext tX;rw[d]
 rw[h];split
 .show(iq Z (p:=({p.1 with wt:=M (ks++[k],g,P)},p.2)) #[sw.sa.ac,sw.sa.oc] λ_ _ _ e=>by ext e;show v).1
 .show#[#[sw.sa.ac,sw.sa.oc],λ_ _ _ e=>by ext e;show#[v,f]]
omit Z in
theorem zC(s:Xi)(m:Mn):(fQ s m).ac=s.ac/\(fQ s m).wt=s.wt:=by unfold fQ;split<;>exact⟨rfl,rfl⟩
omit Z in
theorem Ak{m:Mn}(h:SA b s):SA b (fQ s m):=by
 unfold fQ;split
 .exact h
 .exact⟨h.ac,λo e=>by cases e⟩
def O8(E:HS b p ω)(P:SA b p.1)(hw:p.1.wt=Ld)(S:(k:Int)<b.n)(V:p.2.length<900):∃D,eG [.rf 0,.fz (nd k)] ω=.ok (.fz .none) D/\HS b (GL b p k) D:=by
 let(O,N):=x0 Z P;let H:=GU Z O N S;let(u,Q):=sL Z O N S;let(ω1,h1,YN):=mh E;let h5:=Z.n5;let eb:GL b p k=uW b (nV p.1.ac p.1.oc) (fQ p.1 (look b (nV p.1.ac p.1.oc) k),p.2) k (look b (nV p.1.ac p.1.oc) k):=W;rw[eb];let R:gX dA 1 (aj (aM "Hand" "stands" bx 1 (ar 0) aG) aG) [cL (.rf 0),-(nd k),Ld,Ld,Ld] ω=.ok (.fz (.int (nV p.1.ac p.1.oc))) ω1:=w6 (am (bA E (by rfl) W aI W h1) aI) W (vM p.1);generalize nV p.1.ac p.1.oc=L at H u Q R O N;generalize look b L k=m at H u Q;let(ps,J,hp,rfl):=YN;let lb:=u.lb;let c0:=lL m;let c1:=P5 m;let c2:=OA m;let c3:=ig m;let c4:=Jj m;let eL:cj (.int L) (.int 0)=-(.bool (decide (L=0))):=gj _ _;let A:(aH (bS (bq (aB (aA uN (aa 4) (bj {pC (.str "layer"),pC (.str "once")})))) (d5 "Hand" "once" (ar 0) (ag (pC .none))) bX) bX) [cL (.rf 0),-(nd k),-(.int L),-(mD m),-(.str (wd m))] (cX b p.1 p.2 ps J)=.ok (.nx [cL (.rf 0),-(nd k),-(.int L),-(mD m),-(.str (wd m))]) (cX b (fQ p.1 m) p.2 ps J):=by
  let t:bq (aB (aA uN (aa 4) (bj {pC (.str "layer"),pC (.str "once")}))) [cL (.rf 0),-(nd k),-(.int L),-(mD m),-(.str (wd m))] (cX b p.1 p.2 ps J)=.ok (!(m.acb||m.isO)) (cX b p.1 p.2 ps J):=aW (by ext:0);ext fQ;cases q:(m.acb||m.isO)with
  |true=>rw[q]at t;rw[ax W];show b8 (gy t gu) gu
  |false=>rw[q]at t;rw[aE UQ];show b8 (ez t (Af Ld W (ai av))) gu
 let T:=zC p.1 m;let G:SA b (fQ p.1 m):=Ak P;let e:ps.Perm (gx (fQ p.1 m).ac):=by simp_all
 let z:HS b (fQ p.1 m,p.2) (cX b (fQ p.1 m) p.2 ps J):=#[ps,J,e,W];generalize fQ p.1 m=s2 at A T G e z;let M:XX ((bS (bq (aB (aA cj (aa 4) (pC (.str "tap"))))) (d5 "Hand" "waiting" (ar 0) (ag (bj {bj {aa 1},~~~0,aa 3}))) (bS (jW (bq (aB (aA cj (aa 4) (pC (.str "letter"))))) (jW (bq (aB (aA cj (aa 2) (~~~0)))) (bc (jd kQ (gX bw 2 (aj (aU "Hand" "bed" (ar 0)) (aj (ag (bj {aa 1})) aG))) (ag (cC aq)))))) (d5 "Hand" "waiting" (ar 0) (ag (bj {bj {aa 1},~~~0,pC (.tuple [(.str "chord")])}))) (bS (bq (aB (aA cj (aa 4) (pC (.str "once"))))) (aH (bv (aM "Hand" "come" bp 3 (ar 0) (aj (ag (aa 1)) (aj (ag (pC (.tuple [(.str "none")]))) aG))))
 (d5 "Hand" "once" (ar 0) (ag (aA aO (aa 3) (~~~1))))) (bv (aM "Hand" "come" bp 3 (ar 0) (aj (ag (aa 1)) (aj (ag (aa 3)) aG))))))) [cL (.rf 0),-(nd k),-(.int L),-(mD m),-(.str (wd m))] (cX b s2 p.2 ps J)) (λ_ D=>SV.fz .none=.fz .none/\HS b (uW b L (s2,p.2) k m) D) (λ_ _=>False) (λr D=>r=.fz .none/\HS b (uW b L (s2,p.2) k m) D):=by
  let y:∀{ω:aL},bq (aB (aA cj (aa 4) (pC (.str "tap")))) [cL (.rf 0),-(nd k),-(.int L),-(mD m),-(.str (wd m))] ω=.ok m.isT ω:=aW (by ext:0);let C:∀{ω:aL},bq (aB (aA cj (aa 4) (pC (.str "letter")))) [cL (.rf 0),-(nd k),-(.int L),-(mD m),-(.str (wd m))] ω=.ok m.isL ω:=aW (by ext:0);let B:∀{ω:aL},bq (aB (aA cj (aa 4) (pC (.str "once")))) [cL (.rf 0),-(nd k),-(.int L),-(mD m),-(.str (wd m))] ω=.ok m.isO ω:=aW (by ext:0);let F:∀{ω:aL},bq (aB (aA cj (aa 2) (~~~0))) [cL (.rf 0),-(nd k),-(.int L),-(mD m),-(.str (wd m))] ω=.ok (decide (L=0)) ω:=aW (by ext:0);let kt:∀{ω:aL},ag (bj {aa 1}) [cL (.rf 0),-(nd k),-(.int L),-(mD m),-(.str (wd m))] ω=.ok (.fz (.tuple (bt [k]))) ω:=ai (bW (ah (af W) aw) W (UA W));let cm:∀{ω:aL},HS b (s2,p.2) ω->VA b.ls.length m->∃D,bv (aM "Hand" "come" bp 3 (ar 0) (aj (ag (aa 1)) (aj (ag (aa 3)) aG))) [cL (.rf 0),-(nd k),-(.int L),-(mD m),-(.str (wd m))] ω=.ok (.nx [cL (.rf 0),-(nd k),-(.int L),-(mD m),-(.str (wd m))]) D/\HS b (fV (s2,p.2) k m) D:=λ{ω} E va=>by let(D,l,j):=oB (k:=k) E (G.ak Z) va.lb () (show p.2.length<1000 by ext);show#[D,gQ (bA E (by rfl) W (am (ai (af W)) (am (ai (af W)) aI)) W l),j]
  cases m with
  |below=>simp_all
  |Zl c n=>show oP y (lO (jP (cL ([k],0,cL (c,n))) W (ai (ρ':=bP [cL (.rf 0),-(nd k),-(.int L),-(mD (.Zl c n)),-(.str (wd (.Zl c n)))]) ?_)) #[W,ps,J,e,W]);rfl
  |Vd c=>
   obtain⟨d1,d2⟩:VA b.ls.length (.Vd c)/\True:=#[u,trivial];by_cases K:L=0
   .rw[a4 K]at F
    let Y:=Ai Z (ω1:=cX b s2 p.2 ps J) #[ps,J,W] W (UA W) kt;let I:HS b (s2,p.2) (cX b s2 p.2 ps J++[.lst (((d6 b [k]).map V6).map .fz)]++[.lst []]):=#[ps,_,e,W];let v:uW b L (s2,p.2) k (.Vd c)=if(!(d6 b [k]).isEmpty)=Uv then({s2 with wt:=cL ([k],0,Ld)},p.2)else fV (s2,p.2) k (.Vd c):=by show(if(decide (L=0)&& !(d6 b [k]).isEmpty)=Uv then _ else _)=_;rw[a4 K,Ym]
    rw[v];show dk y (vT (eY C (eY F (aR Y))) (λq=>?_) λq=>?_)
    .rw[ax q];show lO (jP (cL ([k],0,Ld)) W (ai (ρ':=bP [cL (.rf 0),-(nd k),-(.int L),-(mD (.Vd c)),-(.str (wd (.Vd c)))]) ?_)) #[W,ps,_,e,W];rfl
    .rw[aE (by rw[q];simp)];let(D,l,j):=cm I u;show dk B (lO l #[W,j])
   .rw[a5 K]at F
    let v:uW b L (s2,p.2) k (.Vd c)=fV (s2,p.2) k (.Vd c):=by show(if(decide (L=0)&& !(d6 b [k]).isEmpty)=Uv then _ else _)=_;simp_all
    rw[v];let(D,l,j):=cm z u;show dk y (dk (eY C (eT F)) (dk B (lO l #[W,j])))
  |WX n=>let(D,l,j):=cm z u;show dk y (dk (eT C) (dk B (lO l #[W,j])))
  |none=>let(D,l,j):=cm z trivial;show dk y (dk (eT C) (dk B (lO l #[W,j])))
  |once n=>let(D,l,j):=oB (k:=k) (a:=.none) z (G.ak Z) trivial () (show p.2.length<1000 by ext);let i1:aO (mD (.once n)) (.int 1)=-(.int n):=eU;let(X,J2,hq,rfl):=j;show dk y (dk (eT C) (oP B (yE (gQ (bA z (by rfl) W (am (ai (af W)) (am (ai av) aI)) W l)) (lO (Af (cL n) W (ai (ρ':=bP [cL (.rf 0),-(nd k),-(.int L),-(mD (.once n)),-(.str (wd (.once n)))]) ?_)) #[W,X,J2,hq,W]))));rfl
 show g9 (ρ:=[cL (.rf 0),-(nd k),Ld,Ld,Ld]) W (iL R W (iL (w6 (ds:=[bD b,.int L,nd k]) (am (mB W) (am (ai (af W)) (am (ai (af W)) aI))) W H) W (iL (ai (d:=.str (wd m)) (ρ':=bP [cL (.rf 0),-(nd k),-(.int L),-(mD m),Ld]) (au (rv:=.fz (.str (wd m))) (af W) av W W c0)) W ?_)));show .eq ?_ M;let U:∀{f g:dH} {ρ:aV} {ω D:aL},aH f bX ρ ω=.ok (.nx ρ) D->aH f g ρ ω=g ρ D:=λ{f g ρ ω D} h=>by
  unfold aH at h⊢;cases q:f ρ ω with
  |bad=>rw[q]at h;ext h
  |er x o=>rw[q]at h;ext h
  |ok fl o=>
   rw[q]at h;cases fl with
   |nx r=>ext h;rfl
   |_=>ext h
 show U A
end
section
variable{b:Bd}(Z:VB b){s:Xi}{sn:Sn}{X:bb (Nat×Mn)}{J:aL}{T:aV}{i:Nat}{ω:aL}{p:Xi×Sn}{k:Nat}{a:Mn}{Y:bb Nat}{g:Int}{w:bg (Nat×Int)}
include Z
omit Z in
theorem zB(h:SA b s)(d:s.wt=Ld):SW b s:=⟨h,λ_ _ _ e=>by rw[d]at e;cases e⟩
def Pr(v:SA b p.1)(I:p.1.wt=Ld)(C:(k:Int)<b.n)(D:p.1.ac k=Ld):SW b (GL b p k).1:=by
 let(F,E):=x0 Z v;let(d,y):=sL Z F E C;let M:GL b p k=uW b (nV p.1.ac p.1.oc) (fQ p.1 (look b (nV p.1.ac p.1.oc) k),p.2) k (look b (nV p.1.ac p.1.oc) k):=W;rw[M];generalize nV p.1.ac p.1.oc=L at d y F E;generalize look b L k=m at d y;let u:=zC p.1 m;let f:SA b (fQ p.1 m):=Ak v;let j:=u.2.trans I;let t:(fQ p.1 m).ac k=Ld:=by rw[u.1];show D
 generalize fQ p.1 m=s2 at f j t;let Q:=Z.w1;let z:[k].Nodup:=VU.mpr #[V0,YY];let A:∀x∈[k],(x:Int)<b.n:=λx l=>by simp_all
 let B:∀x∈[k],s2.ac x=Ld:=λx l=>by simp_all
 let cm:∀m,VA b.ls.length m->SW b (fV (s2,p.2) k m).1:=λm G=>zB (f.cm C G) j;cases m with
 |below=>simp_all
 |Zl c n=>show#[#[f.ac,f.oc],λ_ _ _ e=>?_];ext e;show#[#[by simp,z,A,B,Y6 _,λP H e=>by ext e;show#[d.1,d.2,W],λe=>by ext e],by ext]
 |Vd c=>
  show SW b (if(decide (L=0)&& !(d6 b [k]).isEmpty)=S then({s2 with wt:=cL ([k],0,Ld)},p.2)else fV (s2,p.2) k (.Vd c)).1;split
  .rename_i q
   show#[#[f.ac,f.oc],λ_ _ _ e=>?_];ext e;show#[#[by simp,z,A,B,Y6 _,λP H e=>(by ext e),λ_ x l=>?_],by ext];let R:=(Uu _ _▸q:_/\_).2;cases qo:d6 b [k]with
   |nil=>simp_all
   |cons c r=>
    let K:c∈d6 b [k]:=by simp_all
    let(O,N):=Wh.mp K;show(Z.vc c O).2.2.1 x (a6 (VZ.mp N x l))
  .show cm _ d
 |WX n=>show cm _ d
 |none=>show cm _ trivial
 |once n=>let h:=cm .none trivial;show#[#[h.sa.ac,λo e=>by ext e;show d],λY g w e=>by let e:s2.wt=cL (Y,g,w):=e;simp_all]
theorem SW.wd(h:SW b s):WD b s:=λY g w e=>(h.wt Y g w e).1
omit Z in
theorem xt(d:bb (Nat×Mn)):∀{p:Xi×Sn},p.1.ac k=Ld->k∉d.map (·.1)->(jg p d).1.ac k=Ld:=by
 induction d with
 |nil=>exact λh _=>h
 |cons q r e=>intro p h hn;rw[UU,U5,not_or]at hn;exact e (p:=fV p q.1 q.2) ((fT hn.1).trans h) hn.2
omit Z in
theorem wV(ha:p.1.ac k=Ld)(hn:Dl p.1.wt k=Ux):(cQ b p).1.ac k=Ld:=by
 unfold cQ;split
 .exact ha
 .rename_i Y g w q;refine xt _ (p:=({p.1 with wt:=Ld},p.2)) ha λz=>?_;rw[q]at hn;obtain⟨x,d,rfl⟩:=U6.mp z;exact of_decide_eq_false hn (XJ d).1
def Dz(sw:SW b p.1)(e:(k:Int)<b.n):SW b (lh b p k).1:=by
 ext lh;split
 .show sw
 .rename_i q
  rw[VV,not_or]at q;let j:p.1.ac k=P:=by simp_all
  let h:Dl p.1.wt k=R:=by simp_all
  split
  .rename_i f;let(Y,g,e1,e2,e3,e4):=xF Z sw e j h f;show Iy Z sw e1 e3 e4
  .let d:=iq Z sw.sa (SW.wd Z sw);show Pr Z d.1.sa d.2.1 e (wV j h)
def Fi(f:HS b p ω)(sw:SW b p.1)(z:(k:Int)<b.n)(M:p.2.length<800):∃c,gf [.rf 0,.fz (nd k)] ω=.ok (.fz .none) c/\HS b (lh b p k) c:=by
 let N:=Z.n5;let y:k<5:=by ext
 let L:BT (bc (rl R (ag (aa 1)) (aU "Hand" "acts" (ar 0)))) (bc (aM "Hand" "is_waiting" bN 2 (ar 0) (aj (ag (aa 1)) aG))) [cL (.rf 0),-(nd k)] ω=.ok ((p.1.ac k).isSome||Dl p.1.wt k) ω:=by
  let H:=bA (ρ:=[cL (.rf 0),-(nd k)]) (i:=0) (m:= "is_waiting") (fa:=aj (ag (aa 1)) aG) f (by rfl) W (am (ai (af W)) aI) W (Dx f);let(X,J,v,rfl):=f
  let o:rl R (ag (aa 1)) (aU "Hand" "acts" (ar 0)) [cL (.rf 0),-(nd k)] (cX b p.1 p.2 X J)=.ok (.fz (.bool (p.1.ac k).isSome)) (cX b p.1 p.2 X J):=
   (xy (ai (af W)) (gc W) W W).trans (by rw[show iH (X.map je) (.inl (k:Int))=_ from lw v y];simp_all)
  cases q:(p.1.ac k).isSome with
  |true=>rw[q]at o;rw[Xn];show pW (aR o)
  |false=>rw[q]at o;rw[Yl];show lC (aR o) (aR H)
 show g9 W (wy L (λq=>?_) λq=>lQ ?_)
 .ext lh;rw[ax q];show tL #[W,f]
 rw[abK]at q;let Q:p.1.ac k=P:=by simp_all
 let K:lh b p k=if DU b p.1 k=S then tX b p k else GL b (cQ b p) k:=by ext lh;simp_all
 rw[K];let(t,G,j):=Ni Z f sw z q.2;show wy (aR (bA f (by rfl) W (am (ai (af W)) aI) W G)) (λl=>?_) λl=>lQ ?_
 .rw[ax l];let(Y,g,e1,e2,e3,e4):=xF Z sw z Q q.2 l;let(e,A,h):=G7 Z j sw e1 e3 (sw.wt _ _ _ e1).1 ();show MV (jE (bA j (by rfl) W (am (ai (af W)) aI) W A) (tL #[W,h]))
 .rw[aE (by rw[l];simp)]
  let d:=iq Z sw.sa (SW.wd Z sw);let C:∀e,HS b (cQ b p) e->XX (bv (aM "Hand" "begin" eG 2 (ar 0) (aj (ag (aa 1)) aG)) [cL (.rf 0),-(nd k)] e) (λ_ c=>SV.fz .none=.fz .none/\HS b (GL b (cQ b p) k) c) (λ_ _=>False) (λr c=>r=.fz .none/\HS b (GL b (cQ b p) k) c):=λe h=>by let(E,I,u):=O8 Z h d.1.sa d.2.1 z ();show gL (bA h (by rfl) W (am (ai (af W)) aI) W I) #[W,u]
  cases n:p.1.wt with
  |none=>
   let O:cQ b p=p:=by ext cQ;rw[n]
   let e1:ko (i4 p.1.wt) .none=-(.bool R):=by rw[n];rfl
   let B:=C t (by simp_all);let(X,J,v,rfl):=j;show oZ (aR (b7 (bu W) (ai av) (bH e1))) (lQ B)
  |some x=>
   let(Y,g,w):=x;let e1:ko (i4 p.1.wt) .none=-(.bool S):=by rw[n];rfl
   let(e,A,h):=jH Z j sw.sa n (sw.wt _ _ _ n).1 ();let F:=bA (ρ:=[cL (.rf 0),-(nd k)]) (i:=0) (m:= "decide") j (by rfl) W aI W A;let(X,J,v,rfl):=j;show uo (aR (b7 (bu W) (ai av) (bH e1))) (jE F (C e h))
def mO(sw:SW b p.1)(e:Dl p.1.wt k=S):SW b (cV b p k).1/\(cV b p k).2.length<=p.2.length+5:=by
 ext cV;split
 .let d:=iq Z sw.sa (SW.wd Z sw);simp_all
 .rename_i Y g c n q
  let v:=(sw.wt _ _ _ q).1;rw[q]at e;let f:=v.kn k (a6 e);let h:=(v.tp c n W).1;show#[zB (SA.cm #[sw.sa.ac,sw.sa.oc] f h) W,?_];let:=qY (p:=({p.1 with wt:=P},p.2)) (k:=k) (a:=.Vd c)
  grind
 simp_all
def ib(e:HS b p ω)(sw:SW b p.1)(d:Dl p.1.wt k=S)(E:p.2.length<800):∃D,eZ [.rf 0,.fz (nd k)] ω=.ok (.fz .none) D/\HS b (cV b p k) D:=by
 let G:=Z.n5;cases q:p.1.wt with
 |none=>rw[q]at d;ext d
 |some x=>
  let(Y,g,w):=x;let v:=(sw.wt _ _ _ q).1;let j:k∈Y:=by rw[q]at d;show a6 d
  let e2:aO (i4 p.1.wt) (.int 2)=-(re w):=by rw[q];show pN
  let B:=(xJ λc n h=>(v.tp c n h).1).1;let r:∀{ω:aL},bq (aB (aA cj (aa 2) (pC (.tuple [.str "chord"])))) [M (.rf 0),-(nd k),-(re w)] ω=.ok w.isNone ω:=aW (aK (au (af W) av W W B) W);cases w with
  |none=>
   let es:cV b p k=cQ b p:=by ext cV;rw[q]
   rw[es];let(f,l,o):=jH Z e sw.sa q v ();let y:=bA (ρ:=[M (.rf 0),-(nd k),-(re P)]) (i:=0) (m:= "decide") e (by left) W aI W l;let(X,J,t,rfl):=e;show g9 W (iL (bZ (bu W) (ai av) e2) W (oP r (gL y #[W,o])))
  |some C=>
   let(c,n):=C;let es:cV b p k=fV ({p.1 with wt:=P},p.2) k (.Vd c):=by ext cV;rw[q]
   rw[es];let A:=(v.tp c n W).1;let F:=v.kn k j;let(X,J,t,rfl):=e;let u:HS b ({p.1 with wt:=P},p.2) (cX b {p.1 with wt:=P} p.2 X J):=#[X,J,t,W];let(f,l,o):=oB (k:=k) (a:=.Vd c) u (SA.ak Z #[sw.sa.ac,sw.sa.oc]) A () (show p.2.length<1000 by ext);let z:aO (re (M (c,n))) (.int 1)=-(.str (iB c)):=eU;show g9 W (iL (bZ (bu W) (ai av) e2) W (dk r (yE (jP P W (ai av)) (gL (bA u (by left) W (am (ai (af W)) (am (ai (bW (ah av (ah (au (af W) av W W z) aw)) W (UA W))) aI)) W l) #[W,o]))))
omit Z in
theorem KO(sw:SW b p.1):SW b (go p k).1:=by
 refine⟨sw.sa.gg,?_⟩;unfold go;split
 .intro Y g w e;obtain⟨v,f⟩:=sw.wt Y g w e;exact⟨⟨v.ne,v.nd,v.kn,λx d=>by
   by_cases z:x=k
   .rw[z];exact dR
   .exact(fT z).trans (v.kf x d),v.g0,v.tp,v.ch⟩,f⟩
 .exact sw.wt
def HH(sw:SW b p.1):SW b (uV b p k).1:=by
 ext uV;split
 .rename_i q;show KO (mO Z sw q).1
 .show KO sw
def Ka(d:HS b p ω)(sw:SW b p.1)(C:(k:Int)<b.n)(t:p.2.length<700):∃c,gU [.rf 0,.fz (nd k)] ω=.ok (.fz .none) c/\HS b (uV b p k) c:=by
 let E:=Z.n5;let f:k<5:=by ext
 let e:∀{p:Xi×Sn} {ω:aL},HS b p ω->SW b p.1->p.2.length<800->XX (bS (bc (rl R (ag (aa 1)) (aU "Hand" "acts" (ar 0)))) (bv (aM "Hand" "go" iA 2 (ar 0) (aj (ag (aa 1)) aG))) bX [M (.rf 0),-(nd k)] ω) (λ_ c=>SV.fz .none=.fz .none/\HS b (go p k) c) (λ_ _=>False) (λr c=>r=.fz .none/\HS b (go p k) c):=λ{p ω} d sw t=>by
  cases n:p.1.ac k with
  |none=>
   let y:go p k=p:=by ext go;rw[n]
   rw[y];let(X,J,h,rfl):=d;show dk (aR ((xy (ai (af W)) (gc W) W W).trans (by rw[show iH (X.map je) (.inl (k:Int))=_ from lw h f,n];rfl))) (jG #[W,X,J,h,W])
  |some a=>let(j,u,A):=QO d (sw.sa.ak Z) n ();let o:=bA (ρ:=[M (.rf 0),-(nd k)]) (i:=0) (m:= "go") (fa:=aj (ag (aa 1)) aG) d (by rfl) W (am (ai (af W)) aI) W u;let(X,J,h,rfl):=d;show oP (aR ((xy (ai (af W)) (gc W) W W).trans (by rw[show iH (X.map je) (.inl (k:Int))=_ from lw h f,n];rfl))) (gL o #[W,A])
 show g9 W (wy (aR (bA d (by rfl) W (am (ai (af W)) aI) W (Dx d))) (λq=>?_) λq=>?_)
 .ext uV;rw[ax q];let(l,v,B):=ib Z d sw q ();let z:=mO Z sw q;show jE (bA d (by rfl) W (am (ai (af W)) aI) W v) (e B z.1 ())
 .ext uV;rw[aE (by rw[q];simp)];show lQ (e d sw ())
def IK(sw:SW b p.1):SW b (ka b p).1:=by
 ext ka;split
 .show sw
 .rename_i Y g w q
  let(v,f):=sw.wt Y g w q;let d:WV b p.1.ac Y (g+1) w:=#[v.ne,v.nd,v.kn,v.kf,by let:=v.g0;ext,v.tp,v.ch];split
  .show(iq Z (p:=({p.1 with wt:=M (Y,g+1,w)},p.2)) #[sw.sa.ac,sw.sa.oc] λ_ _ _ e=>by simp_all).1
  .rename_i h;show#[#[sw.sa.ac,sw.sa.oc],λ_ _ _ e=>by ext e;show#[d,by ext]]
def Hq(l:HS b p ω)(sw:SW b p.1)(o:p.2.length<800):∃c,eN [.rf 0] ω=.ok (.fz .none) c/\HS b (ka b p) c:=by
 let(X,J,f,rfl):=l;cases q:p.1.wt with
 |none=>
  let d:ka b p=p:=by ext ka;rw[q]
  rw[d];let e1:lZ (i4 p.1.wt) .none=-(.bool S):=by rw[q];rfl
  show g9 W (uo (aR (b7 (bu W) (ai av) (bH e1))) (tL #[W,X,J,f,W]))
 |some x=>
  let(Y,g,w):=x;let v:=(sw.wt _ _ _ q).1;let j:WV b p.1.ac Y (g+1) w:=#[v.ne,v.nd,v.kn,v.kf,by let:=v.g0;ext,v.tp,v.ch];let d:ka b p=if g+1=b.wt then cQ b ({p.1 with wt:=M (Y,g+1,w)},p.2)else({p.1 with wt:=M (Y,g+1,w)},p.2):=by ext ka;rw[q]
  rw[d];let e1:lZ (i4 p.1.wt) .none=-(.bool R):=by rw[q];rfl
  let e0:aO (i4 p.1.wt) (.int 0)=-(.tuple (bt Y)):=by rw[q];show dI
  let e2:aO (i4 p.1.wt) (.int 2)=-(re w):=by rw[q];show pN
  let e3:aO (i4 p.1.wt) (.int 1)=-(.int g):=by rw[q];show eU
  let e4:aO (bD b) (.int 3)=-(.int b.wt):=Cy W;let e:HS b ({p.1 with wt:=M (Y,g+1,w)},p.2) (cX b {p.1 with wt:=M (Y,g+1,w)} p.2 X J):=#[X,J,f,W];show g9 W (oZ (aR (b7 (bu W) (ai av) (bH e1))) (lQ (iL (b7 (bZ (bu W) (ai av) e3) (ai av) (bH (eK _ _))) W (yE (jP (M (Y,g+1,w)) W (qZ (am (bZ (bu W) (ai av) e0) (am (ai (af W)) (am (bZ (bu W) (ai av) e2) aI))) (UA W))) (vT (aR (b7 (ai (af W)) (bZ (mB W) (ai av) e4) (bH (gj _ _)))) (λz=>?_) λz=>?_)))))
  .rw[ax (a6 z)];let(h,m,n):=jH Z e #[sw.sa.ac,sw.sa.oc] W j (show p.2.length<900 by ext);show gL (bA e (by rfl) W aI W m) #[W,n]
  .rw[aE (of_decide_eq_false z)];show jG #[W,e]
def Zk.acT:Zk->Bool
 |.turn=>S
 |_=>R
def Zk.isDown:Zk->Bool
 |.down _=>S
 |_=>R
def EV(b:Bd):Zk->Prop
 |.down k=>(k:Int)<b.n
 |.up k=>(k:Int)<b.n
 |.turn=>True
def zU(sw:SW b s)(d:EV b e):SW b (bh b s e).1:=by
 cases e with
 |down k=>show Dz Z sw d
 |up k=>show HH Z sw
 |turn=>show IK Z sw
omit Z in
theorem rF:∀l:bb (Nat×Mn),aF pA (l.map pD)=cL (l.map je)
 |[]=>rfl
 |q::r=>by rw[UU];unfold aF;rw[rF r];rfl
omit Z in
theorem uU:∀(l acc:bb (Nat×Mn)),((acc++l).map (·.1)).Nodup->kG (acc.map je) (l.map je)=(acc++l).map je
 |[],acc,_=>by rw[Vh];rfl
 |q::r,acc,h=>by
  have hn:∀x∈acc,x.1≠q.1:=λx d e=>by rw[U9,WW]at h;exact h.2.2 _ (U6.mpr ⟨x,d,rfl⟩) q.1 UP e
  have e1:i6 (acc.map je) (je q).1 (je q).2=(acc++[q]).map je:=by
   unfold i6;rw[aE ?_,U9]
   .rfl
   .intro z;obtain⟨n,m,j⟩:=Xz.mp z;obtain⟨x,f,rfl⟩:=U6.mp m;have:=Sum.inl.inj (a6 j);exact hn x f (by ext)
  show kG (i6 (acc.map je) (je q).1 (je q).2) (r.map je)=_;rw[e1,uU r (acc++[q]) (by rw[Ve];exact h),Ve];rfl
omit Z in
theorem Kf:cZ [.rf 0,.fz (bD b),.fz (dB s)] [.obj "Hand" []]=.ok (.fz .none) (cX b s [] (gx s.ac) []):=by
 have e0:aO (dB s) (.int 0)=-(.tuple ((gx s.ac).map pD)):=dI;have e1:aO (dB s) (.int 1)=-(i4 s.wt):=eU;have e2:aO (dB s) (.int 2)=-(rA s.oc):=pN;have v:gG "bed" (.fz (bD b)) []=([("bed",.fz (bD b))]:bb (Str×SV)):=rfl;have q:gG "acts" (.rf 1) ([("bed",.fz (bD b))]:bb (Str×SV))=([("bed",.fz (bD b)),("acts",.rf 1)]:bb (Str×SV)):=by unfold gG;rw[aE (by left)];rfl
 have o:gG "waiting" (.fz (i4 s.wt)) ([("bed",.fz (bD b)),("acts",.rf 1)]:bb (Str×SV))=([("bed",.fz (bD b)),("acts",.rf 1),("waiting",.fz (i4 s.wt))]:bb (Str×SV)):=by unfold gG;rw[aE (by left)];unfold gG;rw[aE (by left)];rfl
 have n:gG "once" (.fz (rA s.oc)) ([("bed",.fz (bD b)),("acts",.rf 1),("waiting",.fz (i4 s.wt))]:bb (Str×SV))=([("bed",.fz (bD b)),("acts",.rf 1),("waiting",.fz (i4 s.wt)),("once",.fz (rA s.oc))]:bb (Str×SV)):=by unfold gG;rw[aE (by left)];unfold gG;rw[aE (by left)];unfold gG;rw[aE (by left)];rfl
 have m:gG "sent" (.rf 2) ([("bed",.fz (bD b)),("acts",.rf 1),("waiting",.fz (i4 s.wt)),("once",.fz (rA s.oc))]:bb (Str×SV))=Ht b s:=by unfold gG;rw[aE (by left)];unfold gG;rw[aE (by left)];unfold gG;rw[aE (by left)];unfold gG;rw[aE (by left)];rfl
 have r:kG [] ((gx s.ac).map je)=(gx s.ac).map je:=uU (gx s.ac) [] (qQ s.ac);have j:∀{x:SV} {T:aV} {fs:bb (Str×SV)} {ω:aL} {l:cR} {f:Str} {c:Cell} {e:aL},T[0]?=cL (cL (.rf 0))->l T ω=.ok x (.obj "Hand" fs::e)->fs.length<100->d5 "Hand" f (ar 0) l T ω=.ok (.nx T) (.obj "Hand" (gG f x fs)::e):=λh u t=>(mS u (a9 h) rfl t).trans rfl
 have ha:rJ (ag (aA aO (aa 2) (~~~0))) [cL (.rf 0),-(bD b),-(dB s)] [.obj "Hand" ([("bed",.fz (bD b))]:bb (Str×SV))]=.ok (.rf 1) [.obj "Hand" ([("bed",.fz (bD b))]:bb (Str×SV)),.Zm ((gx s.ac).map je)]:=
  (GZ (ai (d:=.tuple ((gx s.ac).map pD)) (au (rv:=.fz (.tuple ((gx s.ac).map pD))) (af rfl) av rfl rfl e0)) (rF _)).trans (by rw[r];rfl)
 refine kT (ρ:=[cL (.rf 0),-(bD b),-(dB s)]) (ρ1:=[cL (.rf 0),-(bD b),-(dB s)]) rfl (b8 (j rfl (c:=.dead) (ai (d:=bD b) (af rfl)) (UA rfl)) (b8 (j rfl (c:=.dead) ha (UA rfl)) (b8 (j rfl (c:=.dead) (ai (d:=i4 s.wt) (au (rv:=.fz (i4 s.wt)) (af rfl) av rfl rfl e1)) (UA rfl)) (b8 (j rfl (c:=.dead) (ai (d:=rA s.oc) (au (rv:=.fz (rA s.oc)) (af rfl) av rfl rfl e2)) (UA rfl)) ?_))));rw[q,o,n];refine(j (fs:=([("bed",.fz (bD b)),("acts",.rf 1),("waiting",.fz (i4 s.wt)),("once",.fz (rA s.oc))]:bb (Str×SV))) rfl (c:=.dead) (eJ (ds:=[]) (mJ aw rfl (Vq _))) (UA rfl)).trans ?_;show RS.ok _ (Cell.obj "Hand" (gG "sent" (.rf 2) ([("bed",.fz (bD b)),("acts",.rf 1),("waiting",.fz (i4 s.wt)),("once",.fz (rA s.oc))]:bb (Str×SV)))::_)=_;rw[m];rfl
omit Z in
theorem JB(e:Zk):∃x:Str,aO (dQ e) (.int 0)=-(.str x)/\cj (.str x) (.str "turn")=-(.bool (e.acT))/\cj (.str x) (.str "down")=-(.bool (e.isDown)):=by
 have f:UB.strOk "down"=Uv:=by left
 have h:UB.strOk "up"=Uv:=by left
 have d:UB.strOk "turn"=Uv:=by left
 cases e with
 |down k=>exact⟨"down",dI,zr f d (by left),LJ f⟩
 |up k=>exact⟨"up",dI,zr h d (by left),zr h f (by left)⟩
 |turn=>exact⟨"turn",dI,LJ d,zr d f (by left)⟩
def yN(sw:SW b s)(u:EV b e):∃c,df [.fz (bD b),.fz (dB s),.fz (dQ e)] []=.ok (.tp [.rf 2,.fz (dB (bh b s e).1)]) c/\sh c (.rf 2)=M (.list ((bh b s e).2.map ir)):=by
 let d:HS b (s,[]) (cX b s [] (gx s.ac) []):=#[gx s.ac,[],.refl _,W];let(x,q,y,v):=JB e;let n:∀{ω:aL},bq (aB (aA cj (aA aO (aa 2) (~~~0)) (pC (.str "turn")))) [-(bD b),-(dB s),-(dQ e),M (.rf 0)] ω=.ok (e.acT) ω:=aW (aK (au (au (af W) av W W q) av W W y) W);let t:∀{ω:aL},bq (aB (aA cj (aA aO (aa 2) (~~~0)) (pC (.str "down")))) [-(bD b),-(dB s),-(dQ e),M (.rf 0)] ω=.ok (e.isDown) ω:=aW (aK (au (au (af W) av W W q) av W W v) W);let j:∀{ω:aL},HS b (bh b s e) ω->XX (fR (hV (aj (aU "Hand" "sent" (ar 3)) (aj (aM "Hand" "stands" bx 1 (ar 3) aG) aG))) [-(bD b),-(dB s),-(dQ e),M (.rf 0)] ω) (λ_ c=>SV.fz .none=.tp [.rf 2,.fz (dB (bh b s e).1)]/\sh c (.rf 2)=M (.list ((bh b s e).2.map ir))) (λ_ _=>False) (λr c=>r=.tp [.rf 2,.fz (dB (bh b s e).1)]/\sh c (.rf 2)=M (.list ((bh b s e).2.map ir))):=λ{ω} L=>by let(f,h,l):=mh L;let m:=bA (ρ:=[-(bD b),-(dB s),-(dQ e),M (.rf 0)]) (i:=3) (m:= "stands") L (by rfl) W aI W h;let(X,J,C,rfl):=L;let(A,E,B,rfl):=l;show ON (yF (am (tJ W) (am m aI)) (UA W) W W) #[W,eW W]
 let z:p7 "Hand" cZ 3 (aj (ag (aa 0)) (aj (ag (aa 1)) aG)) [-(bD b),-(dB s),-(dQ e),P] []=.ok (.rf 0) (cX b s [] (gx s.ac) []):=Nr (am (ai (af W)) (am (ai (af W)) aI)) W Kf;show g9 W (iL z W ?_);cases e with
 |turn=>let(f,h,l):=Hq Z d sw (show 0<800 by decide);show uo n (jE (bA d (by rfl) W aI W h) (j l))
 |down k=>let(f,h,l):=Fi Z d sw u (show 0<800 by decide);let o:aO (dQ (.down k)) (.int 1)=-(nd k):=eU;show oZ n (uo t (jE (bA d (by rfl) W (am (ai (au (af W) av W W o)) aI) W h) (j l)))
 |up k=>let(f,h,l):=Ka Z d sw u (show 0<700 by decide);let o:aO (dQ (.up k)) (.int 1)=-(nd k):=eU;show oZ n (oZ t (jE (bA d (by rfl) W (am (ai (au (af W) av W W o)) aI) W h) (j l)))
def KN{e:Zk}(sw:SW b s)(f:EV b e):RB df [bD b,dB s,dQ e]=.ok (.fz (.tuple [.list ((bh b s e).2.map ir),dB (bh b s e).1])):=by let(d,j,h):=yN Z sw f;ext RB;rw[show[bD b,dB s,dQ e].map SV.fz=[.fz (bD b),.fz (dB s),.fz (dQ e)]from rfl,j];dsimp only;ext aF;rw[show Sk d (.rf 2)=M (.list ((bh b s e).2.map ir))from h];rfl
def DA{e:Zk}(sw:SW b s)(h:EV b e):rK df 3 [.fz (bD b),.fz (dB s),.fz (dQ e)] ω=.ok (.tp [.rf ω.length,.fz (dB (bh b s e).1)]) (ω++[.lst (((bh b s e).2.map ir).map .fz)]):=by
 let(d,l,j):=yN Z sw h;ext rK;rw[ax (show([.fz (bD b),.fz (dB s),.fz (dQ e)]:G SV).length=3 from rfl),show aF uF [.fz (bD b),.fz (dB s),.fz (dQ e)]=M [bD b,dB s,dQ e]from rfl];dsimp only;rw[show[bD b,dB s,dQ e].map SV.fz=[.fz (bD b),.fz (dB s),.fz (dQ e)]from rfl,l];show(match BV d ω.length [.rf 2,.fz (dB (bh b s e).1)]with
  |some (m,cs,n)=>if n.Nodup then RS.ok (SV.tp m) (ω++cs.map Sa)else .bad
  |none=>.bad)=_
 let f:BV d ω.length [.rf 2,.fz (dB (bh b s e).1)]=M ([.rf ω.length,.fz (dB (bh b s e).1)],[(bh b s e).2.map ir],[2]):=by ext BV;rw[j];rfl
 rw[f];dsimp only;rw[ax ()];rfl
end
def Oj:Xi:=#[λ_=>P,P,P]
theorem jM(b:Bd):SW b Oj:=#[#[λk a e=>(by ext e),λo e=>(by ext e)],λd g w e=>(by ext e)]
theorem yV{α:Type}{f:α->D}:∀{l:G α},(∀a∈l,UB.canLay0 (f a)=S)->UB.canLayAll0 (l.map f)=S
 |[],_=>rfl
 |a::r,h=>by show(UB.canLay0 (f a)&&UB.canLayAll0 (r.map f))=S;rw[h a UP,yV λx b=>h x (UM _ b)];rfl
theorem tP{α:Type}{f:α->D}{n:Nat}:∀{l:G α},(∀a∈l,UB.depth (f a)<=n)->UB.depthAll (l.map f)<=n
 |[],_=>Vq _
 |a::r,h=>ahG.mpr #[h a UP,tP λx b=>h x (UM _ b)]
def Lf{d:D}(b:UB.canLay0 d=S)(a:UB.depth d<=64):j8 d=S:=by ext j8;simp_all
def mI{d:D}(h:j8 d=S):UB.canLay0 d=S:=by unfold j8 at h;simp_all
def oK{d:D}(h:j8 d=S):kQ d d=-(.bool R):=by ext kQ;rw[h,mI h,Wn,ax W,Xk d (mI h)];rfl
def J0{d:D}(h:j8 d=S):cj d d=-(.bool S):=by ext cj;rw[h,mI h,Wn,ax W,Xk d (mI h)]
def XI(sn:Sn):Prop:=∀q∈sn,q.1<26
def Kt{q:Nat×Bool}(h:q.1<26):UB.canLay0 (ir q)=S:=by show(UB.strOk (iB q.1)&&(UB.strOk (if q.2=S then "down" else "up")&&S))=S;rw[ky h];cases q.2<;>left
theorem HN(q:Nat×Bool):UB.depth (ir q)<=1:=UA W
def wU{sn:Sn}(h:XI sn):j8 (.list (sn.map ir))=S:=by show Lf (yV λq a=>Kt (h q a)) ?_;show UB.depthAll (sn.map ir)+1<=64;let:=tP (f:=ir) (l:=sn) λq _=>HN q;ext
section
variable{b:Bd}(Z:VB b){s:Xi}{p:Xi×Sn}{k:Nat}{a:Mn}
theorem XI.app{x y:Sn}(e:XI x)(d:XI y):XI (x++y):=λq f=>(Vg.mp f).elim (e q) (d q)
def jT(h:XI p.2)(e:LB a):XI (fV p k a).2:=by
 show h.app λq d=>?_;cases a with
 |Vd c=>
  let d:q∈(if lm p.1.ac (.Vd c)=S then[]else[(c,S)]:Sn):=d;split at d
  .ext d
  .rw[US.mp d];show e
 |_=>ext d
def F8(d:G (Nat×Mn)):∀{p:Xi×Sn},XI p.2->(∀q∈d,LB q.2)->XI (jg p d).2:=by
 induction d with
 |nil=>show λh _=>h
 |cons q r f=>show λh e=>f (jT h (e q UP)) λx g=>e x (UM _ g)
def Lx(h:XI p.2)(e:SA b p.1):XI (go p k).2:=by
 ext go;split
 .rename_i a q
  let lb:=(e.ac k a q).2.lb;show h.app λx d=>?_;cases a with
  |Vd c=>
   let d:x∈(if lm (ke p.1.ac k P) (.Vd c)=S then[]else[(c,R)]:Sn):=d;split at d
   .ext d
   .rw[US.mp d];show lb
  |_=>ext d
 .show h
include Z
def lx(h:XI p.2)(f:WD b p.1):XI (cQ b p).2:=by
 ext cQ;split
 .show h
 .rename_i d g w q;show F8 _ (p:=({p.1 with wt:=P},p.2)) h λx e=>(ue Z (f d g w q) x e).2.lb
def NY(h:XI p.2)(e:SA b p.1)(g:(k:Int)<b.n):XI (GL b p k).2:=by
 let(l,j):=x0 Z e;let(d,f):=sL Z (k:=k) l j g;let i:GL b p k=uW b (nV p.1.ac p.1.oc) (fQ p.1 (look b (nV p.1.ac p.1.oc) k),p.2) k (look b (nV p.1.ac p.1.oc) k):=W;rw[i];generalize look b (nV p.1.ac p.1.oc) k=m at d f;generalize nV p.1.ac p.1.oc=L at d;let lb:=d.lb;cases m with
 |Zl c n=>show h
 |Vd c=>
  show XI (if(decide (L=0)&& !(d6 b [k]).isEmpty)=S then({fQ p.1 (.Vd c)with wt:=M ([k],0,P)},p.2)else fV (fQ p.1 (.Vd c),p.2) k (.Vd c)).2;split
  .show h
  .show jT (p:=(fQ p.1 (.Vd c),p.2)) h lb
 |WX n=>show jT (p:=(fQ p.1 (.WX n),p.2)) h lb
 |once n=>show jT (p:=(fQ p.1 (.once n),p.2)) (k:=k) (a:=.none) h trivial
 |none=>show jT (p:=(fQ p.1 .none,p.2)) h lb
 |below=>simp_all
def oi{e:Zk}(sw:SW b s)(i:EV b e):XI (bh b s e).2:=by
 let f:XI []:=λq l=>by ext l
 cases e with
 |turn=>
  show XI (ka b (s,[])).2;ext ka;split
  .show f
  .rename_i h g w q
   let v:=(sw.wt h g w q).1;split
   .show lx Z (p:=({s with wt:=M (h,g+1,w)},[])) f λ_ _ _ e=>by ext e;show#[v.ne,v.nd,v.kn,v.kf,by let:=v.g0;ext,v.tp,v.ch]
   .show f
 |up k=>
  show XI (uV b (s,[]) k).2;ext uV;split
  .rename_i q
   let z:=mO Z (p:=(s,[])) sw q;show Lx ?_ z.1.sa;ext cV;split
   .show lx Z (p:=(s,[])) f (SW.wd Z sw)
   .rename_i c n e;let m:c<26:=((sw.wt _ _ _ e).1.tp c n W).1;show jT (p:=({s with wt:=P},[])) f m
   .show f
  .show Lx (p:=(s,[])) f sw.sa
 |down k=>
  show XI (lh b (s,[]) k).2;ext lh;split
  .show f
  .rename_i q
   rw[VV,not_or]at q;let r:s.ac k=P:=by simp_all
   let o:Dl s.wt k=R:=by simp_all
   split
   .rename_i j
    let(h,g,e1,e2,e3,e4):=xF Z (p:=(s,[])) sw i r o j;let e1:s.wt=M (h,g,P):=e1;ext tX;dsimp only;rw[e1];dsimp only;split
    .show lx Z (p:=({s with wt:=M (h++[k],g,P)},[])) f λ_ _ _ e=>by ext e;show e3
    .show f
   .let d:=iq Z (p:=(s,[])) sw.sa (SW.wd Z sw);show NY Z (lx Z (p:=(s,[])) f (SW.wd Z sw)) d.1.sa i
end
end STP
namespace K52
open PySem L2 L3 STP
def gJ:FS:=(aZ (ja (aB (aA GD (aa 1) (fY cI {aa 0}))) (cb (aA aO (aa 0) (aa 1))) cG)
 (cb (~~~0)))
def br:FN:=eD 2 gJ
def d4:FS:=(aZ (ja (GK (aB (aA GD (aa 0) (~~~0))) (aB (aA QW (aa 0) (aA Ec (~~~10) (~~~18))))) (aZ (kY (mr iO {aa 1}) (gN 3) (dL (aA xj (aa 0) (~~~1000)) (gN 0)))
 (cb (aA l6 (aa 0) (aa 2)))) cG)
 (aZ (dL (aA gp (aA cz (aA cz (aA l6 (aa 0) (~~~1000033)) (aA gp (~~~77) (aa 1))) (~~~5)) (aA cz (aA gp (aa 1) (aa 1)) (~~~40009))) (gN 4))
 (cb (aA l6 (aA xj (aA l6 (aA cz (aA gp (aA l6 (aa 4) (~~~998857)) (~~~30011)) (aa 1)) (~~~999983)) (~~~3)) (aa 2)))))
def aD:FN:=eD 5 d4
def fA:FS:=(cb (aA eO (pC (.str "abz")) (b6 aD 3 {aa 0,aa 1,~~~3})))
def cF:FN:=eD 2 fA
def cO:FS:=(aZ (dL (b6 aD 3 {aa 0,~~~11,~~~12}) (gN 3))
 (aZ (ja (aB (aA cj (aa 2) (~~~1))) (dL (aA aO (cC {~~~1,~~~1,~~~1,~~~8}) (b6 aD 3 {aa 0,~~~12,~~~4})) (gN 3)) cG)
 (aZ (dL (aA cz (~~~1) (b6 aD 3 {aa 0,~~~13,fY v4 {~~~1,aA mw (aa 2) (~~~1)}})) (gN 4))
 (aZ (ja (GK (aB (aA cj (aa 3) (~~~4))) (aB (aA cj (aa 3) (~~~5)))) (cb (bj {pC (.str "layer"),aa 4})) cG)
 (aZ (ja (GK (aB (aA cj (aa 3) (~~~6))) (aB (aA cj (aa 3) (~~~7)))) (cb (bj {pC (.str "tap"),b6 cF 2 {aa 0,~~~14},aa 4})) cG)
 (aZ (ja (aB (aA cj (aa 3) (~~~8))) (cb (bj {pC (.str "none")})) cG)
 (aZ (ja (aB (aA cj (aa 3) (~~~9))) (cb (bj {pC (.str "once"),aa 4})) cG)
 (aZ (ja (qB (aB (aA GB (aa 3) (~~~9))) (aB (aA GB (aa 1) (~~~0)))) (cb (bj {pC (.str "below")})) cG)
 (cb (bj {pC (.str "letter"),b6 cF 2 {aa 0,~~~15}}))))))))))
def dz:FN:=eD 5 cO
def c9:FS:=(aZ (dL (cC aq) (gN 3))
 (aZ (kY (mr iO {aA J8 (~~~1) (aa 1)}) (gN 4) (aZ (dL (fY nF {eS 1 [4] (mr iO {aa 1}) (gN 0) (aB (aA cj (aA wB (aA FD (aa 1) (aa 0)) (~~~1)) (~~~1))) (aa 0)}) (gN 5))
 (aZ (dL (yB (aA GB (fY cI {aa 5}) (~~~1)) (fY vX {eS 1 [2] (im (aa 5)) (gN 0) dZ (aA cj (aA aO (aA aO (aa 1) (aa 0)) (~~~0)) (pC (.str "letter")))})) (gN 6))
 (ja (qB (aB (aa 6)) (qB (aB (aA GD (fY cI {aa 3}) (~~~4))) (aB (aA cj (b6 aD 3 {aa 0,aA cz (~~~20) (aa 4),~~~3}) (~~~0))))) (lU (wx 3 (bj {aa 5,aA eO (pC (.str "abcz")) (b6 aD 3 {aa 0,aA cz (~~~40) (aa 4),~~~4})}))) cG))))
 (cb (fY nF {aa 3}))))
def fx:FN:=eD 7 c9
def eX:FS:=(aZ (dL (b6 br 2 {aa 0,aa 1}) (gN 3))
 (aZ (dL (aA aO (cC (ae (~~~1) {~~~2,~~~2,~~~2,~~~3})) (b6 aD 3 {aa 3,~~~5,~~~5})) (gN 4))
 (aZ (dL (cC aq) (gN 5))
 (aZ (kY (mr iO {aa 4}) (gN 6) (aZ (dL (eS 1 [0,1,2,6] (mr iO {aa 2}) (gN 0) dZ (b6 br 2 {aa 1,aA cz (aA cz (aA cz (aa 2) (~~~1)) (aA gp (aa 3) (aa 4))) (aa 0)})) (gN 7))
 (lU (wx 5 (fY nF {eS 1 [6,4] (im (aa 7)) (gN 0) dZ (b6 dz 3 {aa 0,aa 1,aa 2})})))))
 (aZ (dL (b6 fx 3 {b6 br 2 {aa 0,aA cz (aa 1) (~~~10)},aa 2,aA aO (aa 5) (~~~0)}) (gN 8))
 (cb (bj {aa 2,fY nF {aa 5},aa 8,aA cz (~~~1) (b6 aD 3 {aa 3,~~~6,aA aO (cC {~~~4,~~~4,~~~2}) (aA mw (aa 2) (~~~1))})})))))))
def eV:FN:=eD 9 eX
def gP:FS:=(cb (aA aO (cC {~~~1,~~~2,~~~2,~~~3}) (b6 aD 3 {b6 br 2 {aa 0,~~~0},~~~1,~~~4})))
def gI:FN:=eD 1 gP
def iC:FS:=(cb (aA uj (aA uj (Lr ML (aa 0) pK (nu (aa 1))) (bj {aa 2})) (Lr ML (aa 0) (nu (aA uj (aa 1) (~~~1))) pK)))
def cW:FN:=eD 3 iC
def bV:FS:=(aZ (dL (aa 1) (gT 4 (D2 (gN 2) (D2 (gN 3) (D2 (gN 4) (D2 (gN 5) PD))))))
 (aZ (dL (b6 br 2 {aa 0,~~~12}) (gN 6))
 (aZ (dL (b6 aD 3 {aa 6,~~~70,~~~8}) (gN 7))
 (aZ (dL (b6 aD 3 {aa 6,~~~71,fY cI {aa 3}}) (gN 8))
 (aZ (dL (b6 aD 3 {aa 6,~~~72,aa 2}) (gN 9))
 (aZ (dL (aA aO (aA aO (aa 3) (aa 8)) (aa 9)) (gN 10))
 (aZ (ja (aB (aA cj (aa 7) (~~~1))) (cb (bj {aa 2,aa 3,Px L9.Kb (aa 4),aa 5})) cG)
 (aZ (ja (qB (aB (aA cj (aa 7) (~~~2))) (aB (aA cj (aa 10) (bj {pC (.str "below")})))) (cb (bj {aa 2,b6 cW 3 {aa 3,aa 8,b6 cW 3 {aA aO (aa 3) (aa 8),aa 9,aA aO (aA aO (aa 3) (~~~0)) (aa 9)}},aa 4,aa 5})) cG)
 (aZ (ja (qB (aB (aA cj (aa 7) (~~~3))) (aB (aA cj (aA aO (aa 10) (~~~0)) (pC (.str "letter"))))) (aZ (dL (bj {pC (.str "letter"),aA eO (pC (.str "abz")) (b6 aD 3 {aa 6,~~~73,~~~3})}) (gN 11))
 (cb (bj {aa 2,b6 cW 3 {aa 3,aa 8,b6 cW 3 {aA aO (aa 3) (aa 8),aa 9,aa 11}},aa 4,aa 5}))) cG)
 (aZ (ja (aB (aA cj (aa 7) (~~~4))) (cb (bj {aa 2,aa 3,aa 4,aA cz (~~~1) (aA l6 (aa 5) (~~~2))})) cG)
 (aZ (ja (aB (aA cj (aa 7) (~~~5))) (cb (bj {aa 2,aa 3,Lr Si (aa 4) (nu (~~~1)) pK,aa 5})) cG)
 (aZ (ja (aB (aA GB (aa 7) (~~~5))) (cb (b6 eV 3 {aa 0,~~~13,aa 2})) cG)
 (cb (aa 1))))))))))))))
def dD:FN:=eD 12 bV
def fw:FS:=(aZ (dL (cC aq) (gN 1))
 (aZ (kY (im (cC {pC (.str "down"),pC (.str "up")})) (gN 2) (kY (mr iO {aA aO (aa 0) (~~~0)}) (gN 3) (lU (wx 1 (bj {aa 2,aa 3})))))
 (cb (aA cz (aa 1) (cC {bj {pC (.str "turn"),~~~0}})))))
def c7:FN:=eD 4 fw
def fH:FS:=(aZ (dL (eS 1 [] (mr iO {aA aO (aa 0) (~~~0)}) (gN 0) dZ (bj {pC (.str "down"),aa 0})) (gN 1))
 (aZ (dL (eS 1 [] (mr iO {aA aO (aa 0) (~~~0)}) (gN 0) dZ (bj {pC (.str "up"),aa 0})) (gN 2))
 (cb (aA cz (aA cz (aa 1) (aa 2)) (cC {bj {pC (.str "turn"),~~~0}})))))
def fK:FN:=eD 3 fH
def df:FN:=L10.RB STP.df
def fy:FS:=(aZ (kY (im (b6 c7 1 {aa 0})) (gN 3) (ja (aB (aA kQ (aA aO (b6 df 3 {aa 0,aA aO (aa 2) (~~~0),aa 3}) (~~~0)) (aA aO (b6 df 3 {aa 1,aA aO (aa 2) (~~~1),aa 3}) (~~~0)))) (cb (pC (.bool S))) cG))
 (cb (pC (.bool R))))
def c8:FN:=eD 4 fy
end K52
namespace K52
open PySem L2 L3 L10 STP
def bM:dH:=(aH (bS (bc (qh S (ag (aa 1)) (aU "Places" "numbers" (ar 0)))) (aH (bS (bc (jd QW (xE cI (aj (aU "Places" "found" (ar 0)) aG)) (aU "Places" "most" (ar 0)))) (lF "TooMany" "most" (aU "Places" "most" (ar 0))) bX)
 (aH (mv (aU "Places" "numbers" (ar 0)) (ag (aa 1)) (xE cI (aj (aU "Places" "found" (ar 0)) aG)))
 (bv (pf (aU "Places" "found" (ar 0)) (ag (bj {aa 1,aa 2,aa 3})))))) bX)
 (fR (iG (aU "Places" "numbers" (ar 0)) (ag (aa 1)))))
def bL:fJ:=cH 4 bM
def bE:dH:=(aH (d5 "Places" "most" (ar 0) (ag (aa 2)))
 (aH (d5 "Places" "found" (ar 0) (ag (cC aq)))
 (aH (d5 "Places" "numbers" (ar 0) tZ)
 (bv (nt "Places" "enter" bL 4 (ar 0) (aj (ag (aa 1)) (aj (ag (pC .none)) (aj (ag (pC .none)) aG))))))))
def cy:fJ:=cH 3 bE
def cY:dH:=(aH (cJ (ag (cC aq)) (eR 2))
 (aH (cJ (eO (aU "Places" "found" (ar 0)) (ag (aa 1))) (eR 3))
 (aH (mG (bq (aB (aA ko (aA aO (aa 3) (~~~1)) (pC .none)))) (aH (bv (pf (ar 2) (ag (aA aO (aa 3) (~~~2)))))
 (cJ (eO (aU "Places" "found" (ar 0)) (ag (aA aO (aa 3) (~~~1)))) (eR 3))))
 (fR (wj (ar 2))))))
def ci:fJ:=cH 4 cY
def pd:dH:=(aH (bS (bq (aB (aA kQ (aA aO (aa 0) (~~~0)) (aA aO (aa 1) (~~~0))))) Oo bX)
 (aH (cJ (jc (ag (b6 fK 1 {aa 0}))) (eR 3))
 (aH (cJ (Bw "Places" cy 3 (aj (ag (bj {pC (.tuple [(.tuple []),.none,.none]),pC (.tuple [(.tuple []),.none,.none])})) (aj (ag (aa 2)) aG))) (eR 4))
 (aH (cJ (ag (~~~0)) (eR 5))
 (aH (mG (bc (jd GD (ag (aa 5)) (xE cI (aj (aU "Places" "found" (ar 4)) aG)))) (aH (cJ (eO (eO (aU "Places" "found" (ar 4)) (ag (aa 5))) (ag (~~~0))) (eR 6))
 (aH (tF (kg (im (aa 3))) (eR 7) (aH (cJ (jc (jt STP.df 3 (aj (ag (aa 0)) (aj (ag (aA aO (aa 6) (~~~0))) (aj (ag (aa 7)) aG))))) (eR 8))
 (aH (cJ (jc (jt STP.df 3 (aj (ag (aa 1)) (aj (ag (aA aO (aa 6) (~~~1))) (aj (ag (aa 7)) aG))))) (eR 9))
 (aH (bS (bq (aB (aA kQ (aA aO (aa 8) (~~~0)) (aA aO (aa 9) (~~~0))))) (fR (hV (aj (ag (pC (.str "apart"))) (aj (jd cz (aM "Places" "way_to" ci 2 (ar 4) (aj (ag (aa 5)) aG)) (ag (cC {aa 7}))) aG)))) bX)
 (bv (nt "Places" "enter" bL 4 (ar 4) (aj (ag (bj {aA aO (aa 8) (~~~1),aA aO (aa 9) (~~~1)})) (aj (ag (aa 5)) (aj (ag (aa 7)) aG)))))))))
 (BO 5 My (ag (~~~1))))))
 (fR (hV (aj (ag (pC (.str "same"))) (aj (i8 1 [] (ie (aU "Places" "found" (ar 4))) (eR 0) jy (ag (aA aO (aa 0) (~~~0)))) aG)))))))))
def gF:fJ:=cH 10 pd
def d8:dH:=(aH (cJ (ag (cC {bj {bj {bj aq,pC .none,pC .none},bj {bj aq,pC .none,pC .none}}})) (eR 3))
 (aH (cJ (AH (eO (ar 3) (ag (~~~0))) (ag (~~~0))) (eR 4))
 (aH (cJ (ag (~~~0)) (eR 5))
 (aH (mG (jW (bc (jd GD (ag (aa 5)) (xE cI (aj (ar 3) aG)))) (bc (jd R9 (xE cI (aj (ar 3) aG)) (ag (aa 2))))) (aH (tF (kg (im (b6 c7 1 {aa 0}))) (eR 6) (aH (cJ (jc (hV (aj (eO (jt STP.df 3 (aj (ag (aa 0)) (aj (eO (eO (ar 3) (ag (aa 5))) (ag (~~~0))) (aj (ag (aa 6)) aG)))) (ag (~~~1))) (aj (eO (jt STP.df 3 (aj (ag (aa 1)) (aj (eO (eO (ar 3) (ag (aa 5))) (ag (~~~1))) (aj (ag (aa 6)) aG)))) (ag (~~~1))) aG)))) (eR 7))
 (bS (bc (qh S (ag (aa 7)) (ar 4))) (aH (mv (ar 4) (ag (aa 7)) (jd cz (iG (ar 4) (eO (ar 3) (ag (aa 5)))) (ag (~~~1))))
 (bv (pf (ar 3) (ag (aa 7))))) bX)))
 (cJ (ag (aA cz (aa 5) (~~~1))) (eR 5))))
 (fR (hV (aj (ar 3) (aj (ar 4) aG))))))))
def cT:fJ:=cH 8 d8
def bG:fJ
 |[.fz b,.fz c],d=>(match gF [.fz b,.fz c,.fz (.int 80)] d with
  |.ok x a=>.ok x a
  |.er x a=>if x.cls=("TooMany":Str)then .ok (.fz .none) a else .bad
  |_=>.bad)
 |_,_=>.bad
def uL:dH:=(aH (cJ (ag (b6 eV 3 {aa 0,~~~1,b6 gI 1 {aa 0}})) (eR 1))
 (aH (cJ (ag (b6 dD 2 {aa 0,aa 1})) (eR 2))
 (aH (cJ (jc (jB bG 2 (aj (ag (aa 1)) (aj (ag (aa 2)) aG)))) (eR 3))
 (aH (cJ (jc (jB bG 2 (aj (ag (aa 2)) (aj (ag (aa 1)) aG)))) (eR 4))
 (aH (bS (bq (GK (aB (aA lZ (aa 3) (pC .none))) (aB (aA lZ (aa 4) (pC .none))))) (fR (jd GB (xE cI (aj (eO (jB cT 3 (aj (ag (aa 1)) (aj (ag (aa 2)) (aj (ag (~~~80)) aG)))) (ag (~~~0))) aG)) (ag (~~~80)))) bX)
 (aH (bS (bq (GK (aB (aA kQ (aA aO (aa 3) (~~~0)) (aA aO (aa 4) (~~~0)))) (qB (aB (aA cj (aA aO (aa 3) (~~~0)) (pC (.str "same")))) (aB (aA kQ (fY cI {aA aO (aa 3) (~~~1)}) (fY cI {aA aO (aa 4) (~~~1)})))))) (fR (ag (pC (.bool R)))) bX)
 (aH (bS (bq (aB (aA cj (aA aO (aa 3) (~~~0)) (pC (.str "same"))))) (fR (ag (pC (.bool S)))) bX)
 (aH (cJ (jB cT 3 (aj (ag (aa 1)) (aj (ag (aa 2)) (aj (ag (~~~80)) aG)))) (K4 2 (rb (eR 5) (rb (eR 6) Bx))))
 (aH (cJ (jc (i8 1 [6,3] (ie (ar 5)) (eR 0) (bc (jd GD (iG (ar 1) (ag (aa 0))) (ag (aA mw (fY cI {aA aO (aa 2) (~~~1)}) (~~~1))))) (ag (aa 0)))) (eR 7))
 (fR (ag (yB (aA cj (fY cI {aA aO (aa 3) (~~~1)}) (fY cI {aA aO (aa 4) (~~~1)})) (BK (fY EF {eS 1 [1,2] (im (aa 7)) (gN 0) dZ (b6 c8 3 {aa 1,aa 2,aa 0})}))))))))))))))
def F_law:fJ:=cH 8 uL
abbrev zf(d:D):z PV:=-(d)
abbrev zo(l:G D):z PV:=M (.ow l)
def kS(a:G Int)(k:Nat):∃c:Int,br [.list (a.map .int),nd k]=.ok (.fz (.int c)):=by
 let d:cI [.list (a.map .int)]=-(nd a.length):=(dS _).trans (by rw[Uy]);let lt:=ju (k:Int) (a.length:Int);by_cases h:k<a.length
 .rw[a4 ()]at lt;let e:aO (.list (a.map .int)) (nd k)=-(.int a[k]):=yW (by rw[UJ,UI h];rfl);show#[a[k],fW (ρ:=[zf (.list (a.map .int)),zf (nd k)]) W (gD (b:=S) (aK (au (rv:=.fz (.bool S)) (af W) (dh (rv:=.fz (nd a.length)) (ah (af W) aw) W d) W W lt) W) (λ_=>dJ (pv:=.fz (.int a[k])) (rv:=.fz (.int a[k])) (au (rv:=.fz (.int a[k])) (af W) (af W) W W e) W W) λq=>nomatch q)]
 .rw[a5 ()]at lt;show#[0,fW (ρ:=[zf (.list (a.map .int)),zf (nd k)]) W (gD (b:=R) (aK (au (rv:=.fz (.bool R)) (af W) (dh (rv:=.fz (nd a.length)) (ah (af W) aw) W d) W W lt) W) (λq=>nomatch q) λ_=>cK (dw (pv:=.fz (.int 0)) (rv:=.fz (.int 0)) av W W))]
abbrev ET(c:Int)(k m:Nat)(a b:z PV):aQ:=[zf (.int c),zf (nd k),zf (nd m),a,b]
def dG(c:Int)(k m:Nat)(o:k<=1000)(hm:0<m):∃r:Nat,aD [.int c,nd k,nd m]=.ok (.fz (nd r))/\r<m:=by
 let a:∀x:Int,∃r:Nat,l6 (.int x) (nd m)=-(nd r)/\r<m:=λx=>by let A:0<=x % (m:Int):=adP _ ();let J:x % (m:Int)<m:=acy _ ();show#[(x % (m:Int)).toNat,?_,by ext];rw[pZ (),nd,Zf A]
 let g:∃L,eD 5 d4 [.int c,nd k,nd m]=.ok L/\∃r:Nat,L=.fz (nd r)/\r<m:=by
  show mQ (T:=λL=>∃r:Nat,L=.fz (nd r)/\r<m) (ρ:=ET c k m P P) W ?_;ext d4;let f:=Lk;show gD (b:=decide (c<0)||decide ((10:Int)^18<=c)) (ρ1:=ET c k m P P) (kN (aK (au (rv:=.fz (.bool (decide (c<0)))) (af W) av W W (ju _ _)) W) λ_=>aK (au (rv:=.fz (.bool (decide ((10:Int)^18<=c)))) (af W) (au (rv:=.fz (.int ((10:Int)^18))) av av W W f) W W (vj _ _)) W) (λ_=>yz ?_) (λ_=>cK ?_)
  .let B:=iQ (n:=k) ()
   show qp (λ_ N=>∃(x:Int) (t:bg PV),N=ET x k m t P) (ds:=bt (UR k)) (ρ1:=ET c k m P P) (by ext:0) #[c,P,W] ?_ ?_
   .rintro i d N X ⟨x,t,rfl⟩;let e:xj (.int x) (.int 1000)=-(.int (x/1000)):=Fh #[by decide,by decide];show#[_,W,DP (ρ2:=ET (x/1000) k m (zf d) P) (au (rv:=.fz (.int (x/1000))) (af W) av W W e) W #[_,_,W]]
   .rintro N ⟨x,t,rfl⟩;let(r,l,j):=a x;show dJ (pv:=.fz (nd r)) (rv:=.fz (nd r)) (ρ1:=ET x k m t P) (au (rv:=.fz (nd r)) (af W) (af W) W W l) W #[r,W,j]
  .let K:0<=c % 1000033/\c % 1000033<1000033:=#[adP _ (),acy _ ()]
   let I:(k:Int)*k<=1000000:=by
    let:k*k<=1000*1000:=Y5 o o;let e:(k:Int)*k=((k*k:Nat):Int):=by rw[Int.natCast_mul]
    ext
   let v:0<=(k:Int)*k:=Int.mul_nonneg () ();let H:l6 (.int c) (.int 1000033)=-(.int (c % 1000033)):=pZ ();let G:gp (.int 77) (nd k)=-(.int (77*k)):=lf #[by ext,by ext];let F:gp (nd k) (nd k)=-(.int (k*k)):=lf #[by ext,by ext];let u:gp (.int (c % 1000033+77*k+5)) (.int (k*k+40009))=-(.int ((c % 1000033+77*k+5)*(k*k+40009))):=lf #[by ext,by ext];generalize Q:(c % 1000033+77*(k:Int)+5)*(k*k+40009)=x at u;let E:l6 (.int x) (.int 998857)=-(.int (x % 998857)):=pZ ();let q:gp (.int (x % 998857)) (.int 30011)=-(.int (x % 998857*30011)):=Gq #[by ext,by ext];generalize x % 998857*30011=y at q;let p:l6 (.int (y+k)) (.int 999983)=-(.int ((y+k) % 999983)):=pZ ();generalize (y+(k:Int)) % 999983=z at p;let C:xj (.int z) (.int 3)=-(.int (z/3)):=Fh #[by ext,by ext];let(r,l,j):=a (z/3);show b9 (ρ3:=ET c k m P (zf (.int x))) (by ext:0) W W ?_;show dw (pv:=.fz (nd r)) (rv:=.fz (nd r)) (ρ1:=ET c k m P (zf (.int x))) (au (rv:=.fz (nd r)) (by ext:0) (af W) W W l) W #[r,W,j]
 let(L,h,r,rfl,w):=g;show#[r,h,w]
def Po{z:Str}{cs:G Nat}(d:z.cps.toList=cs.map (97+·))(a:z.length<=1000000){r:Int}{c:Nat}(b:0<=r)(h:cs[r.toNat]?=M c):L3.eO (.str z) (.int r)=-(.str (iB c)):=by show(if z.length<=1000000 then(jV z.cps.toList r).map (λc=>RV.fz (.str #[#v[c]]))else P)=_;rw[ax a,d,ur (v:=97+c) b (by simp_all)];rfl
def yh{z:Str}(cs:G Nat)(g:z.cps.toList=cs.map (97+·))(b:z.length<=1000000)(d:∀c∈cs,c<26){r:Int}(e:0<=r)(f:r<cs.length):∃c,c<26/\L3.eO (.str z) (.int r)=-(.str (iB c)):=by
 let a:r.toNat<cs.length:=by ext
 show#[cs[r.toNat],d _ (ZN a),Po g b e (UI a)]
def ve{n i k:Nat}(h:(UR n)[i]?=M k):k=i/\i<n:=by let(b,a):=Uw.mp h;rw[acm]at a;rw[Vy]at b;show#[a.symm,b]
def HV{n a:Int}{d:G (G Mn)}{b:G Mn}(h:VL n a d)(f:(b.length:Int)=n)(e:∀m∈b,VM d.length a m):VL n a (d++[b]):=by
 intro i l g;rcases L10.aY g with j|⟨rfl,rfl⟩
 .show h i l j
 .show#[f,e]
def se(c:Int)(k:Nat)(d:k<=1000):∃l,l<26/\cF [.int c,nd k]=.ok (.fz (.str (iB l))):=by let(r,er,f):=dG c k 3 d ();let a:aD [.int c,nd k,.int 3]=.ok (.fz (nd r)):=er;let(l,b,e):=yh (z:= "abz") [0,1,25] (by left) (by left) () (show(0:Int)<=(r:Int) by ext) (show(r:Int)<3 by ext);show#[l,b,fW (ρ:=[zf (.int c),zf (nd k)]) W (dw (pv:=.fz (.str (iB l))) (rv:=.fz (.str (iB l))) (ρ1:=[zf (.int c),zf (nd k)]) (au (rv:=.fz (.str (iB l))) av (bf (rv:=.fz (nd r)) (ds:=[.int c,nd k,.int 3]) (ah (af W) (ah (af W) (ah av aw))) W W a) W W e) W W)]
def OE{a:Nat}(b:1<=a):∃M:Nat,v4 [.int 1,.int ((a:Int) - 1)]=-(nd M)/\1<=M/\(1<a->M=a - 1):=by
 by_cases h:1<a
 .show#[a - 1,?_,by ext,λ_=>W];show cL (RV.fz (.int (if(1:Int)<(a:Int) - 1 then(a:Int) - 1 else 1)))=cL (RV.fz (.int ((a - 1:Nat):Int)));congr 3;split<;>ext
 .obtain rfl:a=1:=by ext
  show#[1,W,by ext,λh=>by ext]
abbrev E5(c:Int)(L d:Nat)(a b:z PV):aQ:=[zf (.int c),zf (nd L),zf (nd d),a,b]
def Ix(c:Int)(L a:Nat)(l:1<=a)(H:a<=1000):∃m:Mn,VM L a m/\dz [.int c,nd L,nd a]=.ok (.fz (mD m)):=by
 let(g,e0,v):=dG c 11 12 () ();let(d,e1,u):=dG c 12 4 () ();let(M,F,M1,M2):=OE l;let(lv,e2,y):=dG c 13 M () ();let(j,B,e4):=se c 14 ();let(i,A,e5):=se c 15 ();let e0:aD [.int c,.int 11,.int 12]=.ok (.fz (nd g)):=e0;let e1:aD [.int c,.int 12,.int 4]=.ok (.fz (nd d)):=e1;let e2:aD [.int c,.int 13,nd M]=.ok (.fz (nd lv)):=e2;let e4:cF [.int c,.int 14]=.ok (.fz (.str (iB j))):=e4;let e5:cF [.int c,.int 15]=.ok (.fz (.str (iB i))):=e5;let n:∃J,eD 5 cO [.int c,nd L,nd a]=.ok J/\∃m:Mn,VM L a m/\J=.fz (mD m):=by
  show mQ (T:=λJ=>∃m:Mn,VM L a m/\J=.fz (mD m)) (ρ:=E5 c L a P P) W ?_;ext cO;show b9 (ρ3:=E5 c L a (zf (nd g)) P) (bf (rv:=.fz (nd g)) (ds:=[.int c,.int 11,.int 12]) (ah (af W) (ah av (ah av aw))) W W e0) W W ?_;show FB (Go.imp (N:=λr=>∃w:Int,(a=1->w=1\/w=8)/\r=E5 c L a (zf (.int w)) P) (zq (b:=decide ((a:Int)=1)) (ρ1:=E5 c L a (zf (nd g)) P) (aK (au (rv:=.fz (.bool (decide ((a:Int)=1)))) (af W) av W W (gj _ _)) W) (λq=>?_) (λq=>?_)) (λr #[w,o,e]=>?_) (λ_ h=>h) (λ_ h=>h))
  .obtain⟨x,t,E⟩:∃x:Int,(x=1\/x=8)/\aO (.list [.int 1,.int 1,.int 1,.int 8]) (nd d)=-(.int x):=by
    let:d=0\/d=1\/d=2\/d=3:=by ext
    rcases this with rfl|rfl|rfl|rfl
    .show#[1,.inl W,yW W]
    .show#[1,.inl W,yW W]
    .show#[1,.inl W,yW W]
    .show#[8,.inr W,yW W]
   show DP (pv:=.fz (.int x)) (ρ2:=E5 c L a (zf (.int x)) P) (au (rv:=.fz (.int x)) (by ext:0) (bf (rv:=.fz (nd d)) (ds:=[.int c,.int 12,.int 4]) (ah (af W) (ah av (ah av aw))) W W e1) W W E) W #[x,λ_=>t,W]
  .let q:=of_decide_eq_false q;show oA #[g,λz=>by ext,W]
  subst e;show b9 (ρ3:=E5 c L a (zf (.int w)) (zf (.int (1+(lv:Int))))) (au (rv:=.fz (.int (1+(lv:Int)))) av (bf (rv:=.fz (nd lv)) (ds:=[.int c,.int 13,nd M]) (ah (af W) (ah av (ah (dh (rv:=.fz (nd M)) (ds:=[.int 1,.int ((a:Int) - 1)]) (ah av (ah (au (rv:=.fz (.int ((a:Int) - 1))) (af W) av W W (mM _ _)) aw)) W F) aw))) W W e2) W W (eK _ _)) W W ?_;let f:1<a->(1:Int)<=1+(lv:Int)/\1+(lv:Int)<a:=λz=>by let:=M2 z;ext
  show gD (b:=decide (w=4)||decide (w=5)) (ρ1:=E5 c L a (zf (.int w)) (zf (.int (1+(lv:Int))))) (by ext:0) (λq=>?_) (λ_=>cK ?_)
  .show dJ (pv:=.fz (mD (.WX (1+(lv:Int))))) (rv:=.fz (mD (.WX (1+(lv:Int))))) (ρ1:=E5 c L a (zf (.int w)) (zf (.int (1+(lv:Int))))) (show _=Res.ok (PV.fz (.tuple [.str "layer",.int (1+(lv:Int))]),_) by ext:0) W #[_,?_,W];rw[VV,decide_eq_true_eq,decide_eq_true_eq]at q;show f (Zv l λz=>by let:=o z.symm;ext)
  show gD (b:=decide (w=6)||decide (w=7)) (ρ1:=E5 c L a (zf (.int w)) (zf (.int (1+(lv:Int))))) (by ext:0) (λq=>?_) (λ_=>cK ?_)
  .show dJ (pv:=.fz (mD (.Zl j (1+(lv:Int))))) (rv:=.fz (mD (.Zl j (1+(lv:Int))))) (ρ1:=E5 c L a (zf (.int w)) (zf (.int (1+(lv:Int))))) (show _=Res.ok (PV.fz (.tuple [.str "tap",.str (iB j),.int (1+(lv:Int))]),_) by ext:0) W #[_,?_,W];rw[VV,decide_eq_true_eq,decide_eq_true_eq]at q;show#[B,f (Zv l λz=>by let:=o z.symm;ext)]
  show gD (b:=decide (w=8)) (ρ1:=E5 c L a (zf (.int w)) (zf (.int (1+(lv:Int))))) (by ext:0) (λq=>?_) (λ_=>cK ?_)
  .show dJ (pv:=.fz (mD .none)) (rv:=.fz (mD .none)) (ρ1:=E5 c L a (zf (.int w)) (zf (.int (1+(lv:Int))))) (show _=Res.ok (PV.fz (.tuple [.str "none"]),_) by ext:0) W #[.none,trivial,W]
  show gD (b:=decide (w=9)) (ρ1:=E5 c L a (zf (.int w)) (zf (.int (1+(lv:Int))))) (by ext:0) (λq=>?_) (λ_=>cK ?_)
  .show dJ (pv:=.fz (mD (.once (1+(lv:Int))))) (rv:=.fz (mD (.once (1+(lv:Int))))) (ρ1:=E5 c L a (zf (.int w)) (zf (.int (1+(lv:Int))))) (show _=Res.ok (PV.fz (.tuple [.str "once",.int (1+(lv:Int))]),_) by ext:0) W #[_,?_,W];rw[decide_eq_true_eq]at q;show f (Zv l λz=>by let:=o z.symm;ext)
  let C:GB (nd L) (.int 0)=-(.bool (decide ((0:Int)<L))):=W;show gD (b:=(decide (9<w)&&decide ((0:Int)<L))) (ρ1:=E5 c L a (zf (.int w)) (zf (.int (1+(lv:Int))))) (by ext:0) (λq=>?_) (λ_=>cK ?_)
  .rw[Uu]at q;let G:=a6 q.2;show dJ (pv:=.fz (mD .below)) (rv:=.fz (mD .below)) (ρ1:=E5 c L a (zf (.int w)) (zf (.int (1+(lv:Int))))) (show _=Res.ok (PV.fz (.tuple [.str "below"]),_) by ext:0) W #[.below,by show(L:Int)≠0;ext,W]
  show dw (pv:=.fz (mD (.Vd i))) (rv:=.fz (mD (.Vd i))) (ρ1:=E5 c L a (zf (.int w)) (zf (.int (1+(lv:Int))))) (show _=Res.ok (PV.fz (.tuple [.str "letter",.str (iB i)]),_) by ext:0) W #[.Vd i,A,W]
 let(J,h,m,p,rfl):=n;show#[m,p,h]
structure CsV(l0:G Mn)(cs:G (G Nat×Nat)):Prop where
 vc:∀c∈cs,VC l0 c
 un:cs.Pairwise λa c=>a.1≠c.1
theorem CsV.nil(l0:G Mn):CsV l0 []:=#[λc a=>(by ext a),YA]
def CsV.add(h:CsV l0 cs)(i:2<=s.length)(e:s.Pairwise (·<·))(g:∀k∈s,wK l0 k=S)(f:l<26)(d:s∉cs.map (·.1)):CsV l0 (cs++[(s,l)]):=by
 show#[λc b=>(Vg.mp b).elim (h.vc c) λz=>?_,abL.mpr #[h.un,V1 _ _,λa j c b=>?_]]
 .rw[US.mp z];show#[i,e,g,f]
 .rw[US.mp b];show λz=>d (U6.mpr #[a,j,z])
def N5(a:k<l0.length):∃d,aO (db l0) (nd k)=-(d)/\∃w,aO d (.int 0)=-(.str w)/\cj (.str w) (.str "letter")=-(.bool (wK l0 k)):=by
 let e5:wK l0 k=l0[k].isL:=by ext wK;rw[UI a];rfl
 rw[e5];show#[mD l0[k],Cy (by rw[UJ,UI a];rfl),_,lL _,ig _]
def QP(i:Int)(k:Nat):FD (.int i) (nd k)=-(.int (i/2^k)):=by show(if SQ i (k:Int)=S then M (RV.fz (.int (i/2^((k:Nat):Int).toNat)))else P)=_;rw[ax (by ext SQ;show a4 ()),VO]
def MP(x:Int)(k:Nat):Bool:=decide (Builtin.bitAnd (x/2^k) 1=1)
def nW(n m:Nat):G Nat:=(UR n).filter (MP m)
def Ic:∀n,n<4->∀a,a<2^n->∀b,b<2^n->nW n a=nW n b->a=b:=by left
theorem iz(p:α->Bool):∀l:G α,kL (l.map λc=>UB.bool (p c))=M (l.map p)
 |[]=>rfl
 |c::r=>by show(kL (r.map λc=>UB.bool (p c))).map (p c::·)=_;rw[iz p r];rfl
def pc(p:α->Bool)(l:G α):vX [.list (l.map λc=>UB.bool (p c))]=-(.bool (l.all p)):=by show(kL _).map (λbs=>RV.fz (.bool (bs.all id)))=_;rw[iz];simp_all
abbrev E7(c:Int)(n:Nat)(l0:G Mn)(cs:G (G Nat×Nat))(a b d:z PV):aQ:=[zf (.int c),zf (nd n),zf (db l0),zo (cs.map V6),a,b,d]
def Bs(c:Int)(n:Nat)(D:n<4)(l0:bb Mn)(V:l0.length=n):∃cs,CsV l0 cs/\cs.length<=4/\fx [.int c,nd n,db l0]=.ok (.fz (.tuple (cs.map V6))):=by
 let p8:2^n<=8:=Vk (Nat.pow_le_pow_right () (show n<=3 by ext)) ();let rgm:iO [nd (2^n)]=cL (bt (UR (2^n))):=iQ ();let Z:iO [nd n]=cL (bt (UR n)):=iQ ();let U:=JY n ();let E:∃rv,eD 7 c9 [.int c,nd n,db l0]=.ok rv/\∃cs,CsV l0 cs/\cs.length<=4/\rv=.fz (.tuple (cs.map V6)):=by
  show mQ W ?_;ext c9;show b9 (ρ3:=E7 c n l0 [] Ld Ld Ld) (by ext:0) W W ?_;show qp (λi ρ=>∃(cs:bb (bb Nat×Nat)) (A p o:bg PV),CsV l0 cs/\cs.length<=4/\(∀s∈cs.map (·.1),∃m,m<i/\m<2^n/\s=nW n m)/\ρ=E7 c n l0 cs A p o) (by ext:0) #[[],Ld,Ld,Ld,CsV.nil _,Vq _,(λs F=>by ext F),W] ?_ ?_
  .rintro i d ρ hi ⟨cs,A,p,o,g,y,v,rfl⟩
   let(k,hk,rfl):=og hi;let(rfl,e):=ve hk;show#[E7 c n l0 cs (zf (nd k)) p o,W,?_];let f:j7 (dj (gN 0) (aB (aA cj (aA wB (aA FD (aa 1) (aa 0)) (~~~1)) (~~~1))) (aa 0) (bt (UR n)) [Ld,-(nd k)] [])=.ok ((nW n k).map nd):=uB nd nd (MP k) (UR n) (by rw[Vy];ext) W (λj r=>by let Y:=QP (k:Int) j;let X:wB (.int ((k:Int)/2^j)) (.int 1)=-(.int (Builtin.bitAnd ((k:Int)/2^j) 1)):=W;show aK (au (au (au (af W) (af W) W W Y) av W W X) av W W (gj _ _)) W) λj _ _=>af W;let sp:(nW n k).Pairwise (·<·):=aft _ aa3;let O:∀j∈nW n k,j<n:=λj r=>V5.mp (Wh.mp r).1;let T:(nW n k).length<=n:=by let:=Xw (MP k) (UR n);rw[Vy]at this;show this
   let N:nW n k∉cs.map (·.1):=λz=>by let(m,m1,C,B):=v _ z;let:=Ic n D k e m C B;ext
   let b:∀s∈cs.map (·.1),∃m,m<k+1/\m<2^n/\s=nW n m:=λs F=>by let(m,m1,C,B):=v s F;show#[m,by ext,C,B]
   let P:∃m,m<k+1/\m<2^n/\nW n k=nW n m:=#[k,by ext,e,W];generalize nW n k=s at f sp O T N P;show b9 (dh (ah (d9 (by ext:0) W f) aw) W W) W W ?_;let G:cI [.tuple (bt s)]=-(nd s.length):=(hW _).trans (by rw[fG]);let L:j7 (dj (gN 0) dZ (aA cj (aA aO (aA aO (aa 1) (aa 0)) (~~~0)) (pC (.str "letter"))) (bt s) [Ld,-(db l0)] [])=.ok (s.map λj=>.bool (wK l0 j)):=jI nd (λj=>.bool (wK l0 j)) s () W (λj r=>by let(d,e1,w,e2,e3):=N5 (l0:=l0) (k:=j) (by let:=O j r;ext);show au (au (au (af W) (af W) W W e1) av W W e2) av W W e3);show b9 (nZ (aK (au (dh (ah (af W) aw) W G) av W W (vo _ _)) W) λ_=>dh (ah (d9 (by ext:0) W L) aw) W (pc _ _)) W W ?_;let(t,K,ht):=dG c (20+k) 3 () ();let K:=K;let(u,J,hu):=dG c (40+k) 4 () ();let J:=J;let(l,M,el):=yh (z:= "abcz") [0,1,2,25] (by left) (by left) () (show(0:Int)<=(u:Int) by ext) (show(u:Int)<4 by ext);let H:cI [.list (cs.map V6)]=-(nd cs.length):=(dS _).trans (by rw[Uy]);generalize hg:(decide ((1:Int)<(s.length:Int))&&s.all (wK l0))=gd;show zq
    (iT (aK (af W) W) λ_=>iT (aK (au (dh (ah (iM W) aw) W H) av W W (ju _ _)) W) λ_=>aK (au (bf (ah (af W) (ah (au av (af W) W W (eK _ _)) (ah av aw))) W W K) av W W (gj _ _)) W) (λq=>?_) λ_=>oA #[cs,_,_,_,g,y,b,W]
   rw[Uu,Uu]at q;let(I,Q,_):=q;let Q:=a6 Q;rw[<-hg,Uu,VZ]at I;let g3:=a6 I.1;show oJ (sH W (bW (ah (af W) (ah (au av (bf (ah (af W) (ah (au av (af W) W W (eK _ _)) (ah av aw))) W W J) W W el) aw)) W (UA W)) W W (by rw[Uy];ext) (by show _=[zf (.int c),zf (nd n),zf (db l0),zo ((cs++[(s,l)]).map V6),_,_,_];rw[U9];rfl)) #[cs++[(s,l)],_,_,_,g.add () sp I.2 M N,by rw[UE];show cs.length+1<=4;ext,λx a=>by
    rw[U9,Vg]at a;rcases a with a|a
    .show b x a
    .rw[US.mp a];show P,W]
  .rintro ρ ⟨cs,A,p,o,g,y,v,rfl⟩;show dw (dh (ah (iM W) aw) W W) W #[cs,g,y,W]
 let(rv,h,cs,S,R,rfl):=E;show#[cs,S,R,h]
def Qn(g:1<=n)(f:n<=5)(i:rs.length<=3)(b:rs[0]?=M l0)(h:VL n rs.length rs)(a:CsV l0 cs)(j:cs.length<=4)(e:1<=w)(d:w<=4):VB #[n,rs,cs,w]:=by
 cases rs with
 |nil=>ext b
 |cons x r=>cases UT b;show#[g,f,by simp_all,i,h,j,a.vc,a.un,e,d]
abbrev E9(b:G Int)(a n:Nat)(c:Int)(d:Nat)(e h g f:z PV):aQ:=[zf (.list (b.map .int)),zf (nd a),zf (nd n),zf (.int c),zf (nd d),e,h,g,f]
def Ua{n:Nat}(a:n=1\/n=2\/n=3):∃w:Nat,0<w/\w<=4/\aO (.list [.int 4,.int 4,.int 2]) (.int ((n:Int) - 1))=-(nd w):=by
 rcases a with rfl|rfl|rfl
 .show#[4,by decide,by decide,Hc () W]
 .show#[4,by decide,by decide,Hc () W]
 .show#[2,by decide,by decide,Hc () W]
def TB{r:Nat}(a:r<5):∃w:Nat,1<=w/\w<=3/\aO (.list [.int 1,.int 2,.int 2,.int 2,.int 3]) (nd r)=-(nd w):=by
 let:r=0\/r=1\/r=2\/r=3\/r=4:=by ext
 rcases this with rfl|rfl|rfl|rfl|rfl
 .show#[1,by decide,by decide,yW W]
 .show#[2,by decide,by decide,yW W]
 .show#[2,by decide,by decide,yW W]
 .show#[2,by decide,by decide,yW W]
 .show#[3,by decide,by decide,yW W]
def Jk(a:G Int):∃n:Nat,(n=1\/n=2\/n=3)/\gI [.list (a.map .int)]=.ok (.fz (nd n)):=by
 let(c,b):=kS a 0;let b:br [.list (a.map .int),.int 0]=.ok (.fz (.int c)):=b;let(r,er,e):=dG c 1 4 () ();let er:aD [.int c,.int 1,.int 4]=.ok (.fz (nd r)):=er;obtain⟨n,f,d⟩:∃n:Nat,(n=1\/n=2\/n=3)/\aO (.list [.int 1,.int 2,.int 2,.int 3]) (nd r)=-(nd n):=by
  let:r=0\/r=1\/r=2\/r=3:=by ext
  rcases this with rfl|rfl|rfl|rfl
  .show#[1,by decide,yW W]
  .show#[2,by decide,yW W]
  .show#[2,by decide,yW W]
  .show#[3,by decide,yW W]
 show#[n,f,fW (ρ:=[zf (.list (a.map .int))]) W (dw (pv:=.fz (nd n)) (rv:=.fz (nd n)) (ρ1:=[zf (.list (a.map .int))]) (au (rv:=.fz (nd n)) (by ext:0) (bf (rv:=.fz (nd r)) (ds:=[.int c,.int 1,.int 4]) (ah (bf (rv:=.fz (.int c)) (ds:=[.list (a.map .int),.int 0]) (ah (af W) (ah av aw)) W W b) (ah av (ah av aw))) W W er) W W d) W W)]
def CM(g:bb Int)(a n:Nat)(s:n=1\/n=2\/n=3):∃b:Bd,VB b/\b.n=n/\eV [.list (g.map .int),nd a,nd n]=.ok (.fz (bD b)):=by
 let(p,e0):=kS g a;let(R,e5,h5):=dG p 5 5 () ();let e5:aD [.int p,.int 5,.int 5]=.ok (.fz (nd R)):=e5;let(l,l1,l3,el):=TB h5;let(w,U,w4,ew):=Ua s;let(C,e6,h6):=dG p 6 w () U;let e6:aD [.int p,.int 6,nd w]=.ok (.fz (nd C)):=e6;let(J,A):=kS g (a+10);let A:br [.list (g.map .int),.int ((a:Int)+10)]=.ok (.fz (.int J)):=A;let n1:(1:Int)<=(n:Int):=by rcases s with rfl|rfl|rfl<;>decide
 let n3:(n:Int)<=3:=by rcases s with rfl|rfl|rfl<;>decide
 let Y:iO [nd n]=cL (bt (UR n)):=iQ ();let Z:iO [nd l]=cL (bt (UR l)):=iQ ();let N:∃rv,eD 9 eX [.list (g.map .int),nd a,nd n]=.ok rv/\∃b:Bd,(VB b/\b.n=n)/\rv=.fz (bD b):=by
  show mQ (T:=λrv=>∃b:Bd,(VB b/\b.n=n)/\rv=.fz (bD b)) (ρ:=[zf (.list (g.map .int)),zf (nd a),zf (nd n),Ld,Ld,Ld,Ld,Ld,Ld]) W ?_;ext eX;show b9 (ρ3:=[zf (.list (g.map .int)),zf (nd a),zf (nd n),zf (.int p),Ld,Ld,Ld,Ld,Ld]) (by ext:0) W W ?_;show b9 (ρ3:=E9 g a n p l Ld Ld Ld Ld) (au (rv:=.fz (nd l)) (by ext:0) (bf (rv:=.fz (nd R)) (ds:=[.int p,.int 5,.int 5]) (ah (af W) (ah av (ah av aw))) W W e5) W W el) W W ?_;show b9 (ρ3:=E9 g a n p l (zo []) Ld Ld Ld) (by ext:0) W W ?_;show qp (λi ρ=>∃(e:bb (bb Mn)) (F E:bg PV),e.length=i/\VL n l e/\ρ=E9 g a n p l (zo (e.map db)) F E Ld) (ds:=bt (UR l)) (ρ1:=E9 g a n p l (zo []) Ld Ld Ld) (by ext:0) #[[],Ld,Ld,W,(λj r h=>by ext h),W] ?_ ?_
  .rintro i d ρ hi ⟨e,F,E,G,I,rfl⟩
   let(L,hL,rfl):=og hi;let(rfl,hin):=ve hL;show#[E9 g a n p l (zo (e.map db)) (zf (nd L)) E Ld,W,?_];let mu:gp (nd n) (nd L)=-(.int ((n:Int)*L)):=lf #[by ext,by ext];let(xs,c1,c2,c3):=uS (gt:=gN 0) (ft:=dZ) (fe:=b6 br 2 {aa 1,aA cz (aA cz (aA cz (aa 2) (~~~1)) (aA gp (aa 3) (aa 4))) (aa 0)}) (ds:=bt (UR n)) (ρ:=[Ld,zf (.list (g.map .int)),zf (nd a),zf (nd n),zf (nd L)]) (λρ=>∃o,ρ=[o,zf (.list (g.map .int)),zf (nd a),zf (nd n),zf (nd L)]) (λ_ x=>∃y:Int,x=.int y/\True) #[Ld,W] (by rw[fG,Vy];ext) (by rintro j d z ρ ⟨o,rfl⟩;let(k,hk,rfl):=og z;let(c,H):=kS g (a+1+n*L+k);let H:br [.list (g.map .int),.int ((a:Int)+1+(n:Int)*L+k)]=.ok (.fz (.int c)):=H;show#[.int c,_,HD (ρ1:=[zf (nd k),zf (.list (g.map .int)),zf (nd a),zf (nd n),zf (nd L)]) W W (bf (rv:=.fz (.int c)) (ds:=[.list (g.map .int),.int ((a:Int)+1+(n:Int)*L+k)]) (ah (af W) (ah (au (rv:=.fz (.int ((a:Int)+1+(n:Int)*L+k))) (au (rv:=.fz (.int ((a:Int)+1+(n:Int)*L))) (au (rv:=.fz (.int ((a:Int)+1))) (af W) av W W (eK _ _)) (au (rv:=.fz (.int ((n:Int)*L))) (af W) (af W) W W mu) W W (eK _ _)) (af W) W W (eK _ _)) aw)) W W H) W W,#[_,W],c,W,trivial]);let(cs,rfl,_):=sZ (f:=UB.int) (Q:=λ_ (_:Int)=>True) xs 0 c3;rw[fG,Vy,Uy]at c2;show b9 (pv:=.ow (cs.map .int)) (ρ3:=E9 g a n p l (zo (e.map db)) (zf (nd L)) (zo (cs.map .int)) Ld) (d9 (cs:=[.list (g.map .int),nd a,nd n,nd L]) (ds:=bt (UR n)) (by ext:0) W c1) W W ?_;let(S,c4,c5,c6):=uS (gt:=gN 0) (ft:=dZ) (fe:=b6 dz 3 {aa 0,aa 1,aa 2}) (ds:=cs.map .int) (ρ:=[Ld,zf (nd L),zf (nd l)]) (λρ=>∃o,ρ=[o,zf (nd L),zf (nd l)]) (λ_ x=>∃y:Mn,x=mD y/\VM L l y) #[Ld,W] (by rw[Uy];ext) (by
    rintro j d z ρ ⟨o,rfl⟩;obtain⟨c,rfl⟩:∃c:Int,d=.int c:=by
     rw[UJ]at z;cases q:cs[j]? with
     |none=>rw[q]at z;ext z
     |some x=>rw[q]at z;show#[x,(UT z).symm]
    let(m,K,em):=Ix c L l l1 ();show#[mD m,_,HD (ρ1:=[zf (.int c),zf (nd L),zf (nd l)]) W W (bf (rv:=.fz (mD m)) (ds:=[.int c,nd L,nd l]) (ah (af W) (ah (af W) (ah (af W) aw))) W W em) W W,#[_,W],m,W,K])
   let(u,rfl,q6):=sZ (f:=mD) (Q:=λ_ y=>VM L l y) S 0 c6;rw[Uy,Uy]at c5;let M:nF [.list (u.map mD)]=-(db u):=W;let O:(e.map db).length<1000000:=by rw[Uy];ext
   show oJ (pv:=.fz .none) (ρ1:=E9 g a n p l (zo (e.map db++[db u])) (zf (nd L)) (zf (.list (cs.map .int))) Ld) (sH (pa:=.fz (db u)) (d:=db u) W (dh (rv:=.fz (db u)) (ds:=[.list (u.map mD)]) (ah (d9 (cs:=[nd L,nd l]) (ds:=cs.map .int) (iP (iM W) W W) W c4) aw) W M) W W O W) #[e++[u],_,_,by rw[UE,G];rfl,HV I () (λm hm=>?_),by rw[U9];rfl];let(t,ht):=VS.mp hm;rw[G];show q6 t m ht
  .rintro ρ ⟨e,F,E,G,I,rfl⟩;rw[fG,Vy]at G;obtain⟨v,P⟩:∃v,e[0]?=cL v:=#[_,UI (show 0<e.length by ext)];let hl0:=(I 0 v P).1;let(cs,K,X,H):=Bs J n () v ();let i0:aO (.list (e.map db)) (.int 0)=-(db v):=Hc () (by show(e.map db)[0]?=_;rw[UJ,P];rfl);show b9 (ρ3:=E9 g a n p l (zo (e.map db)) F E (zf (.tuple (cs.map V6)))) (bf (rv:=.fz (.tuple (cs.map V6))) (ds:=[.int J,nd n,db v]) (ah (bf (rv:=.fz (.int J)) (ds:=[.list (g.map .int),.int ((a:Int)+10)]) (ah (af W) (ah (au (rv:=.fz (.int ((a:Int)+10))) (af W) av W W (eK _ _)) aw)) W W A) (ah (af W) (ah (au (rv:=.fz (db v)) (dx:=.list (e.map db)) (iM W) av W W i0) aw))) W W H) W W ?_;let M:nF [.list (e.map db)]=-(.tuple (e.map db)):=W;show dw (pv:=.fz (bD #[n,e,cs,1+(C:Int)])) (rv:=.fz (bD #[n,e,cs,1+(C:Int)])) (ρ1:=E9 g a n p l (zo (e.map db)) F E (zf (.tuple (cs.map V6)))) (bW (ds:=[nd n,.tuple (e.map db),.tuple (cs.map V6),.int (1+(C:Int))]) (ah (af W) (ah (dh (rv:=.fz (.tuple (e.map db))) (ds:=[.list (e.map db)]) (ah (iM W) aw) W M) (ah (af W) (ah (au (rv:=.fz (.int (1+(C:Int)))) av (bf (rv:=.fz (nd C)) (ds:=[.int p,.int 6,nd w]) (ah (af W) (ah av (ah (au (rv:=.fz (nd w)) (dx:=.list [.int 4,.int 4,.int 2]) (by ext:0) (au (rv:=.fz (.int ((n:Int) - 1))) (af W) av W W (mM _ _)) W W ew) aw))) W W e6) W W (eK _ _)) aw)))) W (UA W)) W #[_,#[Qn n1 (Int.le_trans n3 ()) () P (by rw[G];show I) K X () (),W],W]
 let(rv,h,b,(B,hb),rfl):=N;show#[b,B,hb,h]
section
variable{ρ N:aV}{Q X Z T:aL}{x y z:SV}{i:Nat}{d:D}{Y:bb (D×D)}
def Dh(h:Q[i]?=M (.dd Y)):rd Q (.rf i)=M (i,Y):=by ext rd;dsimp only;rw[h]
def Av(a:o ρ Q=.ok x X)(hd:fd ρ X=.ok (.rf i) Z)(e:i7 x=M k)(b:Z[i]?=M (.dd Y)):qh neg o fd ρ Q=.ok (.fz (.bool ((fX Y k).isSome !=neg))) Z:=by ext qh;rw[a,ej,hd,ej,e];show((RS.VD Z (rd Z (.rf i))).bind _)=_;rw[Dh b];rfl
def pV(hd:fd ρ Q=.ok (.rf i) X)(a:fk ρ X=.ok x Z)(f:i7 x=M k)(e:Z[i]?=M (.dd Y))(b:fX Y k=M d):iG fd fk ρ Q=.ok (.fz d) Z:=by ext iG;rw[hd,ej,a,ej,f];show((RS.VD Z (rd Z (.rf i))).bind _)=_;rw[Dh e];show((RS.VD Z (fX Y k)).bind _)=_;rw[b];rfl
def vO(a:o ρ Q=.ok (.fz d) X)(hd:fd ρ X=.ok (.rf i) Z)(e:fk ρ Z=.ok x T)(g:i7 x=M k)(f:T[i]?=M (.dd Y))(b:Y.length<1000000):mv fd fk o ρ Q=.ok (.nx ρ) (T.set i (.dd (iy Y k d))):=by ext mv;rw[a,ej,hd,ej,e,ej,g];show((RS.VD T (rd T (.rf i))).bind _)=_;rw[Dh f];show(if Y.length<1000000 then _ else _)=_;rw[ax b]
def oj(c:o ρ Q=.ok xs X)(b:xs.length=n)(a:F xs X=.ok x Z):jB F n o ρ Q=.ok x Z:=by ext jB;rw[c,ej,ax b,a,lJ]
end
def qG{l r:aL}:(l++r)[l.length+t]?=r[t]? :=by rw[Va (),Yt]
def Bb{l r:aL}:(l++r).set (l.length+t) c=l++r.set t c:=by rw[List.set_append_right _ _ (),Yt]
structure Pl where
 p:D
 b:D
 e:D
def tW(q:Pl):D:=.tuple [q.p,q.b,q.e]
def gZ:G Pl->D->z Nat
 |[],_=>P
 |q::r,p=>if UB.eqv q.p p=S then M 0 else(gZ r p).map (·+1)
def ic:Nat->G Pl->G (D×D)
 |_,[]=>[]
 |k,q::r=>(q.p,nd k)::ic (k+1) r
theorem lj:∀(k:Nat) (fs:G Pl) (p:D),fX (ic k fs) p=(gZ fs p).map λi=>nd (k+i)
 |_,[],_=>rfl
 |k,q::r,p=>by
  let a:=lj (k+1) r p;unfold fX at a⊢;unfold ic gZ;rw[Vl];cases UB.eqv q.p p with
  |true=>rfl
  |false=>dsimp only;rw[a,aE UQ,Option.map_map];congr 1;funext i;show nd (k+1+i)=nd (k+(i+1));rw[Zp,abc 1 i]
theorem wg:∀(k:Nat) (fs:G Pl) (q:Pl),ic k (fs++[q])=ic k fs++[(q.p,nd (k+fs.length))]
 |k,[],q=>rfl
 |k,a::r,q=>by show(a.p,nd k)::ic (k+1) (r++[q])=(a.p,nd k)::(ic (k+1) r++[(q.p,nd (k+(r.length+1)))]);rw[wg (k+1) r q,Zp,abc 1 r.length]
theorem yP:∀(k:Nat) (fs:G Pl),(ic k fs).length=fs.length
 |_,[]=>rfl
 |k,q::r=>ef (·+1) (yP (k+1) r)
def J7(h:gZ fs p=P):iy (ic 0 fs) p (nd fs.length)=ic 0 (fs++[#[p,b,e]]):=by
 let g:=lj 0 fs p;rw[h]at g;unfold fX at g;let d:((ic 0 fs).find? λa=>UB.eqv a.1 p)=P:=by
  cases q:(ic 0 fs).find? λa=>UB.eqv a.1 p with
  |none=>rfl
  |some x=>rw[q]at g;ext g
 ext iy;rw[d,wg,XY];rfl
def Ed(h:gZ fs q.p=P)(d:UB.eqv q.p q.p=S):gZ (fs++[q]) q.p=M fs.length:=by
 induction fs with
 |nil=>show(if UB.eqv q.p q.p=S then M 0 else _)=_;rw[ax d];rfl
 |cons a r b=>
  unfold gZ at h;show(if UB.eqv a.p q.p=S then M 0 else(gZ (r++[q]) q.p).map (·+1))=_;by_cases e:UB.eqv a.p q.p=S
  .rw[ax e]at h;ext h
  .rw[aE e]at h⊢;rw[b (by cases k:gZ r q.p with|none=>rfl|some _=>rw[k]at h;ext h)];rfl
def uc(h:LD.keyD p=S):UB.eqv p p=S:=by
 show Xk p (LD.kd_lay p ?_);cases p with
 |tuple xs=>unfold LD.keyD at h;rw[Uu]at h;ext LD.kd;show h.1
 |_=>simp[LD.keyD]at h
def pF(m:Int)(j k:Nat):G (Str×SV):=[("most",.fz (.int m)),("found",.rf j),("numbers",.rf k)]
structure PSt(i j k:Nat)(m:Int)(fs:G Pl)(ω:aL):Prop where
 o:ω[i]?=M (.obj "Places" (pF m j k))
 f:ω[j]?=M (.lst ((fs.map tW).map .fz))
 n:ω[k]?=M (.dd (ic 0 fs))
 jk:j≠k
 ij:i≠j
 ik:i≠k
 lt:fs.length<100000
def rp(j k:Nat)(fs:G Pl)(a:aL):aL:=(a.set k (.dd (ic 0 fs))).set j (.lst ((fs.map tW).map .fz))
section
variable{i j k:Nat}{m:Int}{fs:bb Pl}{Y:aL}{p b e:D}
def PSt.ent(h:PSt i j k m fs Y)(g:fs.length+1<100000):PSt i j k m (fs++[q]) (rp j k (fs++[q]) Y):=by
 let d:=(Uw.mp h.f).1;let a:=(Uw.mp h.n).1;show#[?_,?_,?_,h.jk,h.ij,h.ik,by rw[UE];show g]
 .ext rp;rw[Vx (dN h.ij),Vx (dN h.ik)];show h.o
 .ext rp;rw[VP (by rw[Vz];show d)]
 .ext rp;rw[Vx h.jk,VP a]
def Ci:(pF m j k).lookup ("most":Str)=-(.int m):=by rfl
def mj:(pF m j k).lookup ("found":Str)=M (.rf j):=by rfl
def vP:(pF m j k).lookup ("numbers":Str)=M (.rf k):=by rfl
def rS:(pF m j k).lookup ("enter":Str)=P:=by rfl
theorem jp(a:LD.keyD p=S):i7 (.fz p)=M p:=ax a
def rG(h:PSt i j k m fs Y)(hm:L9.Qq (.int m)=S)(L:m<=1000)(C:LD.keyD p=S):bL [.rf i,.fz p,.fz b,.fz e] Y=(match gZ fs p with
  |some t=>.ok (.fz (nd t)) Y
  |none=>if m<=(fs.length:Int)then .er #["TooMany",[("most",.int m)]] Y else .ok (.fz (nd fs.length)) (rp j k (fs++[#[p,b,e]]) Y)):=by
 let v:=jp C;let y:∀{a:aL},a[i]?=M (.obj "Places" (pF m j k))->aU "Places" "numbers" (ar 0) [M (.rf i),-(p),-(b),-(e)] a=.ok (.rf k) a:=λz=>g8 (a9 W) z vP;let E:∀{a:aL},a[i]?=M (.obj "Places" (pF m j k))->aU "Places" "found" (ar 0) [M (.rf i),-(p),-(b),-(e)] a=.ok (.rf j) a:=λz=>g8 (a9 W) z mj;let A:∀{a:aL},a[i]?=M (.obj "Places" (pF m j k))->aU "Places" "most" (ar 0) [M (.rf i),-(p),-(b),-(e)] a=.ok (.fz (.int m)) a:=λz=>g8 (a9 W) z Ci;let r:∀{a:aL},ag (aa 1) [M (.rf i),-(p),-(b),-(e)] a=.ok (.fz p) a:=ai (af W);let d:=Av (neg:=S) r (y h.o) v h.n;rw[lj]at d;let get:∀{g:bb Pl} {a:aL} {t:Nat},a[i]?=M (.obj "Places" (pF m j k))->a[k]?=M (.dd (ic 0 g))->gZ g p=M t->fR (iG (aU "Places" "numbers" (ar 0)) (ag (aa 1))) [M (.rf i),-(p),-(b),-(e)] a=.ok (.rt (.fz (nd t))) a:=λJ I H=>by show gW (pV (y J) r v I ?_);rw[lj,H];show M (nd (0+_))=_;rw[XY]
 let u:=wv (am (E h.o) aI) (by ext aF;rw[eW h.f];rfl) ((dS _).trans (by rw[Uy]));cases q:gZ fs p with
 |some t=>rw[q]at d;show iR W ?_;show b8 (gy (aR d) gu) (get h.o h.n q)
 |none=>
  rw[q]at d;dsimp only;by_cases l:m<=(fs.length:Int)
  .rw[ax l]
   let w:=aR (b7 u (A h.o) (bH ((vj _ _).trans (by rw[a4 l]))));show cH 4 bM _ _=_;ext cH;show((bM [M (.rf i),-(p),-(b),-(e)] Y).bind _)=_;let e1:bM [M (.rf i),-(p),-(b),-(e)] Y=.er #["TooMany",[("most",.int m)]] Y:=by ext bM;ext aH;rw[ez (aR d) W,ez w W,AQ (A h.o) hm];rfl
   rw[e1];rfl
  .rw[aE l]
   let w:=aR (b7 u (A h.o) (bH ((vj _ _).trans (by rw[a5 l]))));let B:=vO u (y h.o) r v h.n (by rw[yP];let:=h.lt;ext);rw[J7 q]at B;let K:(Y.set k (.dd (ic 0 (fs++[#[p,b,e]]))))[i]?=M (.obj "Places" (pF m j k)):=(Vx (dN h.ik)).trans h.o;let F:(Y.set k (.dd (ic 0 (fs++[#[p,b,e]]))))[j]?=M (.lst ((fs.map tW).map .fz)):=(Vx (dN h.jk)).trans h.f;let G:=sC (fe:=ag (bj {aa 1,aa 2,aa 3})) (x:=.fz (tW #[p,b,e])) (E K) F (ai (bW (ah (af W) (ah (af W) (ah (af W) aw))) W (UA W))) F (by rw[Uy,Uy];let:=h.lt;ext);let es:(Y.set k (.dd (ic 0 (fs++[#[p,b,e]])))).set j (.lst ((fs.map tW).map SV.fz++[.fz (tW #[p,b,e])]))=rp j k (fs++[#[p,b,e]]) Y:=by ext rp;rw[U9,U9];rfl
   rw[es]at G;let P:=h.ent (q:=#[p,b,e]) ();show iR W ?_;show b8 (ez (aR d) (b8 (gy w gu) (b8 B (gQ G)))) (get P.o P.n (Ed q (uc C)))
end
def iU(a:aL)(m:Int)(fs:G Pl)(J:aL):aL:=a++(Cell.obj "Places" (pF m (a.length+1) (a.length+2)):: .lst ((fs.map tW).map .fz):: .dd (ic 0 fs)::J)
theorem EE(h:fs.length<100000):PSt o.length (o.length+1) (o.length+2) m fs (iU o m fs J):=
 #[by let:=qG (l:=o) (r:=Cell.obj "Places" (pF m (o.length+1) (o.length+2)):: .lst ((fs.map tW).map .fz):: .dd (ic 0 fs)::J) (t:=0);show this,qG,qG,by ext,by ext,by ext,h]
def zM:rp (o.length+1) (o.length+2) C (iU o m fs J)=iU o m C J:=by unfold rp iU;rw[Bb,Bb];rfl
def TM(m:Int):Xc:=#["TooMany",[("most",.int m)]]
def uT(a:0<=m)(h:m<=1000):L9.Qq (.int m)=S:=by show a4 (acw (Nat.log2_le_self m.natAbs) ?_);ext
def CP(j:LD.keyD p=S)(i:0<=m)(d:m<=1000):cy [.rf o.length,.fz p,.fz (.int m)] (o++[.obj "Places" []])=if m<=0 then .er (TM m) (iU o m [] [])else .ok (.fz .none) (iU o m [#[p,.none,.none]] []):=by
 let h:d5 "Places" "most" (ar 0) (ag (aa 2)) [M (.rf o.length),-(p),-(.int m)] (o++[.obj "Places" []])=.ok (.nx [M (.rf o.length),-(p),-(.int m)]) (o++[.obj "Places" [("most",.fz (.int m))]]):=
  (mS (ai (af W)) (a9 W) aJ ()).trans (by rw[fO];rfl)
 let g:d5 "Places" "found" (ar 0) (ag (cC aq)) [M (.rf o.length),-(p),-(.int m)] (o++[.obj "Places" [("most",.fz (.int m))]])=.ok (.nx [M (.rf o.length),-(p),-(.int m)]) (o++[.obj "Places" [("most",.fz (.int m)),("found",.rf (o.length+1))],.lst []]):=by show(mS (eJ (by ext:0)) (a9 W) (by rw[Ve];show qG (t:=0)) (UA W)).trans ?_;rw[Ve,show o.length=o.length+0 from rfl,Bb,UE];rfl
 let f:d5 "Places" "numbers" (ar 0) tZ [M (.rf o.length),-(p),-(.int m)] (o++[.obj "Places" [("most",.fz (.int m)),("found",.rf (o.length+1))],.lst []])=.ok (.nx [M (.rf o.length),-(p),-(.int m)]) (iU o m [] []):=by show(mS W (a9 W) (by rw[Ve];show qG (t:=0)) (UA W)).trans ?_;rw[Ve,show o.length=o.length+0 from rfl,Bb,UE];rfl
 let P:PSt o.length (o.length+1) (o.length+2) m [] (iU o m [] []):=EE ();let l:=rG (b:=.none) (e:=.none) P (uT i d) d j;let a:=zi (F:=bL) (fo:=ar 0) (fa:=aj (ag (aa 1)) (aj (ag (pC .none)) (aj (ag (pC .none)) aG))) (ρ:=[M (.rf o.length),-(p),-(.int m)]) (a9 W) P.o rS (am (ai (af W)) (am (ai av) (am (ai av) aI))) W;rw[l]at a;let a:nt "Places" "enter" bL 4 (ar 0) (aj (ag (aa 1)) (aj (ag (pC .none)) (aj (ag (pC .none)) aG))) [M (.rf o.length),-(p),-(.int m)] (iU o m [] [])=if m<=0 then .er (TM m) (iU o m [] [])else .ok (.fz (nd 0)) (rp (o.length+1) (o.length+2) [#[p,.none,.none]] (iU o m [] [])):=a
 rw[zM]at a;show cH 3 bE _ _=_;ext cH;show((bE [M (.rf o.length),-(p),-(.int m)] (o++[.obj "Places" []])).bind _)=_;ext bE;rw[b8 h W,b8 g W,b8 f W];ext bv;rw[a];split<;>rfl
theorem oH:∀{l:G α},(∀a∈l,LD.kd (f a)=S)->LD.kds (l.map f)=S
 |[],_=>by rw[W4,LD.kds]
 |a::r,h=>by rw[UU,LD.kds,h a UP,oH λx b=>h x (UM _ b)];rfl
theorem Hb:∀b:G Nat,LD.kds (bt b)=S:=λb=>oH λa _=>by show LD.kd (.int a)=S;rw[LD.kd]
def Cn(h:LB m):LD.kd (mD m)=S:=by
 cases m with
 |Vd c=>show LD.kd (.tuple [.str "letter",.str (iB c)])=S;simp only[LD.kd,LD.kds];rw[ky h,show UB.strOk "letter"=S by left];rfl
 |WX n=>show LD.kd (.tuple [.str "layer",.int n])=S;simp only[LD.kd,LD.kds];rw[show UB.strOk "layer"=S by left];rfl
 |Zl c n=>show LD.kd (.tuple [.str "tap",.str (iB c),.int n])=S;simp only[LD.kd,LD.kds];rw[ky h,show UB.strOk "tap"=S by left];rfl
 |once n=>show LD.kd (.tuple [.str "once",.int n])=S;simp only[LD.kd,LD.kds];rw[show UB.strOk "once"=S by left];rfl
 |none=>show LD.kd (.tuple [.str "none"])=S;simp only[LD.kd,LD.kds];rw[show UB.strOk "none"=S by left];rfl
 |below=>show LD.kd (.tuple [.str "below"])=S;simp only[LD.kd,LD.kds];rw[show UB.strOk "below"=S by left];rfl
def C1(h:SW b s):LD.kd (dB s)=S/\UB.depth (dB s)<=4:=by
 let i:LD.kds ((gx s.ac).map pD)=S:=oH λq j=>by show LD.kd (.tuple [nd q.1,mD q.2])=S;simp only[LD.kd,LD.kds];rw[Cn (h.sa.ac _ _ (fE.mp j).2).2.lb];rfl
 let l:∀m:Mn,UB.depth (mD m)<=1:=λm=>by ext m<;>show UA W
 let o:UB.depthAll ((gx s.ac).map pD)<=2:=tP λq _=>by show max 0 (max (UB.depth (mD q.2)) 0)+1<=2;let:=l q.2;ext
 let e:LD.kd (i4 s.wt)=S/\UB.depth (i4 s.wt)<=2:=by
  cases q:s.wt with
  |none=>show#[by show LD.kd .none=S;rw[LD.kd],Vq _]
  |some x=>
   let(a,g,w):=x;let v:=(h.wt a g w q).1;constructor
   .show LD.kd (.tuple [.tuple (bt a),.int g,re w])=S
    simp only[LD.kd,LD.kds];rw[Hb];cases w with
    |none=>show(S&&(S&&(LD.kd (.tuple [.str "chord"])&&S)))=S;simp only[LD.kd,LD.kds];rw[show UB.strOk "chord"=S by left];rfl
    |some f=>let(c,n):=f;let lb:LB (.Zl c n):=(v.tp c n W).1;show(S&&(S&&(LD.kd (mD (.Zl c n))&&S)))=S;rw[Cn lb];rfl
   .show max (UB.depthAll (bt a)+1) (max 0 (max (UB.depth (re w)) 0))+1<=2
    rw[n6];cases w with
    |none=>show UA W
    |some f=>show UA W
 let d:LD.kd (rA s.oc)=S/\UB.depth (rA s.oc)=0:=by cases s.oc<;>show#[by show LD.kd _=S;ext rA;simp only[LD.kd],W]
 constructor
 .show LD.kd (.tuple [.tuple ((gx s.ac).map pD),i4 s.wt,rA s.oc])=S;simp only[LD.kd,LD.kds];rw[i,e.1,d.1];rfl
 .show max (UB.depthAll ((gx s.ac).map pD)+1) (max (UB.depth (i4 s.wt)) (max (UB.depth (rA s.oc)) 0))+1<=4;rw[d.2];let:=e.2;ext
def nA(n:Nat):G Zk:=(UR n).map .down++(UR n).map .up++[.turn]
def jh{b:Bd}{n:Nat}(c:b.n=n):∀e∈nA n,EV b e:=by
 intro e a;rcases Vg.mp a with a|a
 .rcases Vg.mp a with a|a
  .let(k,d,rfl):=U6.mp a;let:=V5.mp d;show(k:Int)<b.n;ext
  .let(k,d,rfl):=U6.mp a;let:=V5.mp d;show(k:Int)<b.n;ext
 .rw[US.mp a];trivial
theorem Jy(h:xs.length+ys.length<=1000000):cz (.list xs) (.list ys)=M (.ow (xs++ys)):=ax h
theorem Ik(b:Bd):aO (bD b) (.int 0)=-(.int b.n):=dI
def Nv{b:Bd}{n:Nat}(c:b.n=n)(j:n<=5):fK [bD b]=.ok (.ow ((nA n).map dQ)):=by
 let h:iO [.int b.n]=M (bt (UR n)):=by rw[c];show iQ ()
 let i:=Ik b;let a:(UR n).length<=1000:=by rw[Vy];ext
 let e:j7 (dj (gN 0) dZ (bj {pC (.str "down"),aa 0}) (bt (UR n)) [P] [])=.ok ((UR n).map λk=>dQ (.down k)):=jI nd (λk=>dQ (.down k)) (UR n) a W λk _=>bW (ah av (ah (af W) aw)) W (UA W);let d:j7 (dj (gN 0) dZ (bj {pC (.str "up"),aa 0}) (bt (UR n)) [P] [])=.ok ((UR n).map λk=>dQ (.up k)):=jI nd (λk=>dQ (.up k)) (UR n) a W λk _=>bW (ah av (ah (af W) aw)) W (UA W);let g:cz (.list ((UR n).map λk=>dQ (.down k))) (.list ((UR n).map λk=>dQ (.up k)))=M (.ow (((UR n).map λk=>dQ (.down k))++(UR n).map λk=>dQ (.up k))):=Jy (by rw[Uy,Uy];ext);let f:cz (.list (((UR n).map λk=>dQ (.down k))++(UR n).map λk=>dQ (.up k))) (.list [dQ .turn])=M (.ow ((nA n).map dQ)):=(Jy (by rw[UE,Uy,Uy];show _+1<=_;ext)).trans (by ext nA;rw[U9,U9,Vn,Vn];rfl);show fW W ?_;ext fH;show b9 (d9 (by ext:0) W e) W W ?_;show b9 (d9 (by ext:0) W d) W W ?_;show dw (au (au (iM W) (iM W) W W g) (mJ (ah (bW (ah av (ah av aw)) W (UA W)) aw) W (UA W)) W W f) W W
theorem Ke(h:bt o=bt C):o=C:=(Zq λx y e=>by injection e with e;show acn e).mp h
def yi(h:mD m=mD n):m=n:=by
 let e:=(lL m).symm.trans ((ef (λz=>aO z (.int 0)) h).trans (lL n));injection e with e;injection e with e;injection e with e
 let w:=vF _ (nz m) _ (nz n);rw[show ws (wn m)=ws (wn n)from e,eg]at w;ext m<;>ext n<;>first|rfl|(exfalso;revert w;simp[wn];done)|(injection h with h;injection h with _ h;injection h with h g;injection h with h)
 .rw[oh h]
 .rw[h]
 .injection g with g;injection g with g;rw[oh h,g]
 .rw[h]
def Dy(j:VB b)(f:VB c)(A:SW b s)(z:SW c t)(h:dB s=dB t):s=t:=by
 injection h with h
 injection h with h1 h
 injection h with h2 h
 injection h with h3 _
 injection h1 with h1
 let d:=(Zq λx y e=>by
  injection e with e;injection e with e1 e;injection e with e2 _;injection e1 with e1
  show Prod.ext (acn e1) (yi e2)).mp h1
 let C:=funext λk=>Option.ext λa=>#[λe=>by
   let:=(fE (p:=(k,a))).mpr #[(SA.ak j A.sa k a e).1,e];rw[d]at this;show(fE.mp this).2,λe=>by
   let:=(fE (p:=(k,a))).mpr #[(SA.ak f z.sa k a e).1,e];rw[<-d]at this;show(fE.mp this).2]
 let B:s.wt=t.wt:=by
  revert h2;cases s.wt with
  |none=>cases t.wt with
   |none=>show λ_=>W
   |some y=>show λe=>by ext e
  |some x=>cases t.wt with
   |none=>show λe=>by ext e
   |some y=>
    let(E,g,w):=x;let(F,i,v):=y;intro e;injection e with e;injection e with e1 e;injection e with e2 e;injection e with e3 _;injection e1 with e1;injection e2 with e2;let e1:=Ke e1;let:w=v:=by
     revert e3;cases w with
     |none=>cases v with
      |none=>show λ_=>W
      |some q=>show λe=>by injection e with e;injection e with _ e;ext e
     |some p=>cases v with
      |none=>show λe=>by injection e with e;injection e with _ e;ext e
      |some q=>let(u,r):=p;let(o,l):=q;show λe=>by let:=yi (m:=.Zl u r) (n:=.Zl o l) e;injection this with a b;rw[a,b]
    rw[e1,e2,this]
 let eo:s.oc=t.oc:=by
  revert h3;cases s.oc<;>cases t.oc<;>intro e
  .rfl
  .ext e
  .ext e
  .injection e with e;rw[e]
 ext s;ext t;ext C;ext B;ext eo;rfl
abbrev PP:=Xi×Xi
def kP(p:PP):D:=.tuple [dB p.1,dB p.2]
def jb(b c:Bd)(p:PP)(e:Zk):PP:=((bh b p.1 e).1,(bh c p.2 e).1)
def CV(b c:Bd)(p:PP)(e:Zk):Prop:=(bh b p.1 e).2=(bh c p.2 e).2
def uG:PP:=(Oj,Oj)
def RW(b c:Bd)(es:G Zk):Nat->PP->Prop
 |0,p=>p=uG
 |k+1,p=>∃q e,RW b c es k q/\e∈es/\p=jb b c q e
def PW(b c:Bd)(p:PP):Prop:=SW b p.1/\SW c p.2
structure BB(b c:Bd)(es:G Zk):Prop where
 vb:VB b
 vc:VB c
 eb:∀e∈es,EV b e
 ec:∀e∈es,EV c e
section
variable{b c:Bd}{es:bb Zk}
theorem BB.sw(h:BB b c es):BB c b es:=#[h.vc,h.vb,h.ec,h.eb]
theorem BB.nx(h:BB b c es)(a:PW b c p)(d:e∈es):PW b c (jb b c p e):=#[zU h.vb a.1 (h.eb e d),zU h.vc a.2 (h.ec e d)]
theorem BB.rw(h:BB b c es):∀{k p},RW b c es k p->PW b c p
 |0,p,e=>by rw[show p=uG from e];show#[jM b,jM c]
 |k+1,p,#[q,e,a,he,d]=>by rw[d];show h.nx (h.rw a) he
def Fj(h:BB b c es)(d:PW b c p)(a:PW b c q)(e:kP p=kP q):p=q:=by
 injection e with e;injection e with e1 e;injection e with e2 _
 show Prod.ext (Dy h.vb h.vb d.1 a.1 e1) (Dy h.vc h.vc d.2 a.2 e2)
theorem RW.swp:∀{k p},RW b c es k p->RW c b es k p.swap
 |0,p,e=>by rw[show p=uG from e];rfl
 |k+1,p,#[q,e,a,he,d]=>#[q.swap,e,a.swp,he,by rw[d];rfl]
def fU(a:PW b c p):LD.keyD (kP p)=S:=by let(e,g):=C1 a.1;let(d,f):=C1 a.2;ext kP;rw[LD.keyD];simp only[LD.kds];rw[e,d,a4 (show UB.depth (.tuple [dB p.1,dB p.2])<=8 by show max (UB.depth (dB p.1)) (max (UB.depth (dB p.2)) 0)+1<=8;ext)];rfl
structure ApD(b c:Bd)(es:G Zk)(d:Nat):Prop where
 x:∃p e,RW b c es d p/\e∈es/\¬CV b c p e
 n:∀k p e,k<d->RW b c es k p->e∈es->CV b c p e
def ApD.one(h:ApD b c es d)(k:ApD b c es d'):d=d':=by
 let(p,e,o,m,l):=h.x;let(j,r,g,f,a):=k.x;by_cases q:d<d'
 .show a7 (k.n d p e q o m) l
 by_cases i:d'<d
 .show a7 (h.n d' j r i g f) a
 ext
def ApD.swp(h:ApD b c es d):ApD c b es d:=by let(p,e,m,l,j):=h.x;show#[#[p.swap,e,m.swp,l,λz=>j z.symm],λk q f g a i=>(h.n k q.swap f g a.swp i).symm]
structure AllP(b c:Bd)(es:G Zk)(l:G PP):Prop where
 u:l.Nodup
 r:∀p∈l,∃k,RW b c es k p
 c:∀k p,RW b c es k p->p∈l
theorem vd:∀{m l:G PP},m.Nodup->(∀x∈m,x∈l)->m.length<=l.length
 |[],_,_,_=>Vq _
 |a::r,l,h,g=>by
  let(f,e,rfl):=List.append_of_mem (g a UP);rw[VU]at h;let:=vd (m:=r) (l:=f++e) h.2 λx d=>by
   rcases Vg.mp (g x (UM _ d))with q|q
   .show Wc _ q
   .rcases U5.mp q with rfl|q
    .show a7 d h.1
    .show Vp _ q
  rw[UE]at this⊢;rw[UO,UO];ext
def AllP.len(h:AllP b c es l){m:G PP}(a:m.Nodup)(d:∀p∈m,∃k,RW b c es k p):m.length<=l.length:=by show vd a λp e=>?_;let(k,f):=d p e;show h.c k p f
theorem n9{l:G PP}(h:l.Nodup):(l.map Prod.swap).Nodup:=afu _ (λa b n e=>n (by let:=ef Prod.swap e;rwa [Prod.swap_swap,Prod.swap_swap]at this)) h
def AllP.swp(h:AllP b c es l):AllP c b es (l.map Prod.swap):=by
 show#[n9 h.u,λp e=>?_,λk p a=>?_]
 .let(q,d,rfl):=U6.mp e;let(k,a):=h.r q d;show#[k,a.swp]
 .show U6.mpr #[p.swap,h.c k p.swap a.swp,Prod.swap_swap p]
end
theorem Gi:∀{fs:G Pl} {d:D} {t:Nat},gZ fs d=M t->∃q,fs[t]?=M q/\UB.eqv q.p d=S
 |[],_,_,h=>by ext h
 |a::r,d,t,h=>by
  unfold gZ at h;split at h
  .rename_i e;ext h;show#[a,W,e]
  .cases q:gZ r d with
   |none=>rw[q]at h;ext h
   |some j=>rw[q]at h;ext h;let(x,f,b):=Gi q;show#[x,by simpa using f,b]
structure Pe where
 p:PP
 b:D
 e:D
 d:Nat
def hJ(q:Pe):Pl:=#[kP q.p,q.b,q.e]
def PH:Pe:=#[uG,.none,.none,0]
def Dn(b c:Bd)(fs:G Pe)(q:Pe)(e:Zk):Prop:=CV b c q.p e/\∃r∈fs,r.p=jb b c q.p e/\r.d<=q.d+1
structure BI(b c:Bd)(es:G Zk)(fs:G Pe)(n:Nat):Prop where
 z:fs[0]?=M PH
 bk:∀i q,fs[i]?=M q->0<i->∃j r,j<i/\fs[j]?=M r/\q.b=nd j/\q.d=r.d+1
 rw:∀q∈fs,RW b c es q.d q.p
 mo:fs.Pairwise λq r=>q.d<=r.d
 up:∀q,fs[n]?=M q->∀r∈fs,r.d<=q.d+1
 un:(fs.map (·.p)).Nodup
 dn:∀j q,j<n->fs[j]?=M q->∀e∈es,Dn b c fs q e
section
variable{b c:Bd}{es:bb Zk}{fs:bb Pe}{n:Nat}
def T4:BI b c es [PH] 0:=by
 show#[W,λi q h f=>?_,λq a=>?_,V1 _ _,λq a r d=>?_,V1 _ _,λj q e=>a7 e (aae _)]
 .match i,f,h with
  |i+1,_,h=>ext h
 .rw[US.mp a];rfl
 .rw[US.mp d];show Vq _
def Dn.mono(h:Dn b c fs q e)(l:G Pe):Dn b c (fs++l) q e:=by let(a,r,d,x):=h;show#[a,r,Wc _ d,x]
def BI.old(B:BB b c es)(h:BI b c es fs n)(i:fs[n]?=M q)(j:e∈es)(m:CV b c q.p e)(k:gZ (fs.map hJ) (kP (jb b c q.p e))=M t):Dn b c fs q e:=by
 let(r,a,l):=Gi k;rw[UJ]at a;cases z:fs[t]? with
 |none=>rw[z]at a;ext a
 |some u=>rw[z]at a;ext a;let d:=UX z;let f:=B.rw (h.rw u d);let g:=B.nx (B.rw (h.rw q (UX i))) j;show#[m,u,d,Fj B f g (LD.kd_eqv _ _ (LD.keyD_kd (fU f)).1 (LD.keyD_kd (fU g)).1 l),h.up q i u d]
theorem wD:∀{fs:G Pl} {d:D},gZ fs d=P->∀q∈fs,UB.eqv q.p d=R
 |[],_,_,_,f=>by ext f
 |a::r,d,h,q,f=>by
  unfold gZ at h;by_cases e:UB.eqv a.p d=S
  .rw[ax e]at h;ext h
  .rw[aE e]at h
   rcases U5.mp f with rfl|f
   .show acz.mpr e
   .show wD (by cases z:gZ r d with|none=>rfl|some _=>rw[z]at h;ext h) q f
def BI.new(B:BB b c es)(h:BI b c es fs n)(l:fs[n]?=M q)(v:e∈es)(d:gZ (fs.map hJ) (kP (jb b c q.p e))=P):BI b c es (fs++[#[jb b c q.p e,nd n,dQ e,q.d+1]]) n:=by
 let w:=(Uw.mp l).1;let t:=UX l;let old:∀{i:Nat} {r:Pe},fs[i]?=M r->(fs++[#[jb b c q.p e,L3.nd n,dQ e,q.d+1]])[i]?=M r:=λx=>(UL (Uw.mp x).1).trans x;show#[old h.z,λi r a o=>?_,λr a=>?_,?_,λr a u g=>?_,?_,λj r E a f F=>?_]
 .by_cases A:i<fs.length
  .rw[UL A]at a;let(j,u,I,H,G):=h.bk i r a o;show#[j,u,I,old H,G]
  .rw[Va ()]at a
   let z:i - fs.length=0:=by let:=(Uw.mp a).1;rw[WO]at this;ext
   rw[z]at a;ext a;show#[n,q,by ext,old l,W,W]
 .rcases Vg.mp a with a|a
  .show h.rw r a
  .rw[US.mp a];show#[q.p,e,h.rw q t,v,W]
 .rw[abL];show#[h.mo,V1 _ _,λr a u g=>?_];rw[US.mp g];show h.up q l r a
 .rw[UL w,l]at a
  ext a;rcases Vg.mp g with g|g
  .show h.up q l u g
  .rw[US.mp g];show UG _
 .rw[U9,WW];show#[h.un,V1 _ _,λx C y m e1=>?_];let(r,a,rfl):=U6.mp C;let m:y=jb b c q.p e:=US.mp m;let:=wD d (hJ r) (U6.mpr #[r,a,W]);rw[show(hJ r).p=kP (jb b c q.p e) by show kP r.p=_;rw[e1,m],uc (fU (B.nx (B.rw (h.rw q t)) v))]at this;ext this
 .rw[UL ()]at a;show(h.dn j r E a f F).mono _
def BI.next(h:BI b c es fs n)(d:fs[n]?=M q)(hd:∀e∈es,Dn b c fs q e):BI b c es fs (n+1):=by
 show#[h.z,h.bk,h.rw,h.mo,λr a u m=>?_,h.un,λj r o a e i=>?_]
 .let g:=(Uw.mp d);let f:=(Uw.mp a);let:=Yc.mp h.mo n (n+1) g.1 f.1 ();rw[g.2,f.2]at this;let:=h.up q d u m;ext
 .by_cases l:j<n
  .show h.dn j r l a e i
  .let:j=n:=by ext
   subst this;rw[d]at a;ext a;show hd e i
theorem BI.all(h:BI b c es fs n)(f:fs[n]?=M q):∀k p,k<=q.d->RW b c es k p->∃r∈fs,r.p=p/\r.d<=k
 |0,p,_,d=>#[PH,UX h.z,(show p=uG from d).symm,UG _]
 |k+1,p,C,#[u,e,B,he,d]=>by
  let(r,v,t,A):=h.all f k u () B;let(j,a):=VS.mp v;let o:j<n:=Decidable.byContradiction λz=>by
   let i:=(Uw.mp f);let g:=(Uw.mp a);by_cases e:n=j
   .subst e;rw[f]at a;ext a;ext
   .let:=Yc.mp h.mo n j i.1 g.1 ();rw[i.2,g.2]at this;ext
  let(_,w,m,l,y):=h.dn j r o a e he;show#[w,m,by rw[l,d,t],by ext]
def BI.apart(h:BI b c es fs n)(a:fs[n]?=M q)(u:e∈es)(d:¬CV b c q.p e):ApD b c es q.d:=by
 show#[#[q.p,e,h.rw q (UX a),u,d],λk p f y o t=>?_];let(r,w,v,A):=h.all a k p () o;let(j,g):=VS.mp w;let m:j<n:=Decidable.byContradiction λz=>by
  let l:=(Uw.mp a);let i:=(Uw.mp g);by_cases e:n=j
  .subst e;rw[a]at g;ext g;ext
  .let:=Yc.mp h.mo n j l.1 i.1 ();rw[l.2,i.2]at this;ext
 rw[<-v];show(h.dn j r m g f t).1
def BI.same(h:BI b c es fs n)(d:fs.length<=n):AllP b c es (fs.map (·.p))/\∀k p e,RW b c es k p->e∈es->CV b c p e:=by
 let m:∀q∈fs,∀e∈es,Dn b c fs q e:=λq C e f=>by let(j,l):=VS.mp C;show h.dn j q (U1 (Uw.mp l).1 d) l e f
 let o:∀k p,RW b c es k p->∃r∈fs,r.p=p:=by
  intro k
  induction k with
  |zero=>show λp a=>#[PH,UX h.z,(show p=uG from a).symm]
  |succ k y=>rintro p ⟨u,e,A,f,a⟩;let(r,i,g):=y u A;let(_,w,v,t,_):=m r i e f;show#[w,v,by rw[t,a,g]]
 show#[#[h.un,λp a=>?_,λk p a=>?_],λk p e a f=>?_]
 .let(r,B,rfl):=U6.mp a;show#[r.d,h.rw r B]
 .let(r,i,g):=o k p a;show U6.mpr #[r,i,g]
 .let(r,i,g):=o k p a;rw[<-g];show(m r i e f).1
end
section
variable{ρ:aV}{ω Y Z:aL}{x:SV}
def qJ(b:o ρ ω=.ok xs Y)(a:rK F n xs Y=.ok x Z):jt F n o ρ ω=.ok x Z:=by ext jt;rw[b,ej,a];rfl
def D9(sn:G D)(a:D):frz 4 (ω++[.lst (sn.map .fz)]) (.tp [.rf ω.length,.fz a])=M (.tuple [.list sn,a],ω++[.dead]):=by
 let e1:frz 3 (ω++[.lst (sn.map .fz)]) (.rf ω.length)=M (.list sn,ω++[.dead]):=by ext frz;rw[aJ];dsimp only;rw[oa];dsimp only;rw[fO]
 let e2:j4 (frz 3) (ω++[.lst (sn.map .fz)]) [.rf ω.length,.fz a]=M ([.list sn,a],ω++[.dead]):=by ext j4;rw[e1];rfl
 ext frz;rw[show([AV.rf ω.length,AV.fz a].map AV.sv)=[.rf ω.length,.fz a]from rfl,e2]
theorem zp(a:VB b)(sw:SW b s)(d:EV b e)(h:fa ρ ω=.ok (.fz (bD b)) ω)(g:fb ρ ω=.ok (.fz (dB s)) ω)(f:fc ρ ω=.ok (.fz (dQ e)) ω):jc (jt STP.df 3 (aj fa (aj fb (aj fc aG)))) ρ ω=.ok (.fz (.tuple [.list ((bh b s e).2.map ir),dB (bh b s e).1])) (ω++[.dead]):=
 iS (qJ (am h (am g (am f aI))) (DA a sw d)) (D9 _ _)
end
def yY:iU o m fs (J++K)=iU o m fs J++K:=by ext iU;rw[Ve];rfl
theorem Sb{n:Nat}{v:SV}(h:xs[n]?=M v):jV xs (n:Int)=M v:=ur () (by rw[VO];show h)
def NS{b c:Bd}{es:bb Zk}{fs:bb Pe}{n t i j k:Nat}{q:Pe}{m:Int}{d:aL}(B:BI b c es fs t)(h:PSt i j k m (fs.map hJ) d)(C:fs[n]?=cL q):∃(J:aL) (row:bb D),ci [.rf i,.fz (nd n)] d=.ok (.rf (d.length+1)) (d++J)/\J[1]?=cL (.lst (row.map .fz))/\row.length=q.d:=by
 let lt:=h.lt;rw[Uy]at lt;let A:Out (ci [.rf i,.fz (nd n)] d) (λv g=>∃row:bb D,v=.rf (d.length+1)/\g=d++[.lst (row.reverse.map .fz),.lst (row.map .fz)]/\row.length=q.d) (λ_=>False):=by
  show sA W ?_;ext cY;show de (ρ1:=[cL (.rf i),-(nd n),cL (.rf d.length),Ld]) (eJ (by ext:0)) W ?_;let G:∀{X:aL},PSt i j k m (fs.map hJ) (d++X):=λ{X}=>by let M:=(Uw.mp h.o).1;let L:=(Uw.mp h.f).1;let K:=(Uw.mp h.n).1;show#[(UL M).trans h.o,(UL L).trans h.f,(UL K).trans h.n,h.jk,h.ij,h.ik,h.lt]
  let F:∀{X:aL} {e:aV} {f:cR} {a:Nat} {r:Pe},e[0]?=cL (cL (.rf i))->f e (d++X)=.ok (.fz (nd a)) (d++X)->fs[a]?=cL r->eO (aU "Places" "found" (ar 0)) f e (d++X)=.ok (.fz (tW (hJ r))) (d++X):=λ{X e f a r} h0 w u=>sS (g8 (a9 h0) G.o mj) w W G.f (Sb (by rw[UJ,UJ,UJ,u];rfl));show de (x:=.fz (tW (hJ q))) (ρ1:=[cL (.rf i),-(nd n),cL (.rf d.length),-(tW (hJ q))]) (F W (ai (af W)) C) W ?_;show jo (pp (λs e g=>∃(row:bb D) (a:Nat) (r:Pe),e=[cL (.rf i),-(nd n),cL (.rf d.length),-(tW (hJ r))]/\g=d++[.lst (row.map .fz)]/\fs[a]?=cL r/\row.length=s/\a+s<=n/\row.length+r.d=q.d) 100000 () #[[],n,q,W,W,C,W,UG _,XY _] ?_);rintro s e g ⟨row,a,r,rfl,rfl,o,Q,T,hd⟩;let O:=(Uw.mp C).1;by_cases N:a=0
  .subst N;rw[B.z]at o;ext o;let E:bq (aB (aA ko (aA aO (aa 3) (~~~1)) (pC .none))) [cL (.rf i),-(nd n),cL (.rf d.length),-(tW (hJ PH))] (d++[.lst (row.map .fz)])=.ok R (d++[.lst (row.map .fz)]):=aW (aK (au (rv:=.fz (.bool R)) (au (rv:=.fz .none) (af W) av W W eU) av W W W) W);show .inl #[_,E,?_];show pR ((HZ (xs:=row.map .fz) (a9 W) aJ).trans (by rw[UE,Ve,<-ac3];rfl)) #[row.reverse,W,by rw[List.reverse_reverse];rfl,by rw[WC];show hd]
  .let(I,y,w,u,p,P):=B.bk a r o ();let E:bq (aB (aA ko (aA aO (aa 3) (~~~1)) (pC .none))) [cL (.rf i),-(nd n),cL (.rf d.length),-(tW (hJ r))] (d++[.lst (row.map .fz)])=.ok S (d++[.lst (row.map .fz)]):=aW (aK (au (rv:=.fz (.bool S)) (au (rv:=.fz r.b) (af W) av W W eU) av W W (by rw[p];rfl)) W);show .inr #[by ext,_,E,?_];let H:=sC (ρ:=[cL (.rf i),-(nd n),cL (.rf d.length),-(tW (hJ r))]) (fo:=ar 2) (fe:=ag (aA aO (aa 3) (~~~2))) (x:=.fz r.e) (a9 W) (aJ (l:=d) (x:=Cell.lst (row.map .fz))) (ai (au (rv:=.fz r.e) (af W) av W W pN)) aJ (by rw[Uy];ext);rw[fO,show row.map SV.fz++[.fz r.e]=(row++[r.e]).map SV.fz by rw[U9];rfl]at H;show Lq (gQ H) ?_;show xf (ρ1:=[cL (.rf i),-(nd n),cL (.rf d.length),-(tW (hJ y))]) (oS (F W (ai (au (rv:=.fz (nd I)) (af W) av W W (by rw[<-p];show eU))) u) W) #[row++[r.e],I,y,W,W,u,by rw[UE,Q];rfl,by ext,by rw[UE];show row.length+1+y.d=_;ext]
 let(v,g,w,row,rfl,rfl,p):=A.all;show#[_,row,w,W,p]
theorem Pb{x y:Sn}(h:x.map ir=y.map ir):x=y:=(Zq λp q e=>by
 injection e with e;injection e with e1 e;injection e with e2 _;injection e1 with e1;injection e2 with e2
 show Prod.ext (oh e1) ?_;revert e2;cases p.2<;>cases q.2
 .show λ_=>W
 .show λe=>a7 e (by left)
 .show λe=>a7 e (by left)
 .show λ_=>W).mp h
theorem DT{x:Sn}(h:XI x):LD.kds (x.map ir)=S:=oH λp a=>by show LD.kd (.tuple [.str (iB p.1),.str (if p.2=S then "down" else "up")])=S;simp only[LD.kd,LD.kds];rw[ky (h p a)];cases p.2<;>left
def K8{x y:Sn}(a:XI x)(b:XI y):kQ (.list (x.map ir)) (.list (y.map ir))=-(.bool (decide (x≠y))):=by
 let e:UB.eqv (.list (x.map ir)) (.list (y.map ir))=decide (x=y):=by
  rw[UB.eqv];by_cases q:x=y
  .subst q;rw[a4 W];let:=Xk _ (mI (wU a));rw[UB.eqv]at this;show this
  .rw[a5 q]
   cases z:UB.eqvAll (x.map ir) (y.map ir)with
   |false=>rfl
   |true=>show a7 (Pb (LD.kds_eqv _ _ (DT a) (DT b) z)) q
 ext kQ;rw[wU a,mI (wU b),Wn,ax W,e];by_cases q:x=y
 .rw[a4 q,a5 (not_not_intro q)];rfl
 .rw[a5 q,a4 q];rfl
def MX(d:sh o x=M J)(b:sh o y=M C)(h:f J C=M (.ow ds)):mF f x y o=.ok (.rf o.length) (o++[.lst (ds.map .fz)]):=by ext mF;rw[d,b];show((RS.VD o (f J C)).bind λe a=>jw a e)=_;rw[h];rfl
abbrev wL(b c:Bd)(m:Int)(es:G Zk)(l n:Nat)(f e d a:z SV):aV:=[-(bD b),-(bD c),-(.int m),-(.list (es.map dQ)),M (.rf l),-(nd n),f,e,d,a]
def TL(b c:Bd)(es:G Zk)(v:SV)(a:aL):Prop:=
 (∃(i:Nat) (row:G D) (d:Nat),v=.tp [.fz (.str "apart"),.rf i]/\a[i]?=M (.lst (row.map .fz))/\row.length=d+1/\ApD b c es d)\/
 ∃(i:Nat) (l:G PP),v=.tp [.fz (.str "same"),.rf i]/\a[i]?=M (.lst ((l.map kP).map .fz))/\AllP b c es l/\∀k p e,RW b c es k p->e∈es->CV b c p e
def Ue(b c:Bd)(es:G Zk)(m:Int)(x:Xc):Prop:=x=TM m/\∃l:G PP,l.Nodup/\(∀p∈l,∃k,RW b c es k p)/\m<(l.length:Int)
def Gy{b c:Bd}(Y:VB b)(U:VB c){n:Nat}(s:b.n=n)(T:c.n=n)(D:n<=5){m:Int}(m0:0<m)(k:m<=1000)(g:aL):Out (gF [.fz (bD b),.fz (bD c),.fz (.int m)] g) (TL b c (nA n)) (Ue b c (nA n) m):=by
 let ell:(nA n).length<=1000:=by ext nA;rw[UE,UE,Uy,Uy,Vy];show n+n+1<=_;ext
 let ev:=Nv s D;let BB:BB b c (nA n):=#[Y,U,jh s,jh T];generalize nA n=es at ell ev BB;show sA W ?_;ext pd;let t1:bq (aB (aA kQ (aA aO (aa 0) (~~~0)) (aA aO (aa 1) (~~~0)))) [-(bD b),-(bD c),-(.int m),Ld,Ld,Ld,Ld,Ld,Ld,Ld] g=.ok Ux g:=aW (aK (au (rv:=.fz (.bool Ux)) (au (rv:=.fz (.int b.n)) (af W) av W W (Ik b)) (au (rv:=.fz (.int c.n)) (af W) av W W (Ik c)) W W (by rw[s,T];show oK W)) W);show mL t1 (jJ ?_);let e1:jc (ag (b6 fK 1 {aa 0})) [-(bD b),-(bD c),-(.int m),Ld,Ld,Ld,Ld,Ld,Ld,Ld] g=.ok (.fz (.list (es.map dQ))) (g++[.dead]):=by show iS (eJ (bf (ah (af W) aw) W W ev)) ?_;rw[lu aJ,fO]
 show de e1 W ?_;generalize g++[Cell.dead]=base;let mk:=Ot (C:= "Places") (F:=cy) (fa:=aj (ag (bj {pC (.tuple [(.tuple []),.none,.none]),pC (.tuple [(.tuple []),.none,.none])})) (aj (ag (aa 2)) aG)) (ρ:=[-(bD b),-(bD c),-(.int m),-(.list (es.map dQ)),Ld,Ld,Ld,Ld,Ld,Ld]) (ω:=base) (am (ai (d:=kP uG) (bW (ah av (ah av aw)) W (UA W))) (am (ai (af W)) aI)) W;rw[CP (fU (b:=b) (c:=c) #[jM b,jM c]) () k,aE ()]at mk;show de (ρ1:=[-(bD b),-(bD c),-(.int m),-(.list (es.map dQ)),cL (.rf base.length),Ld,Ld,Ld,Ld,Ld]) mk W ?_;show de (ρ1:=wL b c m es base.length 0 Ld Ld Ld Ld) (ai av) W ?_;show jo (pp (λn ρ ω=>∃(fs:bb Pe) (J:aL) (o6 o7 o8 o9:bg SV),ρ=wL b c m es base.length n o6 o7 o8 o9/\ω=iU base m (fs.map hJ) J/\BI b c es fs n/\n<=fs.length/\(fs.length:Int)<=m) 1000 () #[[PH],[],Ld,Ld,Ld,Ld,W,W,T4,Vq _,by show(1:Int)<=m;ext] ?_);rintro n ρ ω ⟨fs,J,o6,o7,o8,o9,rfl,rfl,bi,hle,hlm⟩;let P:∀{fs:bb Pe} {J:aL},(fs.length:Int)<=m->PSt base.length (base.length+1) (base.length+2) m (fs.map hJ) (iU base m (fs.map hJ) J):=λ{fs J} h=>EE (by rw[Uy];ext);let ff:∀{fs:bb Pe} {J:aL} {o6 o7 o8 o9:bg SV},(fs.length:Int)<=m->aU "Places" "found" (ar 4) (wL b c m es base.length n o6 o7 o8 o9) (iU base m (fs.map hJ) J)=.ok (.rf (base.length+1)) (iU base m (fs.map hJ) J):=λh=>g8 (a9 W) (P h).o mj;let N:xE cI (aj (aU "Places" "found" (ar 4)) aG) (wL b c m es base.length n o6 o7 o8 o9) (iU base m (fs.map hJ) J)=.ok (.fz (nd fs.length)) (iU base m (fs.map hJ) J):=wv (am (ff hlm) aI) (by ext aF;rw[eW (P hlm).f];rfl) ((dS _).trans (by rw[Uy,Uy]));let A:=aR (b7 (ai (f:=aa 5) (af W)) N (bH (ju (n:Int) (fs.length:Int))));by_cases XU:n<fs.length
 case neg=>
  rw[a5 ()]at A;show .inl #[_,A,?_];let S:=bi.same ();let is:=ul (ff (o6:=o6) (o7:=o7) (o8:=o8) (o9:=o9) (J:=J) hlm) (P hlm).f;let T:=jO (gt:=eR 0) (ft:=jy) (fe:=ag (aA aO (aa 0) (~~~0))) (λq:Pe=>tW (hJ q)) (λq=>SV.fz (kP q.p)) ((iU base m (fs.map hJ) J).set (base.length+1) .dead) (λρ=>∃o,ρ=[o]) fs [Ld] [] #[Ld,W] (by rw[V7];ext) (λq _ ρ #[o,ho]=>by subst ho;show#[[-(tW (hJ q))],W,W,ai (au (rv:=.fz (kP q.p)) (af W) av W W dI),_,W]);let cs:i8 1 [] (ie (aU "Places" "found" (ar 4))) (eR 0) jy (ag (aA aO (aa 0) (~~~0))) (wL b c m es base.length n o6 o7 o8 o9) (iU base m (fs.map hJ) J)=.ok (.rf ((iU base m (fs.map hJ) J).set (base.length+1) .dead).length) ((iU base m (fs.map hJ) J).set (base.length+1) .dead++[.lst (fs.map λq=>SV.fz (kP q.p))]):=ot is (by rw[Vn];show T);show pR (yF (am (ai av) (am cs aI)) (UA W) W W) (.inr #[_,fs.map (·.p),W,?_,S]);rw[aJ,Vn,Vn];rfl
 case pos=>
  rw[a4 ()]at A;show .inr #[by ext,_,A,?_];obtain⟨q,a⟩:∃q,fs[n]?=cL q:=#[_,UI XU];let st:eO (eO (aU "Places" "found" (ar 4)) (ag (aa 5))) (ag (~~~0)) (wL b c m es base.length n o6 o7 o8 o9) (iU base m (fs.map hJ) J)=.ok (.fz (kP q.p)) (iU base m (fs.map hJ) J):=bZ (dx:=tW (hJ q)) (sS (ff hlm) (ai (d:=nd n) (af W)) W (P hlm).f (Sb (by rw[UJ,UJ,UJ,a];rfl))) (ai av) dI;show de (x:=.fz (kP q.p)) (ρ1:=wL b c m es base.length n (-(kP q.p)) o7 o8 o9) st W ?_;show jo (Ek (λi ρ ω=>∃(fs:bb Pe) (J:aL) (o7 o8 o9:bg SV),ρ=wL b c m es base.length n (-(kP q.p)) o7 o8 o9/\ω=iU base m (fs.map hJ) J/\BI b c es fs n/\fs[n]?=cL q/\(fs.length:Int)<=m/\∀e∈es.take i,Dn b c fs q e) (qL (iP (d:=.list (es.map dQ)) (af W) W W)) #[fs,J,o7,o8,o9,W,W,bi,a,hlm,λe he=>by ext he] ?_ ?_)
  .clear A N st XU a hle bi hlm
   rintro i d ρ ω M ⟨fs,J,o7,o8,o9,rfl,rfl,bi,a,hlm,dn⟩;rw[UJ]at M;cases qe:es[i]? with
   |none=>rw[qe]at M;ext M
   |some e=>
    rw[qe]at M;cases UT M;let E:=UX qe;let I:=BB.rw (bi.rw q (UX a));show#[wL b c m es base.length n (-(kP q.p)) (-(dQ e)) o8 o9,_,W,?_];let Z:=zp (ρ:=wL b c m es base.length n (-(kP q.p)) (-(dQ e)) o8 o9) (ω:=iU base m (fs.map hJ) J) Y I.1 (BB.eb e E) (fa:=ag (aa 0)) (fb:=ag (aA aO (aa 6) (~~~0))) (fc:=ag (aa 7)) (ai (af W)) (ai (au (rv:=.fz (dB q.p.1)) (af W) av W W dI)) (ai (af W));rw[<-yY]at Z;let k1:=oi Y I.1 (BB.eb e E);let k2:=oi U I.2 (BB.ec e E);let G:kP (jb b c q.p e)=.tuple [dB (bh b q.p.1 e).1,dB (bh c q.p.2 e).1]:=W;let B:CV b c q.p e↔(bh b q.p.1 e).2=(bh c q.p.2 e).2:=Iff.rfl;show de (ρ1:=wL b c m es base.length n (-(kP q.p)) (-(dQ e)) (-(.tuple [.list ((bh b q.p.1 e).2.map ir),dB (bh b q.p.1 e).1])) o9) Z W ?_;let Q:=zp (ρ:=wL b c m es base.length n (-(kP q.p)) (-(dQ e)) (-(.tuple [.list ((bh b q.p.1 e).2.map ir),dB (bh b q.p.1 e).1])) o9) (ω:=iU base m (fs.map hJ) (J++[.dead])) U I.2 (BB.ec e E) (fa:=ag (aa 1)) (fb:=ag (aA aO (aa 6) (~~~1))) (fc:=ag (aa 7)) (ai (af W)) (ai (au (rv:=.fz (dB q.p.2)) (af W) av W W eU)) (ai (af W));rw[<-yY]at Q;clear Z;generalize bh b q.p.1 e=u at Q k1 G B;generalize bh c q.p.2 e=v at Q k2 G B;show de (ρ1:=wL b c m es base.length n (-(kP q.p)) (-(dQ e)) (-(.tuple [.list (u.2.map ir),dB u.1])) (-(.tuple [.list (v.2.map ir),dB v.1]))) Q W ?_;generalize J++[Cell.dead]++[Cell.dead]=J;let O:bq (aB (aA kQ (aA aO (aa 8) (~~~0)) (aA aO (aa 9) (~~~0)))) (wL b c m es base.length n (-(kP q.p)) (-(dQ e)) (-(.tuple [.list (u.2.map ir),dB u.1])) (-(.tuple [.list (v.2.map ir),dB v.1]))) (iU base m (fs.map hJ) J)=.ok (decide (u.2≠v.2)) (iU base m (fs.map hJ) J):=aW (aK (au (rv:=.fz (.bool (decide (u.2≠v.2)))) (au (rv:=.fz (.list (u.2.map ir))) (af W) av W W dI) (au (rv:=.fz (.list (v.2.map ir))) (af W) av W W dI) W W (K8 k1 k2)) W);by_cases H:u.2=v.2
    .rw[a5 (not_not_intro H)]at O
     let H:=B.mpr H;show mL O (jJ ?_);let w:=zi (F:=bL) (fo:=ar 4) (fa:=aj (ag (bj {aA aO (aa 8) (~~~1),aA aO (aa 9) (~~~1)})) (aj (ag (aa 5)) (aj (ag (aa 7)) aG))) (ρ:=wL b c m es base.length n (-(kP q.p)) (-(dQ e)) (-(.tuple [.list (u.2.map ir),dB u.1])) (-(.tuple [.list (v.2.map ir),dB v.1]))) (ω:=iU base m (fs.map hJ) J) (m:= "enter") (n:=4) (a9 W) (P hlm).o rS (am (ai (d:=kP (jb b c q.p e)) (by rw[G];show bW (ah (au (rv:=.fz (dB u.1)) (af W) av W W eU) (ah (au (rv:=.fz (dB v.1)) (af W) av W W eU) aw)) W (UA W))) (am (ai (af W)) (am (ai (af W)) aI))) W;rw[rG (P hlm) (uT () k) k (fU (BB.nx I E))]at w;show Cf ?_;let tk:es.take (i+1)=es.take i++[e]:=by rw[Yf,qe];rfl
     cases qi:gZ (fs.map hJ) (kP (jb b c q.p e))with
     |some t=>
      rw[qi]at w;show .eq w #[fs,J,_,_,_,W,W,bi,a,hlm,λf l=>?_];rw[tk]at l;rcases Vg.mp l with l|l
      .show dn f l
      .rw[US.mp l];show bi.old BB a E H qi
     |none=>
      rw[qi]at w;dsimp only at w;rw[Uy]at w;let bn:=bi.new BB a E qi;by_cases hm:m<=(fs.length:Int)
      .rw[ax hm]at w
       show .eq w #[W,_,bn.un,λp hp=>?_,?_]
       .let(r,L,rfl):=U6.mp hp;show#[r.d,bn.rw r L]
       .rw[Uy,UE];show m<((fs.length+1:Nat):Int);ext
      .rw[aE hm,zM]at w
       let R:=(Uw.mp a).1;show .eq w #[fs++[#[jb b c q.p e,nd n,dQ e,q.d+1]],J,_,_,_,W,by rw[U9];rfl,bn,(UL R).trans a,?_,λf l=>?_]
       .rw[UE];show((fs.length+1:Nat):Int)<=m;ext
       .rw[tk]at l
        rcases Vg.mp l with l|l
        .show(dn f l).mono _
        .rw[US.mp l];show#[H,_,Vp _ UP,W,UG _]
    .rw[a4 H]at O
     let nal:¬CV b c q.p e:=λz=>H (B.mp z);show sY O ?_;let(K,row,w1,w2,w3):=NS bi (P (J:=J) hlm) a;let w:aM "Places" "way_to" ci 2 (ar 4) (aj (ag (aa 5)) aG) (wL b c m es base.length n (-(kP q.p)) (-(dQ e)) (-(.tuple [.list (u.2.map ir),dB u.1])) (-(.tuple [.list (v.2.map ir),dB v.1]))) (iU base m (fs.map hJ) J)=.ok (.rf ((iU base m (fs.map hJ) J).length+1)) (iU base m (fs.map hJ) J++K):=Ah (a9 W) (P hlm).o (by rfl) (am (ai (af W)) aI) W w1;let g1:∀{X:aL},(iU base m (fs.map hJ) J++K++X)[(iU base m (fs.map hJ) J).length+1]?=cL (.lst (row.map .fz)):=λ{X}=>by rw[Ve,qG,UL (Uw.mp w2).1];show w2
     let dl:row.length<=1000:=by
      let:∀(t:Nat) (r:Pe),fs[t]?=cL r->r.d<=t:=by
       intro t
       induction t using Nat.strongRecOn with
       |ind t ih=>
        intro r L;by_cases t0:t=0
        .subst t0;rw[bi.z]at L;ext L;show UG _
        .let(j,r',h1,h2,_,h4):=bi.bk t r L ();let:=ih j h1 r' h2;ext
      let:=this n q a;let R:=(Uw.mp a).1;ext
     let ad:=b7 (f:=cz) w (eJ (f:=cC {aa 7}) (ds:=[dQ e]) (by ext:0)) (MX (eW g1) (eW aJ) (Jy (by show row.length+1<=_;ext)));show oy (yF (am (ai av) (am ad aI)) (UA W) W W) (.inl #[_,row++[dQ e],q.d,W,aJ,by rw[UE,w3];rfl,bi.apart a E nal])
  .rintro ρ ω ⟨fs,J,o7,o8,o9,rfl,rfl,bi,a,hlm,dn⟩;rw[Uy,XA]at dn;let R:=(Uw.mp a).1;show xf (Mw (ω3:=[]) (i:=5) (x:=.fz (nd n)) (y:=.fz (.int 1)) (z:=.fz (nd (n+1))) W (ai av) (bH W)) #[fs,J,_,_,_,_,W,W,bi.next a dn,R,hlm]
def wk(w:Str)(k:Nat):D:=.tuple [.str w,nd k]
def z9{b:Bd}{n:Nat}(c:b.n=n)(v:n<=5):c7 [bD b]=.ok (.ow ((nA n).map dQ)):=by
 let z:iO [.int b.n]=M (bt (UR n)):=by rw[c];show iQ ()
 let A:=Ik b;let y:cz (.list ((UR n).map (wk "down")++(UR n).map (wk "up"))) (.list [dQ .turn])=M (.ow ((nA n).map dQ)):=(Jy (by rw[UE,Uy,Uy,Vy];show _+1<=_;ext)).trans (by ext nA;rw[U9,U9,Vn,Vn];rfl);show fW W ?_;show b9 (by ext:0) W W ?_;show qp (λi C=>∃f a:bg PV,C=[zf (bD b),zo (((["down","up"]:G Str).take i).flatMap λw=>(UR n).map (wk w)),f,a]) (iP (by ext:0) W W) #[P,P,W] ?_ ?_
 .rintro i d C J ⟨f,a,rfl⟩
  obtain⟨w,h,u⟩:∃w,(["down","up"]:G Str)[i]?=M w/\d=.str w:=by
   let:i=0\/i=1:=by let:=(Uw.mp J).1;simp at this;ext
   rcases this with rfl|rfl
   .show#["down",W,(UT J).symm]
   .show#["up",W,(UT J).symm]
  subst u;let nx:((["down","up"]:G Str).take (i+1)).flatMap (λw=>(UR n).map (wk w))=((["down","up"]:G Str).take i).flatMap (λw=>(UR n).map (wk w))++(UR n).map (wk w):=by rw[Yf,h,List.flatMap_append];simp
  let B:i<2:=(Uw.mp h).1;let pl:((["down","up"]:G Str).take i).flatMap (λw=>(UR n).map (wk w))=[]\/((["down","up"]:G Str).take i).flatMap (λw=>(UR n).map (wk w))=(UR n).map (wk "down"):=by
   let:i=0\/i=1:=by ext
   rcases this with rfl|rfl
   .show .inl W
   .show .inr (by simp)
  rw[nx];generalize ((["down","up"]:G Str).take i).flatMap (λw=>(UR n).map (wk w))=pre at pl;let o:pre.length<=5:=by
   rcases pl with rfl|rfl
   .show Vq _
   .rw[Uy,Vy];show v
  show#[[zf (bD b),zo pre,zf (.str w),a],W,?_];show Cs (λj C=>∃a:bg PV,C=[zf (bD b),zo (pre++(UR j).map (wk w)),zf (.str w),a]) (by ext:0) #[a,by rw[List.range_zero,W4,Vh]] ?_ ?_
  .rintro j d C t ⟨a,rfl⟩
   let(k,q,rfl):=og t;obtain⟨g,r⟩:k=j/\j<n:=by let(m,l):=Uw.mp q;rw[acm]at l;rw[Vy]at m;show#[l.symm,m]
   subst g;show#[[zf (bD b),zo (pre++(UR k).map (wk w)),zf (.str w),zf (nd k)],W,?_];let p:(pre++(UR k).map (wk w)).length<1000000:=by rw[UE,Uy,Vy];ext
   show oJ (sH W (bW (ah (af W) (ah (af W) aw)) W (UA W)) W W p (by rw[List.range_succ,U9,<-Ve];rfl)) #[_,W]
  .rintro C ⟨a,rfl⟩;rw[fG,Vy];show#[_,_,W]
 .rintro C ⟨f,a,rfl⟩
  let e:((["down","up"]:G Str).take 2).flatMap (λw=>(UR n).map (wk w))=(UR n).map (wk "down")++(UR n).map (wk "up"):=by simp
  show Go (cb _ [zf (bD b),zo (((["down","up"]:G Str).take 2).flatMap λw=>(UR n).map (wk w)),f,a]) _ _ _;rw[e];show dw (au (iM W) (mJ (ah (bW (ah av (ah av aw)) W (UA W)) aw) W (UA W)) W W y) W W
section
variable{X:aV}{T Y Z:aL}{y:SV}{Q N:cR}{l:bb AV}{a:AV}{i:Int}
def ug(e:Q X T=.ok (.tp l) Y)(d:N X Y=.ok y Z)(c:Ba y=M i)(b:jV l i=M a):L10.eO Q N X T=.ok a.sv Z:=by ext L10.eO;rw[e,ej,d,ej];ext Jo;rw[c];show RS.VD Z ((jV l i).map AV.sv)=_;rw[b];rfl
end
structure Pk where
 p:PP
 k:Nat
def vq(fs:G Pk):G (D×D):=fs.map λq=>(kP q.p,nd q.k)
def Xe(fs:G Pk):G D:=fs.map λq=>kP q.p
structure LI(b c:Bd)(es:G Zk)(fs:G Pk)(n:Nat):Prop where
 z:fs[0]?=M #[uG,0]
 rw:∀q∈fs,RW b c es q.k q.p
 un:(fs.map (·.p)).Nodup
 dn:∀(j:Nat) (q:Pk),j<n->fs[j]?=M q->∀e∈es,∃r∈fs,r.p=jb b c q.p e
section
variable{b c:Bd}{es:bb Zk}{fs:bb Pk}{n:Nat}
theorem yA(B:BB b c es){p q:PP}(d:PW b c p)(a:PW b c q):UB.eqv (kP p) (kP q)=S↔p=q:=
 #[λh=>Fj B d a (LD.kd_eqv _ _ (LD.keyD_kd (fU d)).1 (LD.keyD_kd (fU a)).1 h),λh=>by rw[h];show uc (fU a)]
def LI.no(B:BB b c es)(h:∀q∈fs,RW b c es q.k q.p){p:PP}(f:PW b c p)(i:¬∃r∈fs,r.p=p):((vq fs).find? λg=>UB.eqv g.1 (kP p))=P:=by rw[ack];intro x d;let(r,a,rfl):=U6.mp d;show λe=>i #[r,a,(yA B (B.rw (h r a)) f).mp e]
theorem LI.yes(B:BB b c es):∀{fs:G Pk},(∀q∈fs,RW b c es q.k q.p)->(fs.map (·.p)).Nodup->∀{q:Pk},q∈fs->fX (vq fs) (kP q.p)=M (nd q.k)
 |[],_,_,_,g=>by ext g
 |a::r,h,i,q,g=>by
  rw[UU,VU]at i;show((((kP a.p,nd a.k)::vq r).find? λd=>UB.eqv d.1 (kP q.p)).map (·.2))=_;rw[Vl];by_cases e:a.p=q.p
  .rw[(yA B (B.rw (h a UP)) (B.rw (h q g))).mpr e]
   rcases U5.mp g with rfl|g
   .rfl
   .show a7 (U6.mpr #[q,g,e.symm]) i.1
  .rw[acz.mpr λz=>e ((yA B (B.rw (h a UP)) (B.rw (h q g))).mp z)]
   rcases U5.mp g with rfl|g
   .show a7 W e
   .show LI.yes B (λx f=>h x (UM _ f)) i.2 g
theorem TN:LI b c es [#[uG,0]] 0:=#[W,λq a=>by rw[US.mp a];rfl,V1 _ _,λj q d=>a7 d (aae _)]
def LI.new(h:LI b c es fs n){q:Pk}(g:fs[n]?=M q)(v:e∈es)(k:¬∃r∈fs,r.p=jb b c q.p e):LI b c es (fs++[#[jb b c q.p e,q.k+1]]) n:=by
 let w:=(Uw.mp g).1;let i:=(Uw.mp h.z).1;show#[(UL i).trans h.z,λr a=>?_,?_,λj r o a f t=>?_]
 .rcases Vg.mp a with a|a
  .show h.rw r a
  .rw[US.mp a];show#[q.p,e,h.rw q (UX g),v,W]
 .rw[U9,WW];show#[h.un,V1 _ _,λx l y d e1=>?_];let(r,a,rfl):=U6.mp l;let d:y=jb b c q.p e:=US.mp d;show k #[r,a,e1.trans d]
 .rw[UL ()]at a;let(u,m,z):=h.dn j r o a f t;show#[u,Wc _ m,z]
def LI.next(h:LI b c es fs n){q:Pk}(g:fs[n]?=M q)(hd:∀e∈es,∃r∈fs,r.p=jb b c q.p e):LI b c es fs (n+1):=by
 show#[h.z,h.rw,h.un,λj r i a e d=>?_];by_cases f:j<n
 .show h.dn j r f a e d
 .let:j=n:=by ext
  subst this;rw[g]at a;ext a;show hd e d
def LI.all(h:LI b c es fs n)(s:fs.length<=n):AllP b c es (fs.map (·.p)):=by
 show#[h.un,λp a=>?_,λk=>?_]
 .let(r,m,rfl):=U6.mp a;show#[r.k,h.rw r m]
 .induction k with
  |zero=>show λp a=>U6.mpr #[#[uG,0],UX h.z,(show p=uG from a).symm]
  |succ k i=>rintro p ⟨u,e,l,o,a⟩;let(r,t,q):=U6.mp (i u l);let(j,d):=VS.mp t;let(w,g,f):=h.dn j r (U1 (Uw.mp d).1 s) d e o;show U6.mpr #[w,g,by rw[f,a,q]]
end
def kO(a:aL)(fs:G Pk)(J:aL):aL:=a++(Cell.lst ((Xe fs).map .fz):: .dd (vq fs)::J)
def yD:kO o fs (J++K)=kO o fs J++K:=by ext kO;rw[Ve];rfl
abbrev E8(b c:Bd)(m:Int)(l n:Nat)(d a:z SV):aV:=[-(bD b),-(bD c),-(.int m),M (.rf l),M (.rf (l+1)),-(nd n),d,a]
def AI{b c:Bd}(D:VB b)(s:VB c){n:Nat}(V:b.n=n)(hc:c.n=n)(h5:n<=5){m:Int}(m0:0<m)(m4:m<=1000)(g:aL):Out (cT [.fz (bD b),.fz (bD c),.fz (.int m)] g) (λv k=>∃(fs:bb Pk) (J:aL),v=.tp [.rf g.length,.rf (g.length+1)]/\k=kO g fs J/\(∀q∈fs,RW b c (nA n) q.k q.p)/\(fs.map (·.p)).Nodup/\(fs.length:Int)<=m+11/\(m<(fs.length:Int)\/AllP b c (nA n) (fs.map (·.p)))) (λ_=>False):=by
 let ell:(nA n).length<=11:=by ext nA;rw[UE,UE,Uy,Uy,Vy];show n+n+1<=_;ext
 let ev:=z9 V h5;let B:BB b c (nA n):=#[D,s,jh V,jh hc];generalize nA n=es at ell ev B;show sA W ?_;ext d8;show de (eJ (show _=Res.ok (PV.ow [kP uG],_) by ext:0)) W ?_;let kk:eO (ar 3) (ag (~~~0)) [-(bD b),-(bD c),-(.int m),cL (.rf g.length),Ld,Ld,Ld,Ld] (g++[.lst [.fz (kP uG)]])=.ok (.fz (kP uG)) (g++[.lst [.fz (kP uG)]]):=sS (a9 W) (ai av) W aJ (Sb W);let kd:AH (eO (ar 3) (ag (~~~0))) (ag (~~~0)) [-(bD b),-(bD c),-(.int m),cL (.rf g.length),Ld,Ld,Ld,Ld] (g++[.lst [.fz (kP uG)]])=.ok (.rf (g.length+1)) (kO g [#[uG,0]] []):=by ext AH;rw[kk,lJ,ej,ai av,lJ,ej,jp (fU (b:=b) (c:=c) #[jM b,jM c]),UE];show RS.ok _ ((g++[_])++[_])=_;rw[Ve];rfl
 show de kd W ?_;show de (ai av) W ?_;show jo (pp (λn ρ ω=>∃(fs:bb Pk) (J:aL) (o j:bg SV),ρ=E8 b c m g.length n o j/\ω=kO g fs J/\LI b c es fs n/\n<=fs.length/\(fs.length:Int)<=m+11) 1001 () #[[#[uG,0]],[],Ld,Ld,W,W,TN,Vq _,by show((1:Nat):Int)<=_;ext] ?_);rintro n ρ ω ⟨fs,J,o,j,rfl,rfl,li,hle,hl2⟩;let g0:∀{fs:bb Pk} {J:aL},(kO g fs J)[g.length]?=cL (.lst ((Xe fs).map .fz)):=λ{fs J}=>qG (t:=0);let Z:∀{fs:bb Pk} {J:aL},(kO g fs J)[g.length+1]?=cL (.dd (vq fs)):=λ{fs J}=>qG (t:=1);let E:xE cI (aj (ar 3) aG) (E8 b c m g.length n o j) (kO g fs J)=.ok (.fz (nd fs.length)) (kO g fs J):=wv (am (a9 W) aI) (by ext aF;rw[eW g0];rfl) ((dS _).trans (by ext Xe;rw[Uy]));let F:=aR (b7 (ai (f:=aa 5) (af W)) E (bH (ju (n:Int) (fs.length:Int))));let I:=aR (b7 E (ai (f:=aa 2) (af W)) (bH (FL (fs.length:Int) m)));let C:(m<(fs.length:Int)\/AllP b c es (fs.map (·.p)))->l7 (fR (hV (aj (ar 3) (aj (ar 4) aG))) (E8 b c m g.length n o j) (kO g fs J)) (λ_ k=>∃(fs:bb Pk) (J:aL),SV.fz .none=.tp [.rf g.length,.rf (g.length+1)]/\k=kO g fs J/\(∀q∈fs,RW b c es q.k q.p)/\(fs.map (·.p)).Nodup/\(fs.length:Int)<=m+11/\(m<(fs.length:Int)\/AllP b c es (fs.map (·.p)))) (λv k=>∃(fs:bb Pk) (J:aL),v=.tp [.rf g.length,.rf (g.length+1)]/\k=kO g fs J/\(∀q∈fs,RW b c es q.k q.p)/\(fs.map (·.p)).Nodup/\(fs.length:Int)<=m+11/\(m<(fs.length:Int)\/AllP b c es (fs.map (·.p)))) (λ_=>False):=λh=>pR (yF (am (a9 W) (am (a9 W) aI)) (UA W) W W) #[fs,J,W,W,li.rw,li.un,hl2,h];by_cases XU:n<fs.length
 case neg=>
  rw[a5 ()]at F;show .inl #[_,eT F,C (.inr (li.all ()))]
 rw[a4 ()]at F;by_cases A:(fs.length:Int)<=m
 case neg=>
  rw[a5 A]at I;show .inl #[_,eY F I,C (.inl ())]
 rw[a4 A]at I;show .inr #[by ext,_,eY F I,?_];clear C;obtain⟨q,w⟩:∃q,fs[n]?=cL q:=#[_,UI XU];let K:∀{ω:aL},kg (im (b6 c7 1 {aa 0})) (E8 b c m g.length n o j) ω=.ok (es.map dQ) ω:=qL (iP (bf (ah (af W) aw) W W ev) W W);show jo (Ek (λi ρ ω=>∃(fs:bb Pk) (J:aL) (o j:bg SV),ρ=E8 b c m g.length n o j/\ω=kO g fs J/\LI b c es fs n/\fs[n]?=cL q/\(fs.length:Int)<=m+i/\∀e∈es.take i,∃r∈fs,r.p=jb b c q.p e) K #[fs,J,o,j,W,W,li,w,by ext,λe he=>by ext he] ?_ ?_)
 .clear F I E XU A hl2 hle w li K
  rintro i d ρ ω G ⟨fs,J,o,j,rfl,rfl,li,w,hl,dn⟩;rw[UJ]at G;cases qe:es[i]? with
  |none=>rw[qe]at G;ext G
  |some e=>
   rw[qe]at G;cases UT G;let O:=UX qe;let il:=(Uw.mp qe).1;let qm:=UX w;let L:=B.rw (li.rw q qm);let pn:=B.nx L O;show#[E8 b c m g.length n (-(dQ e)) j,_,W,?_];let Q:∀{X:aL} {o j:bg SV},eO (ar 3) (ag (aa 5)) (E8 b c m g.length n o j) (kO g fs X)=.ok (.fz (kP q.p)) (kO g fs X):=λ{X o j}=>sS (a9 W) (ai (d:=nd n) (af W)) W g0 (Sb (by ext Xe;rw[UJ,UJ,w];rfl));let S:=DA D L.1 (B.eb e O) (ω:=kO g fs J);rw[<-yD]at S;let R:=DA s L.2 (B.ec e O) (ω:=kO g fs (J++[.lst (((bh b q.p.1 e).2.map ir).map .fz)]));rw[<-yD]at R
   let be:jc (hV (aj (eO (jt STP.df 3 (aj (ag (aa 0)) (aj (eO (eO (ar 3) (ag (aa 5))) (ag (~~~0))) (aj (ag (aa 6)) aG)))) (ag (~~~1))) (aj (eO (jt STP.df 3 (aj (ag (aa 1)) (aj (eO (eO (ar 3) (ag (aa 5))) (ag (~~~1))) (aj (ag (aa 6)) aG)))) (ag (~~~1))) aG))) (E8 b c m g.length n (-(dQ e)) j) (kO g fs J)=.ok (.fz (kP (jb b c q.p e))) (kO g fs (J++[.lst (((bh b q.p.1 e).2.map ir).map .fz)]++[.lst (((bh c q.p.2 e).2.map ir).map .fz)])):=
    iS (x:=.fz (kP (jb b c q.p e))) (qZ (ds:=[dB (bh b q.p.1 e).1,dB (bh c q.p.2 e).1]) (am (ug (i:=1) (a:=.fz (dB (bh b q.p.1 e).1)) (qJ (xs:=[.fz (bD b),.fz (dB q.p.1),.fz (dQ e)]) (am (ai (af W)) (am (bZ Q (ai av) dI) (am (ai (af W)) aI))) S) (ai (d:=.int 1) av) W W) (am (ug (i:=1) (a:=.fz (dB (bh c q.p.2 e).1)) (qJ (xs:=[.fz (bD c),.fz (dB q.p.2),.fz (dQ e)]) (am (ai (af W)) (am (bZ Q (ai av) eU) (am (ai (af W)) aI))) R) (ai (d:=.int 1) av) W W) aI)) (UA W)) W
   generalize J++[.lst (((bh b q.p.1 e).2.map ir).map .fz)]++[.lst (((bh c q.p.2 e).2.map ir).map .fz)]=J' at be;clear S R;show de (ρ1:=E8 b c m g.length n (-(dQ e)) (-(kP (jb b c q.p e)))) be W ?_;let hk:=jp (fU pn);let P:∀{ω:aL},ag (aa 7) (E8 b c m g.length n (-(dQ e)) (-(kP (jb b c q.p e)))) ω=.ok (.fz (kP (jb b c q.p e))) ω:=ai (af W);let gi:=Av (neg:=Uv) (fd:=ar 4) P (a9 W) hk (Z (fs:=fs) (J:=J'));let N:=aR gi;let tk:es.take (i+1)=es.take i++[e]:=by rw[Yf,qe];rfl
   by_cases old:∃r∈fs,r.p=jb b c q.p e
   .let(r,M,er):=old
    let y:=LI.yes B li.rw li.un M;rw[er]at y;rw[y]at N;show .eq (gy N gu) #[fs,J',_,_,W,W,li,w,by ext,λf u=>?_];rw[tk]at u;rcases Vg.mp u with u|u
    .show dn f u
    .rw[US.mp u];show#[r,M,er]
   .let no:=LI.no B li.rw pn old
    let Y:=(Uw.mp w).1;let g2:fX (vq fs) (kP (jb b c q.p e))=Ld:=by ext fX;rw[no];rfl
    rw[g2]at N;let gv:=b7 (f:=cz) (pV (fd:=ar 4) (fk:=eO (ar 3) (ag (aa 5))) (ρ:=E8 b c m g.length n (-(dQ e)) (-(kP (jb b c q.p e)))) (a9 W) (Q (X:=J')) (jp (fU L)) Z (LI.yes B li.rw li.un qm)) (ai (f:=pC (.int 1)) av) (bH (eK (q.k:Int) 1));let T:=vO (fk:=ag (aa 7)) (fd:=ar 4) gv (a9 W) P hk Z (by ext vq;rw[Uy];ext);let U:iy (vq fs) (kP (jb b c q.p e)) (.int ((q.k:Int)+1))=vq (fs++[#[jb b c q.p e,q.k+1]]):=by ext iy;rw[no];show vq fs++_=_;ext vq;rw[U9];rfl
    rw[U]at T;let e2:(kO g fs J').set (g.length+1) (.dd (vq (fs++[#[jb b c q.p e,q.k+1]])))=g++(Cell.lst ((Xe fs).map .fz):: .dd (vq (fs++[#[jb b c q.p e,q.k+1]]))::J'):=by ext kO;rw[Bb];rfl
    rw[e2]at T;let H:(g++(Cell.lst ((Xe fs).map .fz):: .dd (vq (fs++[#[jb b c q.p e,q.k+1]]))::J'))[g.length]?=cL (.lst ((Xe fs).map .fz)):=qG (t:=0);let ap:=sC (fo:=ar 3) (fe:=ag (aa 7)) (ρ:=E8 b c m g.length n (-(dQ e)) (-(kP (jb b c q.p e)))) (x:=.fz (kP (jb b c q.p e))) (a9 W) H P H (by ext Xe;rw[Uy,Uy];ext);show .eq (ez N (b8 T (gQ ap))) #[fs++[#[jb b c q.p e,q.k+1]],J',_,_,W,?_,li.new w O old,(UL Y).trans w,?_,λf u=>?_]
    .let:=Bb (l:=g) (r:=Cell.lst ((Xe fs).map .fz):: .dd (vq (fs++[#[jb b c q.p e,q.k+1]]))::J') (t:=0) (c:=.lst ((Xe fs).map .fz++[.fz (kP (jb b c q.p e))]));show Eq.trans this ?_;unfold kO Xe;rw[U9,U9];rfl
    .rw[UE];show((fs.length+1:Nat):Int)<=m+((i+1:Nat):Int);ext
    .rw[tk]at u
     rcases Vg.mp u with u|u
     .let(r,M,z):=dn f u;show#[r,Wc _ M,z]
     .rw[US.mp u];show#[_,Vp _ UP,W]
 .rintro ρ ω ⟨fs,J,o,j,rfl,rfl,li,w,hl,dn⟩;rw[Uy]at hl dn;rw[XA]at dn;let Y:=(Uw.mp w).1;show xf (ρ1:=E8 b c m g.length (n+1) o j) (oS (ai (d:=nd (n+1)) (au (rv:=.fz (nd (n+1))) (af W) av W W (eK (n:Int) 1))) W) #[fs,J,o,j,W,W,li.next w dn,Y,by ext]
def tR(ds:G D)(k:Nat)(x:D)(g:k<ds.length)(l:ds.length<=1000):cW [.tuple ds,nd k,x]=.ok (.fz (.tuple (ds.set k x))):=by
 let a:min k ds.length=k:=YK ();let b:min (k+1) ds.length=k+1:=YK ();let f:ML (.tuple ds) P (M (k:Int))=-(.tuple (ds.take k)):=by show(if eE ds.length P (M (k:Int))=S then P else M (RV.fz (.tuple (kM ds P (M (k:Int))))))=_;rw[aE (by ext eE;rw[HT.sIx_nat,a,HT.sIx_none,a5 ()];show UQ)];ext kM;rw[HT.sIx_nat,a,HT.sIx_none,adM,afp]
 let d:ML (.tuple ds) (M ((k:Int)+1)) P=-(.tuple (ds.drop (k+1))):=by show(if eE ds.length (M ((k+1:Nat):Int)) P=S then P else M (RV.fz (.tuple (kM ds (M ((k+1:Nat):Int)) P))))=_;rw[aE (by ext eE;rw[HT.sIx_nat,b,HT.sIx_none,a5 ()];show UQ)];ext kM;rw[HT.sIx_nat,b,HT.sIx_none,<-Xy,XA]
 let j:uj (.tuple (ds.take k)) (.tuple [x])=-(.tuple (ds.take k++[x])):=by
  cases e:ds.take k with
  |nil=>rfl
  |cons y r=>show(if y::r≠[]/\(y::r).length+[x].length<=1000000 then M (RV.fz (.tuple (y::r++[x])))else P)=_;let:=ef Yd e;rw[VY,a]at this;rw[ax #[ZP _ _,by rw[<-this];show k+1<=_;ext]]
 let i:uj (.tuple (ds.take k++[x])) (.tuple (ds.drop (k+1)))=-(.tuple (ds.set k x)):=by
  rw[List.set_eq_take_append_cons_drop,ax g,show ds.take k++x::ds.drop (k+1)=ds.take k++[x]++ds.drop (k+1) by rw[Ve];rfl];let z:(ds.take k++[x]).length=k+1:=by rw[UE,VY,a];rfl
  let w:(ds.drop (k+1)).length<=1000:=by rw[Xy];ext
  generalize ds.drop (k+1)=t at w;cases e:ds.take k++[x]with
  |nil=>rw[e]at z;ext z
  |cons y r=>rw[e]at z;show(if y::r≠[]/\(y::r).length+t.length<=1000000 then M (RV.fz (.tuple (y::r++t)))else P)=_;rw[ax #[ZP _ _,by ext]]
 let h:uj (nd k) (.int 1)=-(.int ((k:Int)+1)):=W;show fW (ρ:=[zf (.tuple ds),zf (nd k),zf x]) W (dw (rv:=.fz (.tuple (ds.set k x))) (au (rv:=.fz (.tuple (ds.set k x))) (au (rv:=.fz (.tuple (ds.take k++[x]))) (yT (rv:=.fz (.tuple (ds.take k))) (af W) lB (lP (af W) W) W f) (bW (ds:=[x]) (ah (af W) aw) W (UA W)) W W j) (yT (rv:=.fz (.tuple (ds.drop (k+1)))) (af W) (lP (au (rv:=.fz (.int ((k:Int)+1))) (af W) av W W h) W) lB W d) W W i) W W)
def DK{m:Mn}(h:LB m):cj (mD m) (.tuple [.str "below"])=-(.bool m.isB):=by
 let o:j8 (mD m)=S:=Lf (xZ h) (Vk (show UB.depth (mD m)<=1 by ext m<;>show UA W) ());let a:UB.canLay0 (.tuple [.str "below"])=S:=by left
 ext cj;rw[o,a,Wn,ax W];congr 3;cases z:UB.eqv (mD m) (.tuple [.str "below"])with
 |true=>let:=yi (n:=.below) (LD.kd_eqv _ _ (Cn h) (by left) z);rw[this];rfl
 |false=>
  cases m with
  |below=>show a7 z (by left)
  |_=>rfl
def Fb{b:Bd}(d:VB b){L k:Nat}{l:G Mn}{m m':Mn}(f:b.ls[L]?=M l)(p:l[k]?=M m)(z:VM L b.ls.length m')(B:L=0->m'.isL=m.isL):VB {b with ls:=b.ls.set L (l.set k m')}:=by
 let C:=(Uw.mp f).1;let t:=(Uw.mp p).1;show#[d.n1,d.n5,by rw[Vz];show d.l1,by rw[Vz];show d.l3,λi q g=>?_,d.c4,λx w=>?_,d.cu,d.w1,d.w4]
 .show _/\∀m∈q,VM i ((b.ls.set L (l.set k m')).length:Nat) m
  rw[Vz];by_cases e:i=L
  .subst e
   rw[VP C]at g;ext g;let:=d.vl i l f;show#[by rw[Vz];show this.1,λy u=>?_];rcases List.mem_or_eq_of_mem_set u with h|rfl
   .show this.2 y h
   .show z
  .rw[Vx (dN e)]at g;show d.vl i q g
 .let v:=d.vc x w
  show#[v.1,v.2.1,λj A=>?_,v.2.2.2];let o:=v.2.2.1 j A;show wK ((b.ls.set L (l.set k m')).headD []) j=S;cases e:b.ls with
  |nil=>rw[e]at f;ext f
  |cons a r=>
   rw[e]at o f;cases L with
   |zero=>
    cases UT f;show wK (l.set k m') j=S;let o:wK l j=S:=o;unfold wK at o⊢;by_cases n:j=k
    .subst n;rw[VP t];rw[p]at o;show(B W).trans o
    .rw[Vx (dN n)];show o
   |succ L=>show o
abbrev Sh(a:G Int)(b:Bd)(d:Int)(w L k:Nat)(m:Mn)(o:z PV):aQ:=[zf (.list (a.map .int)),zf (bD b),zf (.int b.n),zf (.tuple (b.ls.map db)),zf (.tuple (b.cs.map V6)),zf (.int b.wt),zf (.int d),zf (nd w),zf (nd L),zf (nd k),zf (mD m),o]
def DJ(j:bb Int){b:Bd}(d:VB b){n:Nat}(s:b.n=n)(D:n=1\/n=2\/n=3):∃c:Bd,VB c/\c.n=n/\dD [.list (j.map .int),bD b]=.ok (.fz (bD c)):=by
 let(g,e0):=kS j 12;let e0:br [.list (j.map .int),.int 12]=.ok (.fz (.int g)):=e0;let(w,U,hw):=dG g 70 8 () ();let U:aD [.int g,.int 70,.int 8]=.ok (.fz (nd w)):=U;let ll:=d.l1;let l3:=d.l3;let(L,Z,hL):=dG g 71 b.ls.length () ();let Z:aD [.int g,.int 71,nd b.ls.length]=.ok (.fz (nd L)):=Z;let(k,Y,hk):=dG g 72 n () ();let Y:aD [.int g,.int 72,.int b.n]=.ok (.fz (nd k)):=by rw[s];show Y
 obtain⟨l,G⟩:∃l,b.ls[L]?=cL l:=#[_,UI hL];let K:=d.vl L l G;let kl:k<l.length:=by let:=K.1;ext
 obtain⟨m,hm⟩:∃m,l[k]?=cL m:=#[_,UI kl];let J:=K.2 m (UX hm);let(r,er,hr):=dG g 73 3 () ();let er:aD [.int g,.int 73,.int 3]=.ok (.fz (nd r)):=er;let(t,S,X):=yh (z:= "abz") [0,1,25] (by left) (by left) () (show(0:Int)<=(r:Int) by ext) (show(r:Int)<3 by ext);let(H,M,Q,v):=CM j 13 n D;let v:eV [.list (j.map .int),.int 13,.int b.n]=.ok (.fz (bD H)):=by rw[s];show v
 let R:cI [.tuple (b.ls.map db)]=-(nd b.ls.length):=(hW _).trans (by rw[Uy]);let O:aO (.tuple (b.ls.map db)) (nd L)=-(db l):=Cy (by rw[UJ,G];rfl);let i2:aO (db l) (nd k)=-(mD m):=Cy (by rw[UJ,hm];rfl);let l5:l.length<=5:=by let:=K.1;let:=d.n5;ext
 let put:∀m':Mn,cW [db l,nd k,mD m']=.ok (.fz (db (l.set k m')))/\cW [.tuple (b.ls.map db),nd L,db (l.set k m')]=.ok (.fz (.tuple ((b.ls.set L (l.set k m')).map db))):=λm'=>by let p1:=tR (l.map mD) k (mD m') (by rw[Uy];show kl) (by rw[Uy];ext);let p2:=tR (b.ls.map db) L (db (l.set k m')) (by rw[Uy];show hL) (by rw[Uy];ext);rw[<-List.map_set]at p1 p2;show#[p1,p2]
 let N:∃rv,eD 12 bV [.list (j.map .int),bD b]=.ok rv/\∃c:Bd,(VB c/\c.n=n)/\rv=.fz (bD c):=by
  show mQ (T:=λrv=>∃c:Bd,(VB c/\c.n=n)/\rv=.fz (bD c)) W ?_;ext bV;show b9 (ρ3:=[zf (.list (j.map .int)),zf (bD b),zf (.int b.n),zf (.tuple (b.ls.map db)),zf (.tuple (b.cs.map V6)),zf (.int b.wt),Ld,Ld,Ld,Ld,Ld,Ld]) (af W) W W ?_;show b9 (ρ3:=[zf (.list (j.map .int)),zf (bD b),zf (.int b.n),zf (.tuple (b.ls.map db)),zf (.tuple (b.cs.map V6)),zf (.int b.wt),zf (.int g),Ld,Ld,Ld,Ld,Ld]) (bf (rv:=.fz (.int g)) (ah (af W) (ah av aw)) W W e0) W W ?_;show b9 (ρ3:=[zf (.list (j.map .int)),zf (bD b),zf (.int b.n),zf (.tuple (b.ls.map db)),zf (.tuple (b.cs.map V6)),zf (.int b.wt),zf (.int g),zf (nd w),Ld,Ld,Ld,Ld]) (bf (rv:=.fz (nd w)) (ah (af W) (ah av (ah av aw))) W W U) W W ?_;show b9 (ρ3:=[zf (.list (j.map .int)),zf (bD b),zf (.int b.n),zf (.tuple (b.ls.map db)),zf (.tuple (b.cs.map V6)),zf (.int b.wt),zf (.int g),zf (nd w),zf (nd L),Ld,Ld,Ld]) (bf (rv:=.fz (nd L)) (ah (af W) (ah av (ah (dh (rv:=.fz (nd b.ls.length)) (ah (af W) aw) W R) aw))) W W Z) W W ?_;show b9 (ρ3:=[zf (.list (j.map .int)),zf (bD b),zf (.int b.n),zf (.tuple (b.ls.map db)),zf (.tuple (b.cs.map V6)),zf (.int b.wt),zf (.int g),zf (nd w),zf (nd L),zf (nd k),Ld,Ld]) (bf (rv:=.fz (nd k)) (ah (af W) (ah av (ah (af W) aw))) W W Y) W W ?_;show b9 (ρ3:=Sh j b g w L k m Ld) (au (rv:=.fz (mD m)) (au (rv:=.fz (db l)) (af W) (af W) W W O) (af W) W W i2) W W ?_;let F:∀{i:Int} {o:bg PV},aB (aA cj (aa 7) (pC (.int i))) (Sh j b g w L k m o)=.ok (decide ((w:Int)=i),Sh j b g w L k m o):=aK (au (af W) av W W (gj _ _)) W;show gD F (λ_=>dJ (rv:=.fz (bD {b with cs:=b.cs.reverse})) (bW (ds:=[.int b.n,.tuple (b.ls.map db),.tuple (b.cs.reverse.map V6),.int b.wt]) (ah (af W) (ah (af W) (ah (LC (rv:=.fz (.tuple (b.cs.reverse.map V6))) (af W) W (by rw[ac3];rfl)) (ah (af W) aw)))) W (UA W)) W #[{b with cs:=b.cs.reverse},#[#[d.n1,d.n5,d.l1,d.l3,d.vl,by rw[WC];show d.c4,λx P=>d.vc x (List.mem_reverse.mp P),List.pairwise_reverse.mpr (d.cu.imp λh e=>h e.symm),d.w1,d.w4],s],W]) (λ_=>cK ?_);show gD (b:=decide ((w:Int)=2)&&m.isB) (iT F λ_=>aK (au (af W) (bW (ds:=[.str "below"]) (ah av aw) W (UA W)) W W (DK J.lb)) W) (λq=>?_) (λ_=>cK ?_)
  .rw[Uu]at q
   let mb:m=.below:=by revert q;ext m<;>simp[Mn.isB]
   let L0:L≠0:=by rw[mb]at J;intro z;show J (by rw[z];rfl)
   obtain⟨u,E⟩:∃u,b.ls[0]?=cL u:=#[_,UI ()];let A:=d.vl 0 u E;obtain⟨p,B⟩:∃p,u[k]?=cL p:=#[_,UI (by let:=A.1;ext)];let y:=A.2 p (UX B);let j1:aO (.tuple (b.ls.map db)) (.int 0)=-(db u):=Cy (by rw[UJ,E];rfl);let j2:aO (db u) (nd k)=-(mD p):=Cy (by rw[UJ,B];rfl);let I:VM L b.ls.length p:=by
    cases p with
    |below=>show a7 W y
    |_=>show y
   show dJ (rv:=.fz (bD {b with ls:=b.ls.set L (l.set k p)})) (bW (ds:=[.int b.n,.tuple ((b.ls.set L (l.set k p)).map db),.tuple (b.cs.map V6),.int b.wt]) (ah (af W) (ah (bf (rv:=.fz (.tuple ((b.ls.set L (l.set k p)).map db))) (ds:=[.tuple (b.ls.map db),nd L,db (l.set k p)]) (ah (af W) (ah (af W) (ah (bf (rv:=.fz (db (l.set k p))) (ds:=[db l,nd k,mD p]) (ah (au (rv:=.fz (db l)) (af W) (af W) W W O) (ah (af W) (ah (au (rv:=.fz (mD p)) (au (rv:=.fz (db u)) (af W) av W W j1) (af W) W W j2) aw))) W W (put p).1) aw))) W W (put p).2) (ah (af W) (ah (af W) aw)))) W (UA W)) W #[_,#[Fb d G hm I λz=>a7 z L0,s],W]
  show gD (b:=decide ((w:Int)=3)&&m.isL) (iT F λ_=>aK (au (au (rv:=.fz (.str (wd m))) (af W) av W W (lL m)) av W W (ig m)) W) (λq=>yz ?_) (λ_=>cK ?_)
  .rw[Uu]at q;show b9 (ρ3:=Sh j b g w L k m (zf (mD (.Vd t)))) (bW (ds:=[.str "letter",.str (iB t)]) (ah av (ah (au (rv:=.fz (.str (iB t))) av (bf (rv:=.fz (nd r)) (ds:=[.int g,.int 73,.int 3]) (ah (af W) (ah av (ah av aw))) W W er) W W X) aw)) W (UA W)) W W ?_;show dJ (rv:=.fz (bD {b with ls:=b.ls.set L (l.set k (.Vd t))})) (bW (ds:=[.int b.n,.tuple ((b.ls.set L (l.set k (.Vd t))).map db),.tuple (b.cs.map V6),.int b.wt]) (ah (af W) (ah (bf (rv:=.fz (.tuple ((b.ls.set L (l.set k (.Vd t))).map db))) (ds:=[.tuple (b.ls.map db),nd L,db (l.set k (.Vd t))]) (ah (af W) (ah (af W) (ah (bf (rv:=.fz (db (l.set k (.Vd t)))) (ds:=[db l,nd k,mD (.Vd t)]) (ah (au (rv:=.fz (db l)) (af W) (af W) W W O) (ah (af W) (ah (af W) aw))) W W (put (.Vd t)).1) aw))) W W (put (.Vd t)).2) (ah (af W) (ah (af W) aw)))) W (UA W)) W #[_,#[Fb (m':=.Vd t) d G hm S λ_=>q.2.symm,s],W]
  let wm:l6 (.int b.wt) (.int 2)=-(.int (b.wt % 2)):=pZ ();show gD F (λ_=>dJ (rv:=.fz (bD {b with wt:=1+b.wt % 2})) (bW (ds:=[.int b.n,.tuple (b.ls.map db),.tuple (b.cs.map V6),.int (1+b.wt % 2)]) (ah (af W) (ah (af W) (ah (af W) (ah (au (rv:=.fz (.int (1+b.wt % 2))) av (au (rv:=.fz (.int (b.wt % 2))) (af W) av W W wm) W W (eK _ _)) aw)))) W (UA W)) W #[{b with wt:=1+b.wt % 2},#[#[d.n1,d.n5,d.l1,d.l3,d.vl,d.c4,d.vc,d.cu,by show 1<=1+b.wt % 2;ext,by show 1+b.wt % 2<=4;ext],s],W]) (λ_=>cK ?_);let s1:Si (.tuple (b.cs.map V6)) (cL 1) Ld=-(.tuple ((b.cs.drop 1).map V6)):=by
   show cL (RV.fz (.tuple (kM (b.cs.map V6) (cL ((1:Nat):Int)) Ld)))=_;ext kM;rw[HT.sIx_nat,HT.sIx_none,Uy,List.map_drop];congr 3;cases b.cs with
   |nil=>rfl
   |cons a r=>rw[UO,YK ()];show List.take (r.length+1 - 1) (r.map V6)=r.map V6;rw[Nat.add_sub_cancel,<-Uy (f:=V6),XA]
  show gD F (λ_=>dJ (rv:=.fz (bD {b with cs:=b.cs.drop 1})) (bW (ds:=[.int b.n,.tuple (b.ls.map db),.tuple ((b.cs.drop 1).map V6),.int b.wt]) (ah (af W) (ah (af W) (ah (yT (rv:=.fz (.tuple ((b.cs.drop 1).map V6))) (af W) (lP av W) lB W s1) (ah (af W) aw)))) W (UA W)) W #[{b with cs:=b.cs.drop 1},#[#[d.n1,d.n5,d.l1,d.l3,d.vl,by rw[Xy];let:=d.c4;ext,λx P=>d.vc x (List.mem_of_mem_drop P),d.cu.drop,d.w1,d.w4],s],W]) (λ_=>cK ?_);show gD (b:=decide ((5:Int)<w)) (aK (au (af W) av W W (vo _ _)) W) (λ_=>dJ (rv:=.fz (bD H)) (bf (rv:=.fz (bD H)) (ah (af W) (ah av (ah (af W) aw))) W W v) W #[H,#[M,Q],W]) (λ_=>cK ?_);show dw (rv:=.fz (bD b)) (af W) W #[b,#[d,s],W]
 let(rv,h,c,(C,hc),rfl):=N;show#[c,C,hc,h]
def Qk(m:Nat){a:aL}{i:Nat}{ds:G D}(h:a[i]?=M (.lst (ds.map .fz))):frz (m+1) a (.rf i)=M (.list ds,a.set i .dead):=by ext frz;rw[h];dsimp only;rw[oa]
def zE{b:aL}{i:Nat}{ds:G D}{x:D}(h:b[i]?=M (.lst (ds.map .fz))):frz 4 b (.tp [.fz x,.rf i])=M (.tuple [x,.list ds],b.set i .dead):=by
 let e2:j4 (frz 3) b [.fz x,.rf i]=M ([x,.list ds],b.set i .dead):=by
  show(match frz 3 b (.fz x)with
   |some (d,e)=>(match j4 (frz 3) e [.rf i]with
    |some (ds,a)=>M (d::ds,a)
    |none=>P)
   |none=>P)=_
  show(match j4 (frz 3) b [.rf i]with
    |some (ds,a)=>M (x::ds,a)
    |none=>P)=_
  ext j4;rw[Qk 2 h];rfl
 ext frz;rw[show([AV.fz x,AV.rf i].map AV.sv)=[.fz x,.rf i]from rfl,e2]
def TR(b c:Bd)(es:G Zk)(d:D):Prop:=
 (d=.none/\∃l:G PP,l.Nodup/\(∀p∈l,∃k,RW b c es k p)/\80<l.length)\/
 (∃(row:G D) (k:Nat),d=.tuple [.str "apart",.list row]/\row.length=k+1/\ApD b c es k)\/
 ∃l:G PP,d=.tuple [.str "same",.list (l.map kP)]/\AllP b c es l/\∀k p e,RW b c es k p->e∈es->CV b c p e
def uM{b c:Bd}(o:VB b)(j:VB c){n:Nat}(t:b.n=n)(p:c.n=n)(q:n<=5){ρ:aV}{fa:u6}{ω:aL}(s:fa ρ ω=.ok [.fz (bD b),.fz (bD c)] ω):∃d k,jc (jB bG 2 fa) ρ ω=.ok (.fz d) k/\TR b c (nA n) d:=by
 let so:=(Gy o j t p q (m:=80) () () ω).out;cases e:gF [.fz (bD b),.fz (bD c),.fz (.int 80)] ω with
 |bad=>rw[e]at so;show so.elim
 |er x k=>
  rw[e]at so;let(rfl,l,h,a,r):=so;let f:bG [.fz (bD b),.fz (bD c)] ω=.ok (.fz .none) k:=by ext bG;dsimp only;rw[e];show ax W
  show#[.none,k,iS (oj s W f) W,.inl #[W,l,h,a,by ext]]
 |ok v k=>
  rw[e]at so;let f:bG [.fz (bD b),.fz (bD c)] ω=.ok v k:=by ext bG;dsimp only;rw[e]
  rcases so with⟨i,row,d,rfl,g,h,a⟩|⟨i,l,rfl,g,h,a⟩
  .show#[_,_,iS (oj s W f) (zE g),.inr (.inl #[row,d,W,h,a])]
  .show#[_,_,iS (oj s W f) (zE g),.inr (.inr #[l,W,h,a])]
def AB(l:VB b)(j:VB c){n:Nat}(k:b.n=n)(t:c.n=n)(u:n<=5)(g:PW b c p)(h:∀e∈nA n,CV b c p e):c8 [bD b,bD c,kP p]=.ok (.fz (.bool R)):=by
 let ev:=z9 k u;let B:BB b c (nA n):=#[l,j,jh k,jh t];generalize nA n=es at ev B h;show fW W ?_;show qp (λ_ y=>∃o,y=[zf (bD b),zf (bD c),zf (kP p),o]) (iP (bf (ah (af W) aw) W W ev) W W) #[P,W] ?_ ?_
 .rintro i d y a ⟨o,rfl⟩
  rw[UJ]at a;cases A:es[i]? with
  |none=>rw[A]at a;ext a
  |some e=>rw[A]at a;cases UT a;let f:=UX A;show#[[zf (bD b),zf (bD c),zf (kP p),zf (dQ e)],W,?_];let r:=KN l g.1 (B.eb e f);let m:=KN j g.2 (B.ec e f);let k1:=oi l g.1 (B.eb e f);let k2:=oi j g.2 (B.ec e f);let v:(bh b p.1 e).2=(bh c p.2 e).2:=h e f;let ne:=K8 k1 k2;rw[a5 (not_not_intro v)]at ne;show zq (aK (au (au (bf (ah (af W) (ah (au (af W) av W W dI) (ah (af W) aw))) W W r) av W W dI) (au (bf (ah (af W) (ah (au (af W) av W W eU) (ah (af W) aw))) W W m) av W W dI) W W ne) W) (λq=>nomatch q) (λ_=>oA #[_,W])
 .rintro y ⟨o,rfl⟩;show dw av W W
theorem SD:∀l:G α,EF [.list (l.map λ_=>UB.bool R)]=-(.bool R):=λl=>by show(kL _).map (λbs=>RV.fz (.bool (bs.any id)))=_;rw[STP.iz];show M (RV.fz (.bool _))=_;rw[List.any_map,show(id∘λ_:α=>R)=λ_=>R from rfl,acs.mpr (λ_ _=>UQ)]
theorem ku{gt:wY}{ft:ri}{fe:cR}{ω:aL}{α:Type}(e:α->D)(f:α->SV)(p:α->Bool)(I:aV->Prop):∀(xs:G α) (i:aV) (acc:G SV),I i->acc.length+xs.length<=1000000->(∀x∈xs,∀i,I i->∃c,gt (.fz (e x)) i ω=.ok c ω/\ft c ω=.ok (p x) ω/\fe c ω=.ok (f x) ω/\I c)->dc gt ft fe (xs.map e) i ω acc=.ok (acc++(xs.filter p).map f) ω
 |[],i,acc,_,_,_=>by show RS.ok acc ω=_;rw[List.filter_nil,W4,Vh]
 |x::r,i,acc,h0,m,j=>by
  let(c,h,g,d,b):=j x UP i h0;rw[UO]at m;show((gt (.fz (e x)) i ω).bind _)=_;rw[h,ej,g,ej];cases l:p x with
  |true=>rw[ax W,d,ej,ax (),ku e f p I r c _ b (by rw[UE,WO];ext) λy a=>j y (UM _ a),W5,ax l,Ve];rfl
  |false=>rw[aE UQ,ku e f p I r c _ b () λy a=>j y (UM _ a),W5,aE (by rw[l];show UQ)]
abbrev G8(f:G Int)(b c:Bd)(e d a h g:z SV):aV:=[-(.list (f.map .int)),-(bD b),-(bD c),e,d,a,h,g]
def main(g:bb Int)(s:g.length<=63):L10.Q1 F_law [.list (g.map .int)]=.ok (.fz (.bool Uv)):=by
 let(n,hn,ek):=Jk g;let(b,G,I,eb):=CM g 1 n hn;let eb:=eb;let(c,K,T,ec):=DJ g G I hn;let Y:n<=5:=by ext
 let B:BB b c (nA n):=#[G,K,jh I,jh T];let key:Out (F_law [.fz (.list (g.map .int))] []) (λx _=>x=.fz (.bool Uv)) (λ_=>False):=by
  show sA W ?_;ext uL;show de (ρ1:=[-(.list (g.map .int)),-(bD b),Ld,Ld,Ld,Ld,Ld,Ld]) (ai (bf (ah (af W) (ah av (ah (bf (ah (af W) aw) W W ek) aw))) W W eb)) W ?_;show de (ρ1:=G8 g b c Ld Ld Ld Ld Ld) (ai (bf (ah (af W) (ah (af W) aw)) W W ec)) W ?_;let(d,ω1,e1,S):=uM G K I T Y (ρ:=G8 g b c Ld Ld Ld Ld Ld) (fa:=aj (ag (aa 1)) (aj (ag (aa 2)) aG)) (ω:=[]) (am (ai (af W)) (am (ai (af W)) aI));show de (ρ1:=G8 g b c (-(d)) Ld Ld Ld Ld) e1 W ?_;let(d',f,e2,U):=uM K G T I Y (ρ:=G8 g b c (-(d)) Ld Ld Ld Ld) (fa:=aj (ag (aa 2)) (aj (ag (aa 1)) aG)) (ω:=ω1) (am (ai (af W)) (am (ai (af W)) aI));show de (ρ1:=G8 g b c (-(d)) (-(d')) Ld Ld Ld) e2 W ?_;let(v,ω3,e3,fs,J,rfl,rfl,X,p2,p3,p4):=(AI G K I T Y (m:=80) () () f).all;let cal:∀{o5 o6 o7:bg SV},jB cT 3 (aj (ag (aa 1)) (aj (ag (aa 2)) (aj (ag (~~~80)) aG))) (G8 g b c (-(d)) (-(d')) o5 o6 o7) f=.ok (.tp [.rf f.length,.rf (f.length+1)]) (kO f fs J):=oj (am (ai (af W)) (am (ai (af W)) (am (ai av) aI))) W e3;let g0:(kO f fs J)[f.length]?=cL (.lst ((Xe fs).map .fz)):=qG (t:=0);let g1:(kO f fs J)[f.length+1]?=cL (.dd (vq fs)):=qG (t:=1);let A:80<fs.length->jd GB (xE cI (aj (eO (jB cT 3 (aj (ag (aa 1)) (aj (ag (aa 2)) (aj (ag (~~~80)) aG)))) (ag (~~~0))) aG)) (ag (~~~80)) (G8 g b c (-(d)) (-(d')) Ld Ld Ld) f=.ok (.fz (.bool Uv)) (kO f fs J):=λh=>b7 (wv (ds:=[.list (Xe fs)]) (d:=nd fs.length) (am (ug (i:=0) (a:=.rf f.length) cal (ai (d:=.int 0) av) W W) aI) (by ext aF;rw[show sh (kO f fs J) (AV.rf f.length).sv=cL (.list (Xe fs))from eW g0];rfl) ((dS _).trans (by ext Xe;rw[Uy]))) (ai av) (bH ((vo _ _).trans (by rw[a4 ()])));let z:∀l:bb PP,l.Nodup->(∀p∈l,∃k,RW b c (nA n) k p)->80<l.length->80<fs.length:=λl y C h3=>by
   rcases p4 with h|h
   .omega
   .let:=h.len y C;rw[Uy]at this;ext
  rcases S with⟨rfl,l,l1,l2,l3⟩|S
  .show sY (aW (b:=Uv) (kN (a:=Uv) (b:=Uv) (aK (au (rv:=.fz (.bool Uv)) (af W) av W W W) W) λq=>nomatch q)) (oy (A (z l l1 l2 l3)) W)
  let d1:lZ d .none=-(.bool Ux):=by rcases S with⟨_,_,rfl,_⟩|⟨_,rfl,_⟩<;>rfl
  rcases U with⟨rfl,l,l1,l2,l3⟩|U
  .show sY (aW (b:=Uv) (kN (a:=Ux) (b:=Uv) (aK (au (rv:=.fz (.bool Ux)) (af W) av W W d1) W) λ_=>aK (au (rv:=.fz (.bool Uv)) (af W) av W W W) W)) (oy (A (z (l.map Prod.swap) (n9 l1) (λp N=>?_) (by rw[Uy];show l3))) W);let(q,w,rfl):=U6.mp N;let(k,O):=l2 q w;show#[k,O.swp]
  let d2:lZ d' .none=-(.bool Ux):=by rcases U with⟨_,_,rfl,_⟩|⟨_,rfl,_⟩<;>rfl
  show mL (aW (b:=Ux) (kN (a:=Ux) (b:=Ux) (aK (au (rv:=.fz (.bool Ux)) (af W) av W W d1) W) λ_=>aK (au (rv:=.fz (.bool Ux)) (af W) av W W d2) W)) (jJ ?_);let naa:kQ (.str "apart") (.str "apart")=-(.bool Ux):=oK (by left);let nss:kQ (.str "same") (.str "same")=-(.bool Ux):=oK (by left);let Q:cj (.str "same") (.str "same")=-(.bool Uv):=STP.J0 (by left);let R:cj (.str "apart") (.str "same")=-(.bool Ux):=(Sl (by left) (by left)).trans (by rw[show(("apart":Str)== "same")=Ux by left]);rcases S with⟨row,k,rfl,hr,ap⟩|⟨l,rfl,al,sm⟩
  .rcases U with⟨j,k',rfl,M,E⟩|⟨Z,rfl,F,L⟩
   case inr=>
    let(p,e,y,C,h3):=ap.x;show a7 (L k p.swap e y.swp C).symm h3
   let kk:k=k':=ap.one E.swp;subst kk;clear E d1 d2 A z;show mL (aW (b:=Ux) (kN (a:=Ux) (b:=Ux) (aK (au (rv:=.fz (.bool Ux)) (au (rv:=.fz (.str "apart")) (af W) av W W dI) (au (rv:=.fz (.str "apart")) (af W) av W W dI) W W naa) W) λ_=>iT (a:=Ux) (b:=Uv) (aK (au (rv:=.fz (.bool Ux)) (au (rv:=.fz (.str "apart")) (af W) av W W dI) av W W R) W) λq=>nomatch q)) (jJ ?_);show mL (aW (b:=Ux) (aK (au (rv:=.fz (.bool Ux)) (au (rv:=.fz (.str "apart")) (af W) av W W dI) av W W R) W)) (jJ ?_);show de (ρ1:=G8 g b c (-(.tuple [.str "apart",.list row])) (-(.tuple [.str "apart",.list j])) (cL (.rf f.length)) (cL (.rf (f.length+1))) Ld) cal W ?_;let H:∀{r:bb D},r.length=k+1->cI [.list r]=-(.int ((k:Int)+1)):=λh=>(dS _).trans (by rw[h];rfl);let is:=ul (fe:=ar 5) (ρ:=G8 g b c (-(.tuple [.str "apart",.list row])) (-(.tuple [.str "apart",.list j])) (cL (.rf f.length)) (cL (.rf (f.length+1))) Ld) (a9 W) g0;let P:((kO f fs J).set f.length .dead)[f.length+1]?=cL (.dd (vq fs)):=(Vx ()).trans g1;generalize (kO f fs J).set f.length .dead=u at is P;let hc:=ku (gt:=eR 0) (ft:=bc (jd GD (iG (ar 1) (ag (aa 0))) (ag (aA mw (fY cI {aA aO (aa 2) (~~~1)}) (~~~1))))) (fe:=ag (aa 0)) (ω:=u) (λq:Pk=>kP q.p) (λq=>SV.fz (kP q.p)) (λq=>decide ((q.k:Int)<(k:Int)+1 - 1)) (λρ=>∃o,ρ=[o,cL (.rf (f.length+1)),-(.tuple [.str "apart",.list row])]) fs [Ld,cL (.rf (f.length+1)),-(.tuple [.str "apart",.list row])] [] #[Ld,W] (by rw[V7];ext) (λq w ρ #[o,ho]=>by subst ho;show#[[-(kP q.p),cL (.rf (f.length+1)),-(.tuple [.str "apart",.list row])],W,?_,ai (af W),_,W];show aR (b7 (pV (a9 W) (ai (af W)) (jp (fU (B.rw (X q w)))) P (LI.yes B X p2 w)) (ai (au (rv:=.fz (.int ((k:Int)+1 - 1))) (dh (rv:=.fz (.int ((k:Int)+1))) (ds:=[.list row]) (ah (au (rv:=.fz (.list row)) (af W) av W W eU) aw) W (H hr)) av W W (mM _ _))) (bH (ju _ _))));let cs:=ot (n:=1) (fj:=[6,3]) (ρ:=G8 g b c (-(.tuple [.str "apart",.list row])) (-(.tuple [.str "apart",.list j])) (cL (.rf f.length)) (cL (.rf (f.length+1))) Ld) is hc;let nr:∀q∈fs.filter λq=>decide ((q.k:Int)<(k:Int)+1 - 1),c8 [bD b,bD c,kP q.p]=.ok (.fz (.bool Ux)):=λq w=>by let(y,C):=Wh.mp w;let C:=a6 C;show AB G K I T Y (B.rw (X q y)) λe he=>ap.n q.k q.p e () (X q y) he
   let fl:=Xw (λq:Pk=>decide ((q.k:Int)<(k:Int)+1 - 1)) fs;generalize fs.filter (λq=>decide ((q.k:Int)<(k:Int)+1 - 1))=gs at cs nr fl;rw[YB]at cs;let fz:frz 4 (u++[Cell.lst (gs.map λq=>SV.fz (kP q.p))]) (.rf u.length)=cL (.list (Xe gs),(u++[Cell.lst (gs.map λq=>SV.fz (kP q.p))]).set u.length .dead):=lu (by rw[aJ];ext Xe;rw[Vn];rfl);show de (ρ1:=G8 g b c (-(.tuple [.str "apart",.list row])) (-(.tuple [.str "apart",.list j])) (cL (.rf f.length)) (cL (.rf (f.length+1))) (-(.list (Xe gs)))) (iS cs fz) W ?_;let cm:j7 (dj (gN 0) dZ (b6 c8 3 {aa 1,aa 2,aa 0}) (Xe gs) [Ld,zf (bD b),zf (bD c)] [])=.ok (gs.map λ_=>.bool Ux):=jI (cp:=[zf (bD b),zf (bD c)]) (λq:Pk=>kP q.p) (λ_=>UB.bool Ux) gs () W λq w=>bf (rv:=.fz (.bool Ux)) (ah (af W) (ah (af W) (ah (af W) aw))) W W (nr q w);show pR (ai (nZ (a:=Uv) (b:=Uv) (aK (au (rv:=.fz (.bool Uv)) (dh (rv:=.fz (.int ((k:Int)+1))) (ds:=[.list row]) (ah (au (rv:=.fz (.list row)) (af W) av W W eU) aw) W (H hr)) (dh (rv:=.fz (.int ((k:Int)+1))) (ds:=[.list j]) (ah (au (rv:=.fz (.list j)) (af W) av W W eU) aw) W (H M)) W W ((gj _ _).trans (by rw[a4 W]))) W) λ_=>zk (a:=Ux) (aK (dh (rv:=.fz (.bool Ux)) (ds:=[.list (gs.map λ_=>.bool Ux)]) (ah (d9 (cs:=[bD b,bD c]) (ds:=Xe gs) (iP (d:=.list (Xe gs)) (af W) W W) W cm) aw) W (SD gs)) W))) W
  .rcases U with⟨j,k',rfl,M,E⟩|⟨Z,rfl,F,L⟩
   .let(p,e,y,C,h3):=E.x;show a7 (sm k' p.swap e y.swp C).symm h3
   let le:l.length=Z.length:=by let y:=al.len (n9 F.u) (λp N=>by let(q,w,rfl):=U6.mp N;let(k,O):=F.r q w;show#[k,O.swp]);let C:=F.len (n9 al.u) (λp N=>by let(q,w,rfl):=U6.mp N;let(k,O):=al.r q w;show#[k,O.swp]);rw[Uy]at y C;ext
   let H:∀{m:bb PP},m.length=l.length->cI [.list (m.map kP)]=-(nd l.length):=λh=>(dS _).trans (by rw[Uy,h]);let nn:kQ (nd l.length) (nd l.length)=-(.bool Ux):=oK W;show mL (aW (b:=Ux) (kN (a:=Ux) (b:=Ux) (aK (au (rv:=.fz (.bool Ux)) (au (rv:=.fz (.str "same")) (af W) av W W dI) (au (rv:=.fz (.str "same")) (af W) av W W dI) W W nss) W) λ_=>iT (a:=Uv) (b:=Ux) (aK (au (rv:=.fz (.bool Uv)) (au (rv:=.fz (.str "same")) (af W) av W W dI) av W W Q) W) λ_=>aK (au (rv:=.fz (.bool Ux)) (dh (rv:=.fz (nd l.length)) (ds:=[.list (l.map kP)]) (ah (au (rv:=.fz (.list (l.map kP))) (af W) av W W eU) aw) W (H W)) (dh (rv:=.fz (nd l.length)) (ds:=[.list (Z.map kP)]) (ah (au (rv:=.fz (.list (Z.map kP))) (af W) av W W eU) aw) W (H le.symm)) W W nn) W)) (jJ ?_);show sY (aW (b:=Uv) (aK (au (rv:=.fz (.bool Uv)) (au (rv:=.fz (.str "same")) (af W) av W W dI) av W W Q) W)) (oy (ai av) W)
 let(x,ω',y,rfl):=key.all;ext L10.Q1;rw[show[UB.list (g.map .int)].map SV.fz=[.fz (.list (g.map .int))]from rfl,y]
end K52
namespace K52
open PySem L2 L3 L10 STP CC
set_option synthInstance.maxHeartbeats 400000
set_option synthInstance.maxSize 4000
def top(i:Nat):Wk:=PySem.Challenge.pw_chordbed_k52_whole_none_is_shorter.main.body.getD i (.Pass ⟨0,0,0,0⟩)
def bJ:G CC.Fd:=[CC.fdX 1 "TooMany" "most",
 CC.Xe 1 "layer_of" ["standing"] 1 dA,
 CC.Xe 1 "looked_up" ["bed","layer","key"] 3 gO,
 CC.Xe 1 "chords_over" ["bed","keys"] 2 bw,
 CC.Xe 1 "chord_acts" ["bed","keys"] 2 eB,
 CC.Xe 1 "_law_cell" ["_law_script","_law_k"] 2 br,
 CC.Xe 1 "_law_take" ["_law_cell_here","_law_salt","_law_many"] 3 aD,
 CC.Xe 2 "_law_letter" ["_law_cell_here","_law_salt"] 2 cF,
 CC.Xe 3 "_law_meaning" ["_law_cell_here","_law_layer","_law_many"] 3 dz,
 CC.Xe 2 "_law_chords" ["_law_cell_here","_law_keys_here","_law_first"] 3 fx,
 CC.Xe 4 "_law_bed" ["_law_script","_law_at","_law_keys_here"] 3 eV,
 CC.Xe 2 "_law_keys" ["_law_script"] 1 gI,
 CC.Xe 1 "_law_put" ["_law_row","_law_at","_law_thing"] 3 cW,
 CC.Xe 5 "_law_other_bed" ["_law_script","_law_bed_here"] 2 dD,
 CC.Xe 1 "_law_events" ["_law_bed_here"] 1 c7,
 CC.Xe 1 "events_of" ["bed"] 1 fK,
 CC.fdK 3 "Hand" ["self","bed","standing"] 3 cZ,
 CC.fdM R 3 "Hand" "stands" ["self"] 1 bx,
 CC.fdM R 3 "Hand" "is_waiting" ["self","key"] 2 bN,
 CC.fdM R 3 "Hand" "has_act" ["self","act"] 2 bC,
 CC.fdM R 4 "Hand" "come" ["self","key","act"] 3 bp,
 CC.fdM R 4 "Hand" "go" ["self","key"] 2 iA,
 CC.fdM R 5 "Hand" "decide" ["self"] 1 cB,
 CC.fdM R 4 "Hand" "makes_chord" ["self","key"] 2 cS,
 CC.fdM R 6 "Hand" "put_to_chord" ["self","key"] 2 cM,
 CC.fdM R 5 "Hand" "begin" ["self","key"] 2 eG,
 CC.fdM R 7 "Hand" "press" ["self","key"] 2 gf,
 CC.fdM R 6 "Hand" "settle" ["self","key"] 2 eZ,
 CC.fdM R 7 "Hand" "lift" ["self","key"] 2 gU,
 CC.fdM R 6 "Hand" "wait_on" ["self"] 1 eN,
 CC.fdS 8 "step" ["bed","standing","event"] 3 STP.df,
 CC.Xe 8 "step" ["bed","standing","event"] 3 df,
 CC.Xe 9 "_law_unlike" ["_law_one","_law_other","_law_pair"] 3 c8,
 CC.fdM S 3 "Places" "enter" ["self","place","back","event"] 4 bL,
 CC.afx 4 "Places" ["self","first","most"] 3 cy,
 CC.fdM R 3 "Places" "way_to" ["self","number"] 2 ci,
 CC.fdD [] 9 "same" ["one","other","most"] 3 gF,
 CC.fdS 9 "_law_pairs" ["_law_one","_law_other","_law_cap"] 3 cT,
 CC.fdS 11 "_law_same" ["_law_one","_law_other"] 2 bG]
def iK:CC.Md:=⟨["max","all","list","sorted","len","range","tuple","dict","zip","reversed","any"],[],[("NONE",(.tuple [(.str "none")])),("CHORD",(.tuple [(.str "chord")])),("AT_REST",(.tuple [(.tuple []),.none,.none]))],[("Hand",["bed","acts","waiting","once","sent"]),("Places",["most","found","numbers"])]⟩
noncomputable instance:CC.FX bJ "TooMany" "most":=⟨0,1,W⟩
noncomputable instance:CC.Fn bJ CC.Xe dA 1:=⟨1,1,"layer_of",["standing"],W⟩
noncomputable instance:CC.Fn bJ CC.Xe gO 3:=⟨2,1,"looked_up",["bed","layer","key"],W⟩
noncomputable instance:CC.Fn bJ CC.Xe bw 2:=⟨3,1,"chords_over",["bed","keys"],W⟩
noncomputable instance:CC.Fn bJ CC.Xe eB 2:=⟨4,1,"chord_acts",["bed","keys"],W⟩
noncomputable instance:CC.Fn bJ CC.Xe br 2:=⟨5,1,"_law_cell",["_law_script","_law_k"],W⟩
noncomputable instance:CC.Fn bJ CC.Xe aD 3:=⟨6,1,"_law_take",["_law_cell_here","_law_salt","_law_many"],W⟩
noncomputable instance:CC.Fn bJ CC.Xe cF 2:=⟨7,2,"_law_letter",["_law_cell_here","_law_salt"],W⟩
noncomputable instance:CC.Fn bJ CC.Xe dz 3:=⟨8,3,"_law_meaning",["_law_cell_here","_law_layer","_law_many"],W⟩
noncomputable instance:CC.Fn bJ CC.Xe fx 3:=⟨9,2,"_law_chords",["_law_cell_here","_law_keys_here","_law_first"],W⟩
noncomputable instance:CC.Fn bJ CC.Xe eV 3:=⟨10,4,"_law_bed",["_law_script","_law_at","_law_keys_here"],W⟩
noncomputable instance:CC.Fn bJ CC.Xe gI 1:=⟨11,2,"_law_keys",["_law_script"],W⟩
noncomputable instance:CC.Fn bJ CC.Xe cW 3:=⟨12,1,"_law_put",["_law_row","_law_at","_law_thing"],W⟩
noncomputable instance:CC.Fn bJ CC.Xe dD 2:=⟨13,5,"_law_other_bed",["_law_script","_law_bed_here"],W⟩
noncomputable instance:CC.Fn bJ CC.Xe c7 1:=⟨14,1,"_law_events",["_law_bed_here"],W⟩
noncomputable instance:CC.Fn bJ CC.Xe fK 1:=⟨15,1,"events_of",["bed"],W⟩
noncomputable instance:CC.FK bJ "Hand" cZ 3:=⟨16,3,["self","bed","standing"],W⟩
noncomputable instance:CC.FM bJ R "Hand" "stands" bx 1:=⟨17,3,["self"],W⟩
noncomputable instance:CC.FM bJ R "Hand" "is_waiting" bN 2:=⟨18,3,["self","key"],W⟩
noncomputable instance:CC.FM bJ R "Hand" "has_act" bC 2:=⟨19,3,["self","act"],W⟩
noncomputable instance:CC.FM bJ R "Hand" "come" bp 3:=⟨20,4,["self","key","act"],W⟩
noncomputable instance:CC.FM bJ R "Hand" "go" iA 2:=⟨21,4,["self","key"],W⟩
noncomputable instance:CC.FM bJ R "Hand" "decide" cB 1:=⟨22,5,["self"],W⟩
noncomputable instance:CC.FM bJ R "Hand" "makes_chord" cS 2:=⟨23,4,["self","key"],W⟩
noncomputable instance:CC.FM bJ R "Hand" "put_to_chord" cM 2:=⟨24,6,["self","key"],W⟩
noncomputable instance:CC.FM bJ R "Hand" "begin" eG 2:=⟨25,5,["self","key"],W⟩
noncomputable instance:CC.FM bJ R "Hand" "press" gf 2:=⟨26,7,["self","key"],W⟩
noncomputable instance:CC.FM bJ R "Hand" "settle" eZ 2:=⟨27,6,["self","key"],W⟩
noncomputable instance:CC.FM bJ R "Hand" "lift" gU 2:=⟨28,7,["self","key"],W⟩
noncomputable instance:CC.FM bJ R "Hand" "wait_on" eN 1:=⟨29,6,["self"],W⟩
noncomputable instance:CC.Fn bJ CC.fdS STP.df 3:=⟨30,8,"step",["bed","standing","event"],W⟩
noncomputable instance:CC.Fn bJ CC.Xe df 3:=⟨31,8,"step",["bed","standing","event"],W⟩
noncomputable instance:CC.Fn bJ CC.Xe c8 3:=⟨32,9,"_law_unlike",["_law_one","_law_other","_law_pair"],W⟩
noncomputable instance:CC.FM bJ S "Places" "enter" bL 4:=⟨33,3,["self","place","back","event"],W⟩
noncomputable instance:CC.FKE bJ "Places" cy 3:=⟨34,4,["self","first","most"],W⟩
noncomputable instance:CC.FM bJ R "Places" "way_to" ci 2:=⟨35,3,["self","number"],W⟩
noncomputable instance:CC.Fn bJ (CC.fdD []) gF 3:=⟨36,9,"same",["one","other","most"],W⟩
noncomputable instance:CC.Fn bJ CC.fdS cT 3:=⟨37,9,"_law_pairs",["_law_one","_law_other","_law_cap"],W⟩
noncomputable instance:CC.Fn bJ CC.fdS bG 2:=⟨38,11,"_law_same",["_law_one","_law_other"],W⟩
noncomputable instance k1:CC.CS bJ (CC.so gC):=by delta gC;infer_instance
def e1:CC.V6 bJ (CC.so gC) iK ["standing"] ["standing"] (top 8) 0 1 R=S:=by left
noncomputable instance k2:CC.CS bJ (CC.so fM):=by delta fM;infer_instance
def e2:CC.V6 bJ (CC.so fM) iK ["bed","layer","key","meaning"] ["bed","layer","key"] (top 11) 0 2 R=S:=by left
noncomputable instance k3:CC.CS bJ (CC.so dM):=by delta dM;infer_instance
def e3:CC.V6 bJ (CC.so dM) iK ["bed","keys"] ["bed","keys"] (top 12) 0 3 R=S:=by left
noncomputable instance k4:CC.CS bJ (CC.so eA):=by delta eA;infer_instance
def e4:CC.V6 bJ (CC.so eA) iK ["bed","keys","chord"] ["bed","keys"] (top 13) 0 4 R=S:=by left
noncomputable instance k5:CC.CS bJ (CC.so gJ):=by delta gJ;infer_instance
def e5:CC.V6 bJ (CC.so gJ) iK ["_law_script","_law_k"] ["_law_script","_law_k"] (top 20) 0 5 R=S:=by left
noncomputable instance k6:CC.CS bJ (CC.so d4):=by delta d4;infer_instance
def e6:CC.V6 bJ (CC.so d4) iK ["_law_cell_here","_law_salt","_law_many","_law_turn","_law_number"] ["_law_cell_here","_law_salt","_law_many"] (top 21) 0 6 R=S:=by left
noncomputable instance k7:CC.CS bJ (CC.so fA):=by delta fA;infer_instance
def e7:CC.V6 bJ (CC.so fA) iK ["_law_cell_here","_law_salt"] ["_law_cell_here","_law_salt"] (top 22) 1 7 R=S:=by left
noncomputable instance k8:CC.CS bJ (CC.so cO):=by delta cO;infer_instance
def e8:CC.V6 bJ (CC.so cO) iK ["_law_cell_here","_law_layer","_law_many","_law_way","_law_level"] ["_law_cell_here","_law_layer","_law_many"] (top 23) 2 8 R=S:=by left
noncomputable instance k9:CC.CS bJ (CC.so c9):=by delta c9;infer_instance
def e9:CC.V6 bJ (CC.so c9) iK ["_law_cell_here","_law_keys_here","_law_first","_law_found","_law_mask","_law_some","_law_good"] ["_law_cell_here","_law_keys_here","_law_first"] (top 24) 1 9 R=S:=by left
noncomputable instance k10:CC.CS bJ (CC.so eX):=by delta eX;infer_instance
def Ul:CC.V6 bJ (CC.so eX) iK ["_law_script","_law_at","_law_keys_here","_law_cell_here","_law_many","_law_layers","_law_layer","_law_cells","_law_chords_here"] ["_law_script","_law_at","_law_keys_here"] (top 25) 3 10 R=S:=by left
noncomputable instance k11:CC.CS bJ (CC.so gP):=by delta gP;infer_instance
def TV:CC.V6 bJ (CC.so gP) iK ["_law_script"] ["_law_script"] (top 26) 1 11 R=S:=by left
noncomputable instance k12:CC.CS bJ (CC.so iC):=by delta iC;infer_instance
def TY:CC.V6 bJ (CC.so iC) iK ["_law_row","_law_at","_law_thing"] ["_law_row","_law_at","_law_thing"] (top 28) 0 12 R=S:=by left
noncomputable instance k13:CC.CS bJ (CC.so bV):=by delta bV;infer_instance
def Ur:CC.V6 bJ (CC.so bV) iK ["_law_script","_law_bed_here","_law_keys_here","_law_layers","_law_chords_here","_law_wait","_law_cell_here","_law_way","_law_layer","_law_key","_law_meaning_here","_law_letter_here"] ["_law_script","_law_bed_here"] (top 29) 4 13 R=S:=by left
noncomputable instance k14:CC.CS bJ (CC.so fw):=by delta fw;infer_instance
def Uc:CC.V6 bJ (CC.so fw) iK ["_law_bed_here","_law_found","_law_word","_law_key"] ["_law_bed_here"] (top 27) 0 14 R=S:=by left
noncomputable instance k15:CC.CS bJ (CC.so fH):=by delta fH;infer_instance
def T3:CC.V6 bJ (CC.so fH) iK ["bed","downs","ups"] ["bed"] (top 15) 0 15 R=S:=by left
noncomputable instance k16:CC.CS bJ (CC.WJ dU):=by delta dU;infer_instance
def Ud:CC.V6 bJ (CC.WJ dU) iK ["self","bed","standing"] ["self","bed","standing"] (aN (top 10) 0) 2 16 R=S:=by left
noncomputable instance k17:CC.CS bJ (CC.WJ fD):=by delta fD;infer_instance
def TW:CC.V6 bJ (CC.WJ fD) iK ["self"] ["self"] (aN (top 10) 1) 2 17 R=S:=by left
noncomputable instance k18:CC.CS bJ (CC.WJ di):=by delta di;infer_instance
def T8:CC.V6 bJ (CC.WJ di) iK ["self","key"] ["self","key"] (aN (top 10) 2) 2 18 R=S:=by left
noncomputable instance k19:CC.CS bJ (CC.WJ eF):=by delta eF;infer_instance
def T1:CC.V6 bJ (CC.WJ eF) iK ["self","act"] ["self","act"] (aN (top 10) 13) 2 19 R=S:=by left
noncomputable instance k20:CC.CS bJ (CC.WJ gS):=by delta gS;infer_instance
def Ug:CC.V6 bJ (CC.WJ gS) iK ["self","key","act"] ["self","key","act"] (aN (top 10) 11) 3 20 R=S:=by left
noncomputable instance k21:CC.CS bJ (CC.WJ jF):=by delta jF;infer_instance
def T0:CC.V6 bJ (CC.WJ jF) iK ["self","key","act"] ["self","key"] (aN (top 10) 12) 3 21 R=S:=by left
noncomputable instance k22:CC.CS bJ (CC.WJ fq):=by delta fq;infer_instance
def TU:CC.V6 bJ (CC.WJ fq) iK ["self","keys","what","acts","key","act"] ["self"] (aN (top 10) 10) 4 22 R=S:=by left
noncomputable instance k23:CC.CS bJ (CC.WJ cU):=by delta cU;infer_instance
def TJ:CC.V6 bJ (CC.WJ cU) iK ["self","key"] ["self","key"] (aN (top 10) 4) 3 23 R=S:=by left
noncomputable instance k24:CC.CS bJ (CC.WJ cN):=by delta cN;infer_instance
def TX:CC.V6 bJ (CC.WJ cN) iK ["self","key","keys"] ["self","key"] (aN (top 10) 5) 5 24 R=S:=by left
noncomputable instance k25:CC.CS bJ (CC.WJ gh):=by delta gh;infer_instance
def TF:CC.V6 bJ (CC.WJ gh) iK ["self","key","layer","meaning","word"] ["self","key"] (aN (top 10) 6) 4 25 R=S:=by left
noncomputable instance k26:CC.CS bJ (CC.WJ gl):=by delta gl;infer_instance
def T9:CC.V6 bJ (CC.WJ gl) iK ["self","key"] ["self","key"] (aN (top 10) 3) 6 26 R=S:=by left
noncomputable instance k27:CC.CS bJ (CC.WJ fF):=by delta fF;infer_instance
def TC:CC.V6 bJ (CC.WJ fF) iK ["self","key","what"] ["self","key"] (aN (top 10) 8) 5 27 R=S:=by left
noncomputable instance k28:CC.CS bJ (CC.WJ gK):=by delta gK;infer_instance
def T6:CC.V6 bJ (CC.WJ gK) iK ["self","key"] ["self","key"] (aN (top 10) 7) 6 28 R=S:=by left
noncomputable instance k29:CC.CS bJ (CC.WJ ei):=by delta ei;infer_instance
def TK:CC.V6 bJ (CC.WJ ei) iK ["self","age"] ["self"] (aN (top 10) 9) 5 29 R=S:=by left
noncomputable instance k30:CC.CS bJ (CC.WJ STP.sF):=by delta STP.sF;infer_instance
def Tg:CC.V6 bJ (CC.WJ STP.sF) iK ["bed","standing","event","hand"] ["bed","standing","event"] (top 9) 7 30 R=S:=by left
noncomputable instance k32:CC.CS bJ (CC.so fy):=by delta fy;infer_instance
def Uj:CC.V6 bJ (CC.so fy) iK ["_law_one","_law_other","_law_pair","_law_event"] ["_law_one","_law_other","_law_pair"] (top 31) 8 32 R=S:=by left
noncomputable instance k33:CC.CS bJ (CC.WJ bM):=by delta bM;infer_instance
def Ty:CC.V6 bJ (CC.WJ bM) iK ["self","place","back","event"] ["self","place","back","event"] (aN (top 16) 1) 2 33 S=S:=by left
noncomputable instance k34:CC.CS bJ (CC.WJ bE):=by delta bE;infer_instance
def Uo:CC.V6 bJ (CC.WJ bE) iK ["self","first","most"] ["self","first","most"] (aN (top 16) 0) 3 34 S=S:=by left
noncomputable instance k35:CC.CS bJ (CC.WJ cY):=by delta cY;infer_instance
def Mu:CC.V6 bJ (CC.WJ cY) iK ["self","number","row","place"] ["self","number"] (aN (top 16) 2) 2 35 R=S:=by left
noncomputable instance k36:CC.CS bJ (CC.WJ pd):=by delta pd;infer_instance
def QT:CC.V6 bJ (CC.WJ pd) iK ["one","other","most","events","pairs","number","standings","event","first","second"] ["one","other","most"] (top 18) 8 36 S=S:=by left
noncomputable instance k37:CC.CS bJ (CC.WJ d8):=by delta d8;infer_instance
def TQ:CC.V6 bJ (CC.WJ d8) iK ["_law_one","_law_other","_law_cap","_law_found","_law_known","_law_at","_law_event","_law_behind"] ["_law_one","_law_other","_law_cap"] (top 30) 8 37 R=S:=by left
noncomputable instance k39:CC.CS bJ (CC.WJ uL):=by delta uL;infer_instance
def Up:CC.V6 bJ (CC.WJ uL) iK ["_law_script","_law_one","_law_other","_law_found","_law_about","_law_some","_law_known","_law_near"] ["_law_script"] (top 33) 11 39 R=S:=by left
end K52
namespace L2
open PySem PySem.Spec PyProof.Rows
section
variable{Z:St}{H:Hp}{Q:VK}{D:Ends}
theorem IQ{K:lD}{c b:TE}{f:Str}(h:b Z H λy H1=>c Z H1 λx e=>∃a C d fs,x=.ref a/\e a=M (.ins C d fs)/\Cls K C/\X8 K C f/\fs.length<1000/\D.nx Z (aX e a (.ins C d (gY f y fs)))):N7 K c b f D Z H:=h
theorem Nu{c:TT}{t u:TE}(h:c Z H λb H1=>if b=S then t Z H1 Q else u Z H1 Q):Sj c t u Z H Q:=h
theorem M4{K:lD}{b:TE}{f:Str}(h:b Z H λx H1=>∃a C c fs v,x=.ref a/\H1 a=M (.ins C c fs)/\Cls K C/\X8 K C f/\fs.lookup f=M v/\Q v H1):OM K b f Z H Q:=h
theorem Iu{C:I}{m:Str}{sp:Sp}{E:XK}{b:TE}{t:TA}(h:b Z H λx H1=>∃a d fs,x=.ref a/\H1 a=M (.ins C d fs)/\fs.lookup m=P/\t Z H1 λc e=>sp (x::(c++[])) e Q E):sd C m sp [] E b t Z H Q:=h
theorem Hw{C:I}{sp:Sp}{E:XK}{t:TA}(h:t Z H λb H1=>∀x a,H1 x=P->H1 a=P->a≠x->sp (.ref x::(b++[])) (aX (aX H1 a (.own x)) x (.ins C a [])) (λv c=>v=.WL/\Q (.ref x) c) E):we C sp [] E t Z H Q:=h
end
end L2
local macro_rules| `(tactic|ext:7)=> `(tactic|repeat (first
 |specialize L2.NQ ?_
 |specialize L2.Pf ?_
 |specialize L2.IQ ?_
 |specialize L2.Nu ?_
 |specialize L2.M4 ?_
 |specialize L2.Iu ?_
 |specialize L2.Hw ?_
 |specialize L2.Je ?_
 |((with_reducible show L2.qK _ _ _ _);refine⟨_,rfl,?_⟩)
 |specialize L2.ST ?_
 |specialize L2.ajD ?_
 |specialize L2.ajO ?_
 |specialize L2.ajT ?_
 |specialize L2.aow ?_
 |((specialize L2.alC ?_ ?_);first|exact⟨by decide,by decide⟩|exact⟨by decide,by decide,by decide⟩|exact(show(0:Int)<_ by decide)|exact⟨by decide,by left⟩)
 |((specialize L2.aku ?_ ?_);exact rfl)
 |((specialize L2.akk ?_ ?_);exact rfl)
 |specialize L2.ajm ?_
 |specialize L2.HE ?_
 |specialize L2.ajo ?_
 |specialize L2.ahm ?_
 |specialize L2.afA ?_
 |specialize L2.agO ?_
 |specialize L2.agL ?_
 |specialize L2.amr ?_
 |specialize L2.ajC ?_
 |specialize L2.ahV ?_
 |specialize L2.aj6 ?_
 |specialize L2.aif ?_
 |specialize L2.ag9 ?_
 |specialize L2.aio ?_
 |specialize L2.ag7 ?_
 |specialize L2.aiq ?_
 |specialize L2.agX ?_
 |specialize L2.akA ?_
 |specialize L2.ahj ?_
 |specialize L2.aiY ?_
 |specialize L2.aic ?_
 |specialize L2.alc ?_
 |specialize L2.ajB ?_
 |specialize L2.afc ?_
 |specialize L2.agC ?_
 |specialize L2.ah2 ?_
 |specialize L2.afG ?_
 |specialize L2.afM ?_
 |specialize L2.ahs ?_
 |specialize L2.agy ?_
 |specialize L2.aik ?_
 |specialize L2.agF ?_
 |specialize L2.ahp ?_
 |specialize L2.aga ?_
 |specialize L2.ag6 ?_
 |specialize L2.afL ?_
 |specialize L2.ag4 ?_
 |specialize L2.agR ?_))
namespace K52
open PySem L2
section
open L3 L4
variable{P:UZ}{w:Vf}{K:lD}{mg:Str->bg Ut}{base:Heap}{f:Uz}{Y:VG}
theorem jZ:WK ["self","most"] ["self","most"] (az (aN (top 2) 0)):=⟨W,W,W,by left,W,by left,by left⟩
def Bq{C B fI:I}(F:ZL K "__init__" "TooMany.__init__" (aN (top 2) 0) f Y)(n:L9.XC K C B fI)(j:mg "BedError"=M (.ref B))(d:ZH K B (.type "type")=S)(l:ZI K (.ref B) (.type "type") "__init__"=M (.val (.builtin "ValueError.__init__")))
  (b:Xf K (.ref B) "__getattribute__"=M (M (.builtin "type.__getattribute__"))) (i:Vt K (.ref C) "most"=M Ld):FnOk P w K mg base jY 1 f Y ["self","most"] (L9.tT C "most"):=by
 show F.ok jZ (λu H Q E h=>?_) (λt A a s H u Q E r h=>?_)
 .let(_,_,rfl,_):=h;rfl
 let(e,v,rfl,o,m,q):=h;show⟨_,(lM (Am (L9.EK W j d l b n (fu (pv 0) (fu (L9.JU (L9.NK () (L9.MJ (pv 1) L9.L6)) ()) km)))) (lG (L9.Jw n i (pv 0) (pv 1) W))),?_⟩;ext:7;show⟨V.ref e,W,v,W,o,λy=>⟨e,y,W,m,?_⟩⟩;show⟨v,W,V.ref e,W,e,W,m,λp i g=>q p i g⟩
end
end K52
namespace K52
open PySem L2
section
variable{P:UZ}{w:Vf}{K:lD}{mg:Str->bg Ut}{base:Heap}{f:Uz}{fd:VG}
theorem gn:WK ["_law_one","_law_other","_law_found"] ["_law_one","_law_other"] (az (top 32)):=⟨W,W,W,by left,W,by left,by left⟩
def uf{C:Uz}{m:bb Ut}(F:ZL K "_law_same" "_law_same" (top 32) f fd)(M:L3.Dv P w K mg base (L4.kK P w) 9 "same" ["one","other","most"] [] (L10.jR K 3 gF))
  (V:mg "TooMany"=cL (.ref C)) (N:L4.vg K C m) (D:m.contains (.type "BaseException")=Uv) (k:U8 K UY "TooMany"=cL (cL (.ref C))):
  FnOk P w K mg base jY 11 f fd ["_law_one","_law_other"] (L10.jR K 2 bG):=by
 show F.ok gn (λvs H Q E h=>h.1) (λWo A y s H vs Q E S h=>?_);let hu:=S.units;let(hl,B,α,ω,xs,so,z,g):=h;let ev:∀{E2:XK},L10.ce K E2 (lY (L10.jR K 3 gF) [] E2 (fZ (qK 0) (fZ (qK 1) (fZ (tC (.int 80)) jf)))) (L10.NU gF 3 (L10.aj (L10.ar 0) (L10.aj (L10.ar 1) (L10.aj (L10.ag (L3.pC (.int 80))) L10.aG)))):=L10.DN (L10.kX L10.tS (L10.kX L10.tS (L10.kX (L10.wu (L3.Ay λ_ _=>.int _)) L10.sI)));obtain⟨b,c,rfl⟩:∃b c,xs=[.fz b,.fz c]:=by
  unfold bG at g;split at g
  .show⟨_,_,W⟩
  .show g.elim
 obtain⟨r,q,rfl,L,J⟩:∃r q,vs=[r,q]/\L3.DV (L10.ow B α ω) K H r b/\L3.DV (L10.ow B α ω) K H q c:=by
  cases z with
  |cons L r0=>cases r0 with
   |cons J Z=>ext Z;show⟨_,_,W,L,J⟩
 let Y:L10.W7 (L10.ow B α ω) K H α [cL r,cL q,cL .WL] [-(b),-(c),-(.none)]:=⟨W,λi x h=>by
  match i,h with
  |0,h=>ext h;show⟨r,W,L⟩
  |1,h=>ext h;show⟨q,W,J⟩
  |2,h=>ext h;show⟨.WL,W,.WL⟩
  |i+3,h=>ext h⟩
 suffices key:∃E2:XK,(∀c dx j,E2 c dx j->c=Ut.ref C)/\L10.WS K E2 B H α ω (L10.PQ B K Q) (gF [.fz b,.fz c,.fz (.int 80)] ω)/\∀c dx j,E2 c dx j->Q .WL j by
  let(E2,k1,k2,k3):=key;show⟨_,(lM (qA (i:=2) gn.nd W (Or.inl W) xp)
   (lM (L4.IZ (E2:=E2) W W W W V N D
    (λl=>lG (qA (i:=2) gn.nd W (Or.inl W) (L3.IV M S (L4.xW W) (fu (pv 0) (fu (pv 1) (fu xX km))))))
    (λl e=>lG (qA (i:=2) gn.nd W (Or.inl W) xp))
    (λc dx j h=>⟨C,m,k1 c dx j h,N,by rw[Zo,eg,Xn]⟩))
   (lG (Ff (pv 2))))),?_⟩
  ext:7;ext L4.KJ;show⟨?_,λc dx j h2 p hs=>?_⟩
  .show ev B _ H α ω _ _ so Y (L10.WS.imp (show L10.WS K E2 B H α ω (L10.PQ B K Q) (L10.NU gF 3 (L10.aj (L10.ar 0) (L10.aj (L10.ar 1) (L10.aj (L10.ag (L3.pC (.int 80))) L10.aG))) [-(b),-(c),-(.none)] ω)from k2) λx U T j e1 t X v z=>⟨v,W,X v z⟩)
  .obtain⟨R,t,O,rfl⟩:∃R t O,p=[R,t,O]:=by
    match p,hs with
    |[a,c,d],_=>show⟨a,c,d,W⟩
   show⟨.WL,W,k3 c dx j h2⟩
 unfold bG at g;dsimp only at g;cases h1:gF [.fz b,.fz c,.fz (.int 80)] ω with
 |bad=>rw[h1]at g;show g.elim
 |er x o=>
  rw[h1]at g;dsimp only at g;by_cases G:x.cls=("TooMany":Str)
  .rw[ax G]at g;show⟨λc dx j=>∃n,L10.Wm α ω H n o j/\L10.Vc B K j n o/\c=.ref C,λc dx j ⟨_,_,_,h⟩=>h,?_,λc dx j ⟨n,e1,t,_⟩=>g n j e1 t .WL .WL⟩;rintro c dx n H' I u ⟨⟨a',e1,e2⟩,_⟩;rw[G]at e2;let e3:=k.symm.trans e2;ext e3;show⟨n,I,u,e1⟩
  .rw[aE G]at g;show g.elim
 |ok x o=>rw[h1]at g;show⟨λ_ _ _=>False,λ_ _ _ h=>h.elim,g,λ_ _ _ h=>h.elim⟩
end
end K52
theorem SR{α:Type}:∀{l:G α},l.length=1->∃a,l=[a]
 |[a],_=>⟨a,W⟩
theorem SI{α:Type}:∀{l:G α},l.length=2->∃a b,l=[a,b]
 |[a,b],_=>⟨a,b,W⟩
theorem Tu{α:Type}:∀{l:G α},l.length=3->∃a b c,l=[a,b,c]
 |[a,b,c],_=>⟨a,b,c,W⟩
theorem Ui{α:Type}:∀{l:G α},l.length=4->∃a b c d,l=[a,b,c,d]
 |[a,b,c,d],_=>⟨a,b,c,d,W⟩
local macro_rules| `(tactic|ext:3)=> `(tactic|(intro _ _ _ _ _ _ us hl;first|(obtain⟨_,h⟩:=SR hl;subst h;kernel_rfl)|(obtain⟨_,_,h⟩:=SI hl;subst h;kernel_rfl)|(obtain⟨_,_,_,h⟩:=Tu hl;subst h;kernel_rfl)|(obtain⟨_,_,_,_,h⟩:=Ui hl;subst h;kernel_rfl)|(match us,hl with|[_,_,_,_,_],_=>rfl)|(match us,hl with|[_,_,_,_,_,_],_=>rfl)|(match us,hl with|[],_=>rfl)))| `(tactic|ext:8)=> `(tactic|(intro _ _ _ _ _ _ us hl;first|((have h1:us.length=1:=by simpa using hl);obtain⟨_,h⟩:=SR h1;subst h;exact⟨_,rfl,rfl⟩)|((have h1:us.length=2:=by simpa using hl);obtain⟨_,_,h⟩:=SI h1;subst h;exact⟨_,rfl,rfl⟩)|((have h1:us.length=3:=by simpa using hl);obtain⟨_,_,_,h⟩:=Tu h1;subst h;exact⟨_,rfl,rfl⟩)|((have h1:us.length=4:=by simpa using hl);(match us,h1 with|[_,_,_,_],_=>exact⟨_,rfl,rfl⟩))))| `(tactic|ext:5)=> `(tactic|first|exact List.forall_mem_nil _|(refine List.forall_mem_cons.mpr ⟨?_,?_⟩;(·first|(show Vt _ _ _=_;k_is)|(show U8 _ _ _=_;k_is));ext:5))| `(tactic|ext:9)=> `(tactic|first|(refine' L3.NI.mk ?a' ⟨_,L2.En ?b' ?c' ?d'⟩;(case a'=>k_is);(case b'=>k_is);(case c'=>k_is);(case d'=>k_is))|(refine' L3.MI.mk ?a' ?e' ⟨_,L2.En ?b' ?c' ?d'⟩;(case a'=>k_is);(case e'=>k_is);(case b'=>k_is);(case c'=>k_is);(case d'=>k_is))|(refine' L3.CI.mk ?a' ?b' ?c' ?d' ?e' ?f' ?g' ?i';(case a'=>k_is);(case b'=>k_is);(case c'=>k_is);(case d'=>k_is);(case e'=>k_is);(case f'=>k_is);(case g'=>k_is);(case i'=>ext:5))|(refine' L3.DI.mk ?a' ⟨_,L3.J9 ?b' ?c' ?d' ?e'⟩;(case a'=>k_is);(case b'=>k_is);(case c'=>k_is);(case d'=>k_is);(case e'=>k_is))|k_is|k_exc|rfl|ext:5|left|(rw[<-Array.all_toList];rfl))
namespace K52
open PySem L2 L3 CC
def F_lawH:FN:=L10.Q1 F_law
def all_mk{l:ach}{w:Vf}{K:lD}{h:Heap}{c:Str->bg Ut}{fa:Uz}
  {acA:Tok}
  {V:Uz} {adB:Nat} {adI:Array (bg Ut)}
  {ab3:Tok}
  {abO:Uz} {acI:Nat} {acY:Array (bg Ut)}
  {YG:Uz} {aav:Nat} {aax:Array (bg Ut)}
  {aam:Uz} {aby:Nat} {abr:Array (bg Ut)}
  {aet:Uz} {ab8:Tok}
  {f0 f1 f2 f3 f4 f5 f6 f7 f8 f9 f10 f11 f12 f13 f14 f15 f16 f17 f18 f19 f20 d f22 f23 f24 f25 f26 f27 f28 f29 f30 f31 f32 f33 f34 f35 g f37 f38 f39 o:Uz}
  {j m:Uz}
  {nmR qR:Str} {NR:Uz} {bsR:bb Ut} {snR:bb Str} {aiz:bb Ut} {abR:Bool} {ahQ:bg Bool} {ddR:bg Uz} {k0R k1R k2R k3R k5R:bg Ut}
  {ocN:Ut} {odN:bg Uz} {F:Array Xt} {nN:Nat} {slN:Array (bg Ut)} (X:K.In h) (G:h.Ns UY c) (hfa:c "law"=cL (.ref fa))
  (h0:NI K f0 "layer_of" (top 8))
  (h1:NI K f1 "looked_up" (top 11))
  (h2:NI K f2 "chords_over" (top 12))
  (h3:NI K f3 "chord_acts" (top 13))
  (h4:NI K f4 "_law_cell" (top 20))
  (h5:NI K f5 "_law_take" (top 21))
  (h6:NI K f6 "_law_letter" (top 22))
  (h7:NI K f7 "_law_meaning" (top 23))
  (h8:NI K f8 "_law_chords" (top 24))
  (h9:NI K f9 "_law_bed" (top 25))
  (h10:NI K f10 "_law_keys" (top 26))
  (h11:NI K f11 "_law_put" (top 28))
  (h12:NI K f12 "_law_other_bed" (top 29))
  (h13:NI K f13 "_law_events" (top 27))
  (h14:NI K f14 "events_of" (top 15))
  (h15:NI K f15 "_law_unlike" (top 31))
  (D:NI K f16 "step" (top 9))
  (h17:DI K f17 aet "same" (top 18) #v[.int 400 ab8])
  (h18:NI K f18 "_law_pairs" (top 30))
  (h19:NI K f19 "_law_same" (top 32))
  (h20:NI K f20 "law" (top 33))
  (b:CI K d "Hand" ["bed","acts","waiting","once","sent"])
  (h22:MI K d f22 "__init__" "Hand.__init__" (aN (top 10) 0))
  (h23:MI K d f23 "stands" "Hand.stands" (aN (top 10) 1))
  (h24:MI K d f24 "is_waiting" "Hand.is_waiting" (aN (top 10) 2))
  (h25:MI K d f25 "has_act" "Hand.has_act" (aN (top 10) 13))
  (h26:MI K d f26 "come" "Hand.come" (aN (top 10) 11))
  (h27:MI K d f27 "go" "Hand.go" (aN (top 10) 12))
  (h28:MI K d f28 "decide" "Hand.decide" (aN (top 10) 10))
  (h29:MI K d f29 "makes_chord" "Hand.makes_chord" (aN (top 10) 4))
  (h30:MI K d f30 "put_to_chord" "Hand.put_to_chord" (aN (top 10) 5))
  (h31:MI K d f31 "begin" "Hand.begin" (aN (top 10) 6))
  (h32:MI K d f32 "press" "Hand.press" (aN (top 10) 3))
  (h33:MI K d f33 "settle" "Hand.settle" (aN (top 10) 8))
  (h34:MI K d f34 "lift" "Hand.lift" (aN (top 10) 7))
  (h35:MI K d f35 "wait_on" "Hand.wait_on" (aN (top 10) 9))
  (f:CI K g "Places" ["most","found","numbers"])
  (h37:MI K g f37 "enter" "Places.enter" (aN (top 16) 1))
  (h38:MI K g f38 "__init__" "Places.__init__" (aN (top 16) 0))
  (h39:MI K g f39 "way_to" "Places.way_to" (aN (top 16) 2))
  (Y9:U8 K UY "TooMany"=cL (cL (.ref j)))
  (aaP:U8 K UY "BedError"=cL (cL (.ref m)))
  (xR:K.lookup j=cL (excClassObj nmR qR j NR bsR (.ref m::[.type "ValueError",.type "Exception",.type "BaseException",.type "object"]) Uv snR aiz abR ahQ ddR k0R k1R k2R k3R k5R "ValueError.__new__"))
  (eI:Xu K m [.type "ValueError",.type "Exception",.type "BaseException",.type "object"] "ValueError.__new__"=Uv)
  (lN:K.lookup NR=cL ⟨ocN,odN,.dict F nN,slN⟩)
  (KL:(F.all λe=>match e.key with|.str _ _=>Uv|_=>Ux)=Uv)
  (inN:U8 K NR "__init__"=cL (cL (.ref o)))
  (saR:Vt K (.ref j) "__setattr__"=cL (cL (.builtin "object.__setattr__")))
  (plR:Vt K (.ref j) "most"=cL Ld)
  (rdB:ZH K m (.type "type")=Uv)
  (fcB:ZI K (.ref m) (.type "type") "__init__"=cL (.val (.builtin "ValueError.__init__")))
  (EX:Xf K (.ref m) "__getattribute__"=cL (cL (.builtin "type.__getattribute__")))
  (k:MI K j o "__init__" "TooMany.__init__" (aN (top 2) 0))
  (adG:U8 K UY "NONE"=cL (cL (.ref V)))
  (acP:U8 K UY "CHORD"=cL (cL (.ref abO)))
  (abB:U8 K UY "AT_REST"=cL (cL (.ref aam)))
  (abz:K.lookup aam=cL ⟨.type "tuple",Ld,.seq #v[.ref YG,.none,.none] aby,abr⟩)
  (aau:K.lookup YG=cL ⟨.type "tuple",Ld,.seq #v[] aav,aax⟩)
  (acV:K.lookup abO=cL ⟨.type "tuple",Ld,.seq #v[.str "chord" ab3] acI,acY⟩)
  (adu:K.lookup V=cL ⟨.type "tuple",Ld,.seq #v[.str "none" acA] adB,adI⟩)
  (yb:∀x∈iK.bl,U8 K UY x=cL Ld):
  ∃fd:VG,(∀(s:UC) (v:Ut),YZ s fd ⟨[v],[]⟩ [("_law_script",v)])/\∀base:Heap,K.In base->base.Ns UY c->FnOk l.prog w K c base jY 12 fa fd ["_law_script"] (L3.zJ K 1 F_lawH):=by
 let aeC:=Ib (xs:=[.str "none"]) (ds:=[(.str "none")]) adu (by show 1<=UK;decide) (.cons ⟨_,rfl⟩ .nil) λO H=>(.cons (.str _) .nil);let adq:=Ib (xs:=[.str "chord"]) (ds:=[(.str "chord")]) acV (by show 1<=UK;decide) (.cons ⟨_,rfl⟩ .nil) λO H=>(.cons (.str _) .nil);let aaZ:=Ib (xs:=[]) (ds:=[]) aau (by show 0<=UK;decide) .nil λO H=>.nil;let ab4:=Ib (xs:=[.ref YG,.WL,.WL]) (ds:=[(.tuple []),.none,.none]) abz (by show 3<=UK;decide) (.cons rfl (.cons rfl (.cons rfl .nil))) λO H=>(.cons (aaZ O H) (.cons .WL (.cons .WL .nil)));show h20.law X G hfa (by ext:3) λbase fd aeu=>?_;let W:Tp l.prog w K c base h:=⟨X,G⟩;let KL:ZW K NR=Uv:=by ext ZW;rw[lN];show KL
 let XR:L4.vg K j (.ref m::[.type "ValueError",.type "Exception",.type "BaseException",.type "object"]):=⟨_,_,_,_,_,_,_,_,_,_,_,_,_,_,_,_,xR⟩;let Z0:L9.XC K j m o:=⟨⟨_,_,_,_,_,_,_,_,_,_,_,_,_,_,xR,KL,inN⟩,eI,saR⟩;let YQ:=Wx X G Y9;let abu:=Wx X G aaP;let(fdI,zI):=k.F;let(_,_,_,_,_,_,_,_,_,rfl,abD,_):=zI.ex;let abk:=k.i;let abq:=Bq (P:=l.prog) (w:=w) (mg:=c) (base:=base) zI Z0 abu rdB fcB EX plR;let abE:=zI.binds (ps:=["self","most"]) (by ext:3);let a:aaV K c iK:=⟨λx hx=>PySem.W.mg_none_of X G (yb x hx),CC.exN,(CC.csC (CC.csW (Wx X G adG) aeC) (CC.csC (CC.csW (Wx X G acP) adq) (CC.csC (CC.csW (Wx X G abB) ab4) CC.csN))),(CC.clC b.cf (CC.clC f.cf CC.clN))⟩;let s0:=CC.fs0 (T:=bJ) (P:=l.prog) (w:=w) (K:=K) (mg:=c) (base:=base);let s1:=CC.Yp s0 rfl (⟨_,_,_,_,_,_,Z0,abD,abk,abq,abE,Y9,YQ⟩);let s2:=CC.Yp s1 rfl (h0.c W λ_ z=>CC.YW a s1 z e1);let s3:=CC.Yp s2 rfl (h1.c W λ_ z=>CC.YW a s2 z e2);let s4:=CC.Yp s3 rfl (h2.c W λ_ z=>CC.YW a s3 z e3);let s5:=CC.Yp s4 rfl (h3.c W λ_ z=>CC.YW a s4 z e4);let s6:=CC.Yp s5 rfl (h4.c W λ_ z=>CC.YW a s5 z e5);let s7:=CC.Yp s6 rfl (h5.c W λ_ z=>CC.YW a s6 z e6);let s8:=CC.Yp s7 rfl (h6.c W λ_ z=>CC.YW a s7 z e7);let s9:=CC.Yp s8 rfl (h7.c W λ_ z=>CC.YW a s8 z e8);let s10:=CC.Yp s9 rfl (h8.c W λ_ z=>CC.YW a s9 z e9);let s11:=CC.Yp s10 rfl (h9.c W λ_ z=>CC.YW a s10 z Ul);let s12:=CC.Yp s11 rfl (h10.c W λ_ z=>CC.YW a s11 z TV);let s13:=CC.Yp s12 rfl (h11.c W λ_ z=>CC.YW a s12 z TY);let s14:=CC.Yp s13 rfl (h12.c W λ_ z=>CC.YW a s13 z Ur);let i:=CC.Yp s14 rfl (h13.c W λ_ z=>CC.YW a s14 z Uc);let Z:=CC.Yp i rfl (h14.c W λ_ z=>CC.YW a i z T3);let Y:=CC.Yp Z rfl (h22.k b W λ_ z=>CC.Yo a Z z Ud);let U:=CC.Yp Y rfl (h23.mt b W λ_ z=>CC.Yo a Y z TW);let S:=CC.Yp U rfl (h24.mt b W λ_ z=>CC.Yo a U z T8);let R:=CC.Yp S rfl (h25.mt b W λ_ z=>CC.Yo a S z T1);let Q:=CC.Yp R rfl (h26.mt b W λ_ z=>CC.Yo a R z Ug);let N:=CC.Yp Q rfl (h27.mt b W λ_ z=>CC.Yo a Q z T0);let M:=CC.Yp N rfl (h28.mt b W λ_ z=>CC.Yo a N z TU);let L:=CC.Yp M rfl (h29.mt b W λ_ z=>CC.Yo a M z TJ);let J:=CC.Yp L rfl (h30.mt b W λ_ z=>CC.Yo a L z TX);let I:=CC.Yp J rfl (h31.mt b W λ_ z=>CC.Yo a J z TF);let E:=CC.Yp I rfl (h32.mt b W λ_ z=>CC.Yo a I z T9);let C:=CC.Yp E rfl (h33.mt b W λ_ z=>CC.Yo a E z TC);let B:=CC.Yp C rfl (h34.mt b W λ_ z=>CC.Yo a C z T6);let n:=CC.Yp B rfl (h35.mt b W λ_ z=>CC.Yo a B z TK);let s31:=CC.Yp n rfl (D.c W λ_ z=>CC.Yo a n z Tg);let A:=CC.Yp s31 rfl (D.c W λ_ z=>(CC.Yo a n z Tg).imp (λ_ _ _ _ h=>L10.Oe h));let y:=CC.Yp A rfl (h15.c W λ_ z=>CC.YW a A z Uj);let u:=CC.Yp y rfl (h37.mt f W λ_ z=>CC.agd a y z Ty);let t:=CC.Yp u rfl (h38.k f W λ_ z=>CC.agd a u z Uo);let r:=CC.Yp t rfl (h39.mt f W λ_ z=>CC.Yo a t z Mu);let q:=CC.Yp r rfl (h17.c (ds:=[]) W .nil λ_ z=>CC.agg a r z QT);let p:=CC.Yp q rfl (h18.c W λ_ z=>CC.Yo a q z TQ);let s39:=CC.Yp p rfl (h19.c W λ_ z=>uf z (p 36 _ () rfl) YQ XR rfl Y9);show(CC.Yo a s39 aeu Up).imp λ_ _ _ _ h=>L10.LV h
end K52
local macro_rules|`(universe $i*)=>do
 let t:=fun (c:Lean.Name)=>`(theorem $(Lean.mkIdent ((`PySem.W.Fast).str ("tw"++toString c.hash))):ident:True:=trivial)
 let b:=`PySem.Challenge.cw_chordbed_k52_whole_none_is_shorter_holds
 let o←(List.range 474).mapM fun n=>t (b.str ("o_"++toString n))
 let l←i.mapM fun j=>t (b++j.getId)
 return Lean.mkNullNode (((o.toArray++l).push (←t `PySem.Challenge.pw_chordbed_k52_whole_none_is_shorter)))
universe heap_474 heap_39 tree_473 tree_466 view_39 tree_384 tree_334 sts_385 tree_226 sts_117 tree_307 sts_335 sts_311 sts_467 tree_116 sts_86 tree_85 sts_64 tree_63 sts_49 heap_46 tree_47 env_41
open PySem PySem.W PyProof.Rows
set_option maxRecDepth 100000 in
set_option maxHeartbeats 0 in
theorem PySem.Challenge.cw_chordbed_k52_whole_none_is_shorter_holds : PySem.Challenge.rw_chordbed_k52_whole_none_is_shorter.Holds := by
 w_on;o_law;k_head;(case hw=>w_witness2)
 k_fill
 refine L3.QA (l:=PySem.Challenge.rw_chordbed_k52_whole_none_is_shorter) (n:=63) (k:=12) (x:= "_law_script") (F:=K52.F_lawH) rfl (by decide) rfl ⟨rfl,by decide,by decide⟩ (λw h Y=>PySem.W.kIn_of Y) ?F K52.main
 case F=>
  intro w d e h b G a
  apply K52.all_mk b G a
  all_goals ext:9
