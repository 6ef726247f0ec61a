import PyProof.Rows.All
import Wide.All
import OpenK.AllK
import Wide.FinOn
import Lean
import PyProof.EqAt
import PyProof.EqKinds
import PyProof.TupleCall
import KE.KIntText
import KE.KRevSl
import PyProof.Rows.SeqMore
import PyProof.WalkInts
import PyProof.Rows.MinMaxN
import PyProof.ExcInit
import OpenK.KMake
import PyProof.InstStoreFacts
import PyProof.FString2
import PyProof.Rows.FStr
import PyProof.Rows.SetFrom
import PyProof.SeqRoads2
import PyProof.RangeFor
import PyProof.WalksMore
import PyProof.StrBlock2
import PyProof.Rows.SortShell
import PyProof.TupleOfSeq
import KE.KDictList
import KE.KDictOf
import PyProof.IsiH_tuple
import PyProof.Rows.RuleN_abs
import PyProof.Rows.Range3
import KE.KRevIter
import PyProof.StrLawsRepr
import PyProof.ReprStr
import PyProof.IsiH_list
import PyProof.Rows.TupDisplay
import PySem.Challenge.RW_chordbed_k43_whole_the_machine_sends_the
set_option compiler.extract_closed false
set_option genSizeOf false
set_option genInjectivity false
set_option Elab.async false
set_option linter.all false
set_option maxRecDepth 100000
abbrev av:=@if_pos
abbrev ax:=@if_neg
abbrev aE:=@decide_eq_true
abbrev aP:=@decide_eq_false
abbrev a4:=@of_decide_eq_true
abbrev a5:=@absurd
abbrev a6:=@Or.inl
abbrev a7:=@Or.inr
abbrev bb:=@List
abbrev bg:=@Option
abbrev br:=@PySem.Heap.get?_push_of_some
abbrev bP:=@PySem.Heap.lt_size
abbrev cj:=@PySem.Heap.get?_push_size
abbrev cn:=@PySem.Heap.get?_update_other
abbrev cv:=@PySem.Heap.get?_update_self
abbrev cN:=@PySem.Heap.size_push
abbrev da:=@PySem.Heap.get?_none_of_le
abbrev dk:=@PySem.Obj.data_mapFields
abbrev dt:=@PySem.Obj.isFreed_of_fields
abbrev dN:=@Ne.symm
abbrev d3:=@congrArg
abbrev ec:=@beq_self_eq_true
local macro_rules|`(tactic|left)=>`(tactic|decide+kernel)|`(tactic|change $e)=>`(tactic|with_reducible exact $e)|`(tactic|specialize $e)=>`(tactic|with_reducible refine $e)
local macro_rules|`(tactic|exists $e)=>`(tactic|with_reducible apply $e)|`(def $i:declId $s:optDeclSig $v:declVal)=>`(noncomputable def $i:declId $s:optDeclSig $v:declVal)|`(abbrev $i:declId $s:optDeclSig $v:declVal)=>`(noncomputable abbrev $i:declId $s:optDeclSig $v:declVal)
local macro_rules|`(tactic|ext)=>`(tactic|omega)
local macro_rules|`(tactic|ext)=>`(tactic|lia)
open Option renaming some->lD,none->Uh,isSome_map->ZZ,getD_some->aai,isSome_iff_exists->aa4,map_eq_some_iff->aby,isSome_some->acM,toList_none->acP,getD_none->adh
open PySem.W renaming Frag->Ld,nsIn->UP,findIn->Vi,mg_none_of->Vu,emptyDict->VX,fnOf->VY,keepIn->V8,mg_of->Wd,instObj->Wj,isFn->W0,kia_one->Xe,specialIn->Xs,cellsFrom_some->Xt,plainGet->XA,codeIn->X7,hasDictIn->Yg,methodCall_KW->YN,lookIn->YS,tailIn->YX,plainGet_of->Zd,excIn->Zf,callWith_K->Zq,methodObj->ZJ,plainOver->ZK,takerIn->aap,makesIn->aaq,readsIn->aas,findCls->aat,nsOkIn->aaG,pyHash_slot->ab5,tail_of_in->acg,handedIn->acY,OpenLaw->adi,typeIn->adv,kitOne->adw,clsIn->ad6
open PySem renaming wpAny_bind->Ug,Value->Uj,PyData->Up,Addr->Uq,Shared->Ur,wpAny_pure->Ut,sizeLine->UB,mainGlobals->UK,Program->US,starEach->U1,Around->U4,NameKind->U5,wpAny_field->U7,World->Vb,Builtin->Vf,Expr->Vq,FuncData->Vz,bootBuiltins->VD,wpAny_newObj_type->VF,wpAny_setField->VS,sysModules->VW,wpAny_holding->V1,wpAny_seqItems->V2,swapsWith->V3,mem_of_lookup->Wc,wpAny_callSpecial?_slot->Wg,binaryOp->Wi,cellsFrom->Wl,Stmt->Ws,compareOp->Wv,wpAny_truthy_bool->Ww,sizeLine_eq->Wx,wpAny_loadPart_at->Wz,wpAny_standAt->WE,wpAny_call_entry->WJ,wpAny_setField_rec->WT,wpAny_passesOwn->WZ,Scope->Xg,wpAny_letGo->Xh,plainId_quiet->Xv,codeAny_builtin->Xy,wpAny_Call_Name_kw->XB,PassesOwn->XI,DictEntry->XM,ExcBaseFacts->XY,call_meets->X8,codeAny_call_builtin->Yd,wpAny_execs_nil->Yi,wpAny_pyIter_list->Ym,wpAny_isSubtype_exc->Yn,wpAny_rule->YB,wpAny_comprehension_free->YW,GenState->Zc,BindsTo->Zn,wpAny_call->Zo,codeAny_mono->Zp,wpAny_pyIter_tuple->ZM,wpAny_updateSeq_pair->aac,wpAny_tryCatch->aad,wpAny_onRaise->aaA,typeIs_int->aaE,tupleKind_room_in1->aaF,Keyword->aaU,wpAny_typeOf->aaW,ZipApart->aaX,call_meetsIn->aaY,wpAny_Call_ofName->aaZ,eqIsQuiet_byValue->aa0,plainObj_wpAny_Assign_Attribute->aa3,Result->abb,IsPart->abd,wpAny_isInstance->abe,wpAny_of_eq->abx,Within->abI,pushCells_keeps->abJ,wpAny_updateSeq->abL,OsState->ab4,Code->acd,ReadsAll->ace,IsZip->acf,wpAny_binaryOp_repeat_ref->acN,Drawn->adf,Model->adg,wpAny_Assign_Subscript->adx,wpAny_isTrue_Compare1->ad4,builtinLookup_eq_fast->ad8,wpAny_notOrdered_dict->ad9,Reads->aei,wpAny_mkInt->ael,wpAny_raiseNew_none->aeM,wpAny_Name->ae6,wpAny_Constant_int->ae7,wpAny_load->ae9,wpAny_getItem_heap->afb,wpAny_setItem_heap->afc,wpAny_entryPlaceOf->afd,passOn->afe,wpAny_assign_Name->afN,slot_list_getitem->afO,wpAny_Call_method->afP,wpAny_frameOf_fun->afQ,OwnTail->afR,wpAny_dictEntries->afS,wpAny_pyHash_int->agj,wpAny_pyHash_str->agk,wpAny_execs_cons->agl,wpAny_lookBehind->agn,pastItsLine_dict->ago,noFill_tuple_add->agp,call->agr,wpAny_pyIter_zip->agt,beq_builtin_none->agu,wpAny_specialOf->ahv,typeLookup_type->ahw,size_of_entries->ahz,wpAny_loadPart->aiC,refuseLoop_ref->aiJ,HeapKind->aiK,intBits_le_64->akE,seq_tuple_add->akF,call_list_seq->akG,eval_ListComp->akH,wpAny_attempt->akI,strLen_append->akJ,wpAny_newList->akK,ItemsOf->akL
open List renaming length_map->Ui,getElem?_eq_some_iff->Uk,range->Ul,length_append->Uo,getElem?_eq_getElem->Us,getElem?_map->Uu,getElem?_append_left->Uy,replicate->Uz,length_range->UA,mem_cons_of_mem->UC,length_cons->UD,mem_cons_self->UE,size_toArray->UG,map_append->UI,map_cons->UJ,mem_of_getElem?->UL,lookup_cons->UO,append_assoc->UQ,mem_singleton->UR,append_nil->UT,map_map->UZ,mem_cons->U2,getElem?_append_right->U6,length_replicate->U9,mem_map->Vc,find?_cons->Ve,Nodup->Vg,getElem?_set_ne->Vo,mem_append->Vp,mem_range->Vr,length_take->Vs,getElem?_set_self->Vt,mem_append_right->Vw,replicate_succ->Vy,length_set->VG,getElem?_set->VI,take_add_one->V0,not_mem_nil->V6,nodup_cons->Wb,length_nil->Wn,flatten_cons->Wr,map_congr_left->Wy,getElem?_replicate->WB,all_eq_true->WC,lookup->WH,mem_filter->WK,mem_iff_getElem?->WO,lookup_cons_self->WQ,map_nil->W4,getElem_mem->W5,prefix_refl->W6,drop_eq_getElem_cons->W8,nil_append->Xp,range_succ->Xq,drop_eq_nil_of_le->Xw,nodup_append->Xz,take_length->XU,any_cons->XX,mem_append_left->X0,of_mem_zip->X5,mem_filterMap->Yf,pairwise_cons->Yh,pairwise_map->Yq,filter_cons->YI,foldl->YQ,take_of_length_le->YR,foldl_cons->YT,forIn_cons->YV,length_singleton->Y7,length_filter_le->Y8,length->Ze,nodup_nil->Zg,take_zero->Zh,filterMap_cons->ZG,contains_cons->Z7,map_inj_right->Z9,foldl_append->aak,length_drop->aaz,any_eq_true->aaB,getElem?_concat_length->aa1,forIn_nil->aa6,mem_of_find?_eq_some->abf,filterMap_cons_none->abC,filterMap_cons_some->abD,getElem?_cons_succ->abK,getElem?_cons_zero->abM,pairwise_lt_range->ab8,set_append_right->aci,mem_iff_getElem->acO,getElem_toArray->acQ,mem_of_mem_take->acS,getElem?_range->acZ,set_cons_zero->adj,set_cons_succ->adk,getElem_range->adl,prefix_append->adm,map_singleton->adn,zipIdx_cons->ad5,cons_append->ad7,zipIdx_nil->aek,length_zip->aen,all_map->afT,set->akN
open Bool renaming true->Um,false->Uw,false_ne_true->UM,and_eq_true->UW,and_self->WM,false_eq_true->Xr,true_or->Xx,or_eq_true->X6,false_and->Ye,false_or->Yy,true_and->ZN,and_true->ZO,or_true->aaj,not_true->abA,or_eq_false_iff->acR,eq_iff_iff->aej,or_false->afa
open Nat renaming le_of_ble_eq_true->Uv,le_refl->Ux,lt_of_lt_of_le->UU,ne_of_lt->UX,le_trans->Va,zero_add->Vk,zero_le->Vl,lt_irrefl->VH,ne_of_gt->VN,add_assoc->VU,le_of_eq->W7,lt_trans->XD,lt_succ_self->XW,le_of_lt->Yb,add_comm->Yc,le_of_succ_le->Yw,lt_succ_of_lt->Yx,add_sub_cancel_left->YO,mul_le_mul->Zr,lt_of_le_of_lt->aab,lt_of_le_of_ne->aae,lt_trichotomy->aav,min_le_right->aaD,le_succ->aaS,sub_self->ach,add_sub_cancel'->adp,le_add_right->aem,not_lt_zero->aeO,succ_mul->agq,lt_or_ge->agx,max_le->aiL
open Option.some renaming inj->UH
open PyProof.Rows renaming envOfC->U0,slot_tuple_getitem->Xk,callWith_type1->XJ,callWith_builtin1->ahu,kws_cons->ahx,kws_nil->ahy
open Array renaming getElem?_eq_some_iff->U3,length_toList->Vv,getElem?_setIfInBounds_self_of_lt->V7,getElem?_setIfInBounds_ne->XF,getElem?_toList->ab6,find?_toList->acX,forIn_toList->ac0,toList->ae8
open PySem.F renaming plainAttrs_list->VJ,slot_list_append->V4,type_list_append->V5,excBase_ValueError->WU,plainAttrs_dict->Xl,slot_dict_values->Yj,slot_dict_setdefault->aau,slot_dict_getitem->aaT,args_tuple_add_2->aaV,type_dict_values->aa2,entry_tuple_add->aa5,slot_list_index->aa7,slot_tuple_add->abc,slot_dict_pop->abz,slot_dict_len->abB
open Int renaming toNat_natCast->VO,le_refl->Yz,toNat_of_nonneg->ZL,ofNat->aaH,fdiv_eq_ediv_of_nonneg->aba,toNat->ab7,emod_lt_of_pos->ady,le_antisymm->aeL,emod_nonneg->aeN,zero_add->ags
open Nat.le renaming dest->WY
open PySem.SeqAt renaming eqv_refl->YC,compareEq_reads->aiD,compareNe_reads->aiE,in_list_reads->aiF,in_tuple_reads->aiG,notIn_list_reads->aiH,notIn_tuple_reads->aiI
open List.Pairwise renaming nil->YU,filterMap->agv,filter->agw
open List.Perm renaming refl->aar,swap->al5
open Int.ofNat renaming inj->ado
open PySem.PassesOwn renaming never->aff
open PySem.W.Looks renaming here->agm
open PySem.Within renaming cons->aht
open List.Nodup renaming sublist->akM
open PySem.IsL renaming update->al4
open List.cons renaming injEq->al6
namespace L2
open PySem PySem.Spec PyProof.Rows
abbrev c7:=Sum Int Str
def v7:c7->Uj->Bool
 |.inl k,v=>Uj.isInt k v
 |.inr x,v=>Uj.isStrOf x v
def Tn(w:Vb):c7->Int
 |.inl k=>hashInt k
 |.inr x=>hashStr w x
theorem dn:∀{k:c7} {v:Uj},v7 k v=Um->(∃i t,k=Sum.inl i/\v=Uj.int i t)\/(∃x t,k=Sum.inr x/\v=Uj.str x t)
 |.inl i,v,h=>by obtain⟨t,e⟩:=Uj.isInt_shape h;exact .inl ⟨i,t,rfl,e⟩
 |.inr x,v,h=>by obtain⟨t,e⟩:=Uj.isStrOf_shape h;exact .inr ⟨x,t,rfl,e⟩
theorem Ft(i:Int)(t:Tok):v7 (.inl i) (.int i t)=Um:=by simp[v7,Uj.isInt]
theorem Fi(x:Str)(t:Tok):v7 (.inr x) (.str x t)=Um:=by simp[v7,Uj.isStrOf]
theorem P7(a b:Int):decide ((Sum.inl a:c7)=Sum.inl b)=(a==b):=by
 by_cases e:a=b
 .subst e;simp
 .have h:¬(Sum.inl a:c7)=Sum.inl b:=λq=>e (Sum.inl.inj q);rw[aP h];exact(beq_eq_false_iff_ne.mpr e).symm
theorem QG(a b:Str):decide ((Sum.inr a:c7)=Sum.inr b)=decide (a=b):=by
 by_cases e:a=b
 .subst e;simp
 .have h:¬(Sum.inr a:c7)=Sum.inr b:=λq=>e (Sum.inr.inj q);rw[aP h,aP e]
theorem QO(a:Int)(b:Str):decide ((Sum.inl a:c7)=Sum.inr b)=Uw:=aP (λq=>nomatch q)
theorem Pj(a:Str)(b:Int):decide ((Sum.inr a:c7)=Sum.inl b)=Uw:=aP (λq=>nomatch q)
def dB(prog:US)(w:Vb):PySem.KeyKind prog w c7 where
 is:=v7
 hash:=Tn w
 inj:=λv a b ha g=>by
  rcases dn ha with⟨i,t,rfl,rfl⟩|⟨x,t,rfl,rfl⟩
  .rcases dn g with⟨j,u,rfl,e⟩|⟨y,u,rfl,e⟩
   .injection e with e1 _;rw[e1]
   .exact nomatch e
  .rcases dn g with⟨j,u,rfl,e⟩|⟨y,u,rfl,e⟩
   .exact nomatch e
   .injection e with e1 _;rw[e1]
 byValue:=λk v h=>by rcases dn h with⟨i,t,rfl,rfl⟩|⟨x,t,rfl,rfl⟩<;>rfl
 pyHash:=λf h=>by
  rcases dn f with⟨i,t,rfl,rfl⟩|⟨x,t,rfl,rfl⟩
  .exact agj h
  .exact agk h
 eqBool:=λl f h=>by
  rcases dn l with⟨i,t,rfl,rfl⟩|⟨x,t,rfl,rfl⟩
  .rcases dn f with⟨j,u,rfl,rfl⟩|⟨y,u,rfl,rfl⟩
   .rw[P7]at h;exact wpAny_eqBool_int h
   .rw[QO]at h;exact SeqAt.EqAt.int_str i t y u _ _ _ _ h
  .rcases dn f with⟨j,u,rfl,rfl⟩|⟨y,u,rfl,rfl⟩
   .rw[Pj]at h;exact SeqAt.EqAt.str_int x t j u _ _ _ _ h
   .rw[QG]at h;exact wpAny_eqBool_str h
 «strs»:=λk x t v h=>by
  rcases dn h with⟨i,u,rfl,e⟩|⟨y,u,rfl,e⟩
  .exact nomatch e
  .injection e with e1 _
   subst e1;cases v<;>rfl
theorem zW(prog:US)(w:Vb)(i:Int)(t:Tok):(dB prog w).is (.inl i) (.int i t)=Um:=Ft i t
theorem Am(prog:US)(w:Vb)(x:Str)(t:Tok):(dB prog w).is (.inr x) (.str x t)=Um:=Fi x t
inductive V where
 |WA|bl (b:Bool)|int (i:Int)|str (x:Str)|byt (b:Array UInt8)|flt (b:UInt64)|ref (a:Uq)|ty (n:String)
 deriving DecidableEq
def RelV:V->Uj->Prop
 |.WA,u=>u=Uj.none
 |.bl b,u=>u=Uj.bool b
 |.int i,u=>∃t,u=Uj.int i t
 |.str x,u=>∃t,u=Uj.str x t
 |.byt b,u=>∃t,u=Uj.bytes b t
 |.flt b,u=>∃t,u=Uj.float b t
 |.ref a,u=>u=Uj.ref a
 |.ty n,u=>u=Uj.type n
abbrev Vals:bb V->bb Uj->Prop:=Paired RelV
theorem Vals.length(r:Vals xs us):xs.length=us.length:=Paired.length r
theorem Vals.get:∀{xs:bb V} {us:bb Uj} {i:Nat} {x:V},Vals xs us->xs[i]?=lD x->∃u,us[i]?=lD u/\RelV x u
 |_,_,_,_,.nil,e=>by simp at e
 |_,_,0,_,.cons r _,e=>by simp at e;subst e;exact⟨_,rfl,r⟩
 |_,_,i+1,x,.cons _ t,e=>by obtain⟨u,b,a⟩:=Vals.get t (by simpa using e);exact⟨u,by simpa using b,a⟩
theorem Vals.append:∀{xs a:bb V} {us ws:bb Uj},Vals xs us->Vals a ws->Vals (xs++a) (us++ws)
 |_,_,_,_,.nil,s=>s
 |_,_,_,_,.cons r t,s=>.cons r (Vals.append t s)
theorem Vals.take:∀{xs:bb V} {us:bb Uj} (n:Nat),Vals xs us->Vals (xs.take n) (us.take n)
 |_,_,0,_=>.nil
 |_,_,_+1,.nil=>.nil
 |_,_,n+1,.cons r t=>.cons r (Vals.take n t)
theorem Vals.drop:∀{xs:bb V} {us:bb Uj} (n:Nat),Vals xs us->Vals (xs.drop n) (us.drop n)
 |_,_,0,r=>r
 |_,_,_+1,.nil=>.nil
 |_,_,n+1,.cons _ t=>Vals.drop n t
def Ys:bg V->bg Uj->Prop
 |some v,lD u=>RelV v u
 |none,Uh=>True
 |_,_=>False
def KV:bb (κ×V)->bb (κ×Uj)->Prop:=Paired λ(p:κ×V) (q:κ×Uj)=>p.1=q.1/\RelV p.2 q.2
def kV:c7->V
 |.inl i=>.int i
 |.inr x=>.str x
inductive HO where
 |lst (xs:bb V)
 |tup (xs:bb V)
 |dK (UY:bb (c7×V))|dT (UY:bb (bb c7×V))
 |set (S:Int->Bool) (n:Nat)
 |ins (C dx:Uq) (fs:bb (Str×V))
 |own (x:Uq)
 |xd (fs:bb (Str×V))
 |met (f x:Uq)
 |rng (lo hi:Int)
 |frz (o:Obj) (u:HO)
 |tbl (ps:Array Uj)
 |ext (φ:Heap->Prop)
 |exw (φ:Vb->Heap->Prop)
abbrev Hp:=Uq->bg HO
def bM(H:Hp)(a:Uq)(o:HO):Hp:=λb=>if b=a then lD o else H b
theorem aV:bM H a o a=lD o:=by unfold bM;rw[av rfl]
theorem aI(h:b≠a):bM H a o b=H b:=by unfold bM;rw[ax h]
theorem Sv{H:Hp}{a b:Uq}{o u:HO}(h:H a=lD o)(h':H b=lD u)(d:o≠u):a≠b:=by intro e;subst e;rw[h]at h';exact d (UH h')
theorem b9{H:Hp}(h:H a=lD o)(h':H b=Uh):a≠b:=by intro e;subst e;rw[h]at h';cases h'
def aax(h:Heap)(a:Uq)(b:Array Uj):Prop:=∃o,h.get? a=lD o/\(o.cls=.type "tuple"/\∃n,o.data=.seq b n)/\o.dict=Uh
theorem aax.tup(x:aax h a items):IsTup h a items:=let⟨o,e,c,_⟩:=x;⟨o,e,c⟩
theorem aax.lt(x:aax h a items):a<h.objs.size:=let⟨_,e,_⟩:=x;bP e
theorem aax.new(h:Heap)(xs:Array Uj):aax (h.push {cls:=.type "tuple",data:=.seq xs}) h.objs.size xs:=⟨_,cj _ rfl,⟨rfl,_,rfl⟩,rfl⟩
section
variable(P:US)(w:Vb)
def ObjOk(H:Hp)(h:Heap)(a:Uq):HO->Prop
 |.lst xs=>xs.length<=UB/\∃(b:bb Uj) (n:Nat),Vals xs b/\h.get? a=lD {cls:=.type "list",data:=.seq b.toArray n}
 |.tup xs=>xs.length<=UB/\∃b:bb Uj,Vals xs b/\aax h a b.toArray
 |.dK UY=>UY.length<=UB/\(a==VW)=Uw/\∃vs,KV UY vs/\h.DictOf (dB P w) a vs
 |.dT UY=>UY.length<=UB/\(a==VW)=Uw/\∃xs:bb (bb c7×Uq×Uj),
   Paired (λ(p:bb c7×V) (q:bb c7×Uq×Uj)=>p.1=q.1/\H q.2.1=lD (.tup (p.1.map kV))/\RelV p.2 q.2.2) UY xs/\
   ∃o es ep,h.get? a=lD o/\o.ExactDict/\o.data=.dict es ep/\es.toList=xs.map (entryOfKey (tupleKind (dB P w)))/\(xs.map (·.1)).Nodup
 |.set S n=>h.SetOf (intKind P w) a S n
 |.ins C dx fs=>H dx=lD (.own a)/\fs.length<=1000/\dx≠a/\h.get? a=lD (Wj C dx)/\
   ∃mA,h.Ns1 dx mA/\(∀f,Ys (fs.lookup f) (mA f))/\abI mA (fs.map (·.1))
 |.own _=>∃o,h.get? a=lD o
 |.xd fs=>∃mA,h.Ns1 a mA/\∀f,Ys (fs.lookup f) (mA f)
 |.rng lo hi=>∃t u v,h.get? a=lD {cls:=.type "range",data:=.fields #[.int lo t,.int hi u,.int 1 v]}
 |.frz o u=>h.get? a=lD o/\ObjOk H h a u
 |.tbl ps=>h.get? a=lD {cls:=.none,data:=.fields ps}
 |.met f x=>h.get? a=lD (ZJ (.ref f) (.ref x))
 |.ext φ=>φ h/\(∃o,h.get? a=lD o)/\∀h1 h2:Heap,φ h1->(∀o,h1.get? a=lD o->h2.get? a=lD o)->φ h2
 |.exw φ=>φ w h/\(∃o,h.get? a=lD o)/\∀h1 h2:Heap,φ w h1->(∀o,h1.get? a=lD o->h2.get? a=lD o)->φ w h2
def Y9(H:Hp)(h:Heap):Prop:=∀a o,H a=lD o->ObjOk P w H h a o
end
section
variable{P:US}{w:Vb}{H H':Hp}{h h':Heap}{a:Uq}{o:HO}
theorem ObjOk.lt(x:ObjOk P w H h a o):a<h.objs.size:=by
 cases o with
 |lst xs=>obtain⟨_,_,_,_,e⟩:=x;exact bP e
 |tup xs=>obtain⟨_,_,_,p⟩:=x;exact p.lt
 |dK UY=>obtain⟨_,_,_,_,o,_,_,e,_⟩:=x;exact bP e
 |dT UY=>obtain⟨_,_,_,_,o,_,_,e,_⟩:=x;exact bP e
 |set S n=>obtain⟨o,_,_,_,e,_⟩:=x;exact bP e
 |ins C dx fs=>obtain⟨_,_,_,e,_⟩:=x;exact bP e
 |own y=>obtain⟨_,e⟩:=x;exact bP e
 |xd fs=>obtain⟨_,⟨_,_,_,e,_⟩,_⟩:=x;exact bP e
 |rng lo hi=>obtain⟨_,_,_,e⟩:=x;exact bP e
 |frz b u=>obtain⟨e,_⟩:=x;exact bP e
 |tbl ps=>exact bP (show h.get? a=lD _ from x)
 |met f y=>exact bP (show h.get? a=lD _ from x)
 |ext φ=>obtain⟨_,⟨_,e⟩,_⟩:=x;exact bP e
 |exw φ=>obtain⟨_,⟨_,e⟩,_⟩:=x;exact bP e
theorem Paired.Yv:∀{l₁:bb α} {l₂:bb β},Paired F l₁ l₂->(∀a b,F a b->G a b)->Paired G l₁ l₂
 |_,_,.nil,_=>.nil
 |_,_,.cons r t,f=>.cons (f _ _ r) (Paired.Yv t f)
theorem ObjOk.Yt(x:ObjOk P w H h a o)(k:∀b u,(b=a\/H b=lD (.own a))->h.get? b=lD u->h'.get? b=lD u)
  (G:∀b,H b=lD (.own a)->H' b=lD (.own a)) (F:∀b xs,H b=lD (.tup xs)->H' b=lD (.tup xs)):ObjOk P w H' h' a o:=by
 induction o with
 |lst xs=>obtain⟨z,B,n,r,e⟩:=x;exact⟨z,B,n,r,k _ _ (.inl rfl) e⟩
 |tup xs=>obtain⟨z,B,r,g,e,c⟩:=x;exact⟨z,B,r,g,k _ _ (.inl rfl) e,c⟩
 |dK UY=>obtain⟨z,y,vs,r,g,i,j,e,c⟩:=x;exact⟨z,y,vs,r,g,i,j,k _ _ (.inl rfl) e,c⟩
 |dT UY=>obtain⟨z,y,xs,r,g,i,j,e,c⟩:=x;exact⟨z,y,xs,Paired.Yv r λp q z=>⟨z.1,F _ _ z.2.1,z.2.2⟩,g,i,j,k _ _ (.inl rfl) e,c⟩
 |set S n=>obtain⟨g,i,j,t,e,c⟩:=x;exact⟨g,i,j,t,k _ _ (.inl rfl) e,c⟩
 |ins C dx fs=>obtain⟨d,z,ne,e,A,⟨m,i,j,I,c⟩,r⟩:=x;exact⟨G _ d,z,ne,k _ _ (.inl rfl) e,A,⟨m,i,j,k _ _ (.inr d) I,c⟩,r⟩
 |own y=>obtain⟨g,e⟩:=x;exact⟨g,k _ _ (.inl rfl) e⟩
 |xd fs=>obtain⟨A,⟨m,i,j,e,c⟩,r⟩:=x;exact⟨A,⟨m,i,j,k _ _ (.inl rfl) e,c⟩,r⟩
 |rng lo hi=>obtain⟨t,u,v,e⟩:=x;exact⟨t,u,v,k _ _ (.inl rfl) e⟩
 |frz g u E=>obtain⟨e,q⟩:=x;exact⟨k _ _ (.inl rfl) e,E q⟩
 |tbl ps=>have e:h.get? a=lD {cls:=.none,data:=.fields ps}:=x;show h'.get? a=lD {cls:=.none,data:=.fields ps};exact k a _ (.inl rfl) e
 |met f y=>have e:h.get? a=lD (ZJ (.ref f) (.ref y)):=x;show h'.get? a=lD (ZJ (.ref f) (.ref y));exact k a _ (.inl rfl) e
 |ext φ=>obtain⟨p,⟨o,e⟩,l⟩:=x;exact⟨l _ _ p λo q=>k _ _ (.inl rfl) q,⟨o,k _ _ (.inl rfl) e⟩,l⟩
 |exw φ=>obtain⟨p,⟨o,e⟩,l⟩:=x;exact⟨l _ _ p λo q=>k _ _ (.inl rfl) q,⟨o,k _ _ (.inl rfl) e⟩,l⟩
theorem Y9.lt(x:Y9 P w H h)(e:H a=lD o):a<h.objs.size:=(x a o e).lt
theorem Y9.fresh(x:Y9 P w H h)(e:h.objs.size<=a):H a=Uh:=by
 cases q:H a with
 |none=>rfl
 |some u=>exact a5 (UU (x.lt q) e) (VH _)
theorem Y9.kept(x:Y9 P w H h)(k:∀b u,h.get? b=lD u->h'.get? b=lD u):Y9 P w H h':=λa o e=>
 (x a o e).Yt (λb u _ q=>k b u q) (λ_ q=>q) λ_ _ q=>q
theorem Y9.laid(x:Y9 P w H h)(k:∀b u,h.get? b=lD u->h'.get? b=lD u)(g:h.objs.size<=a)(new:ObjOk P w (bM H a o) h' a o):Y9 P w (bM H a o) h':=λb u e=>by
 have hn:=x.fresh g;by_cases f:b=a
 .subst f;rw[aV]at e;cases e;exact new
 .rw[aI f]at e;exact(x b u e).Yt (λc v _ q=>k c v q) (λc q=>by rw[aI (b9 q hn)];exact q) λc xs q=>by rw[aI (b9 q hn)];exact q
end
def Rd(H:Hp)(a:Uq)(u:HO):Prop:=H a=lD u\/∃o,H a=lD (.frz o u)
theorem Rd.ok(r:Rd H a u)(x:Y9 P w H h):ObjOk P w H h a u:=by
 rcases r with r|⟨o,r⟩
 .exact x a u r
 .obtain⟨_,q⟩:=x a _ r;exact q
def RN:bg HO->Prop
 |some (.lst _)=>True
 |some (.dK _)=>True
 |some (.dT _)=>True
 |some (.set _ _)=>True
 |some (.ins _ _ _)=>True
 |some (.ext _)=>True
 |some (.exw _)=>True
 |_=>False
section
variable{P:US}{w:Vb}{H:Hp}{h h':Heap}{x e:Uq}{Z:HO}
theorem Y9.write(ok:Y9 P w H h)(g:RN (H x))(o:e=x\/H e=lD (.own x))(k:∀b u,b≠e->h.get? b=lD u->h'.get? b=lD u)(l:∃u,h'.get? e=lD u)
  (new:ObjOk P w (bM H x Z) h' x Z):Y9 P w (bM H x Z) h':=λb u q=>by
 have f:∀c y,H c=lD (.own y)->c≠x:=λc y r z=>by subst z;rw[r]at g;exact g
 have m:∀c xs,H c=lD (.tup xs)->c≠x:=λc xs r z=>by subst z;rw[r]at g;exact g
 by_cases j:b=x
 .subst j;rw[aV]at q;cases q;exact new
 .rw[aI j]at q
  by_cases a:b=e
  .have n:H b=lD (.own x):=by
    rcases o with z|z
    .exact a5 (a.trans z) j
    .rw[a];exact z
   rw[q]at n;cases n;obtain⟨v,p⟩:=l;exact⟨v,by rw[a];exact p⟩
  .refine(ok b u q).Yt (λc v i r=>k c v ?_ r) (λc r=>by rw[aI (f c b r)];exact r) λc xs r=>by rw[aI (m c xs r)];exact r
   rcases i with rfl|i
   .exact a
   .rintro rfl
    rcases o with z|z
    .exact f c b i z
    .rw[i]at z;cases z;exact j rfl
end
structure Un(fs ex:bb Uq)(H H':Hp)(h h':Heap):Prop where
 keep:∀b o,h.get? b=lD o->H b=Uh->b∉fs->b∉ex->h'.get? b=lD o
 slot:∀b o,h.get? b=lD o->H b=Uh->b∈fs->b∉ex->∃sl,h'.get? b=lD {o with slots:=sl}
 free:∀b o,h.get? b=lD o->H b=Uh->b∉ex->H' b=Uh
 there:∀b o,h.get? b=lD o->b∉ex->∃o',h'.get? b=lD o'
 aaQ:∀b xs,H b=lD (.tup xs)->H' b=lD (.tup xs)
 aaw:∀b o u,H b=lD (.frz o u)->H' b=lD (.frz o u)
 aaI:∀b ps,H b=lD (.tbl ps)->∃more,H' b=lD (.tbl (ps++more))
section
variable{fs fs' ex ex':bb Uq}{H H1 H2:Hp}{h h1 h2 h':Heap}{a x e:Uq}{o:HO}
theorem Un.any(u:Un fs ex H H1 h h1)(q:h.get? b=lD ob)(n:H b=Uh)(f:b∉ex):∃sl,h1.get? b=lD {ob with slots:=sl}:=by
 by_cases g:b∈fs
 .exact u.slot b ob q n g f
 .exact⟨ob.slots,u.keep b ob q n g f⟩
theorem Un.kept(k:∀b u,h.get? b=lD u->h'.get? b=lD u):Un fs ex H H h h':=
 ⟨λb f q _ _ _=>k b f q,λb f q _ _ _=>⟨f.slots,k b f q⟩,λ_ _ _ n _=>n,λb f q _=>⟨f,k b f q⟩,λ_ _ q=>q,λ_ _ _ q=>q,λ_ ps q=>⟨#[],by rw[q];simp⟩⟩
theorem Un.refl:Un fs ex H H h h:=Un.kept λ_ _ q=>q
theorem Un.laid(k:∀b u,h.get? b=lD u->h'.get? b=lD u)(f:h.objs.size<=a)(hn:H a=Uh):Un fs ex H (bM H a o) h h' where
 keep:=λb u q _ _ _=>k b u q
 slot:=λb u q _ _ _=>⟨u.slots,k b u q⟩
 free:=λb u q n _=>by rw[aI (UX (UU (bP q) f))];exact n
 there:=λb u q _=>⟨u,k b u q⟩
 aaQ:=λb xs q=>by rw[aI (b9 q hn)];exact q
 aaw:=λb u xs q=>by rw[aI (b9 q hn)];exact q
 aaI:=λb ps q=>⟨#[],by rw[aI (b9 q hn),q];simp⟩
theorem Un.write(g:RN (H x))(p:e=x\/H e=lD (.own x))(k:∀b u,b≠e->h.get? b=lD u->h'.get? b=lD u)(i:∃u,h'.get? e=lD u):Un fs ex H (bM H x o) h h':=by
 have j:∀b,H b=Uh->b≠x:=λb n z=>by subst z;rw[n]at g;exact g
 have l:∀b,H b=Uh->b≠e:=λb n z=>by
  subst z;rcases p with r|r
  .exact j b n r
  .rw[n]at r;cases r
 have hm:∀b u,H b=lD u->¬RN (lD u)->b≠x:=λb u q m z=>by subst z;rw[q]at g;exact m g
 refine⟨λb u q n _ _=>k b u (l b n) q,λb u q n _ _=>⟨u.slots,k b u (l b n) q⟩,λb u q n _=>by rw[aI (j b n)];exact n,λb u q _=>?_,
  λb xs q=>by rw[aI (hm b _ q λz=>z)];exact q,λb u xs q=>by rw[aI (hm b _ q λz=>z)];exact q,λb ps q=>⟨#[],by rw[aI (hm b _ q λz=>z),q];simp⟩⟩
 by_cases f:b=e
 .subst f;exact i
 .exact⟨u,k b u f q⟩
end
def SC(h:Heap)(H:Hp):bb Uq:=(Ul h.objs.size).filter λa=>(H a).isSome
def ym(h:Heap)(H:Hp):Heap:=PySem.W.hideAll h (SC h H)
theorem FU(h:Heap)(H:Hp):(ym h H).objs.size=h.objs.size:=PySem.W.hideAll_size _ _
theorem Kh(e:h.get? b=lD o)(n:H b=Uh):(ym h H).get? b=lD o:=
 PySem.W.hideAll_get _ e λhm=>by have q:=(WK.mp hm).2;rw[n]at q;simp at q
theorem Ng(e:(ym h H).get? b=lD o):h.get? b=lD o/\H b=Uh:=by
 have a:=PySem.W.of_hideAll (SC h H) e;refine⟨a,?_⟩;cases q:H b with
 |none=>rfl
 |some x=>have hm:b∈SC h H:=WK.mpr ⟨Vr.mpr (bP a),by simp[q]⟩;have z:(ym h H).get? b=Uh:=PySem.W.hideAll_none (SC h H) hm;rw[z]at e;cases e
structure Mod(K:Ld)(mg:Str->bg Uj)(base:Heap):Prop where
 kin:K.In base
 glob:base.Ns UK mg
 blt:∃mb,base.Ns builtinsNs mb/\∀x:Str,x≠ "__name__"->mb x=VD x
 nolimit:base.NoLimit
structure Cx where
 prog:US
 w:Vb
 K:Ld
 mg:Str->bg Uj
 base:Heap
 A:U4
 N:bb Str
 s₀:Ur
 H₀:Hp
 env:Env
 outer:bb Env
 stack:bb Env
 ex:bb Uq
 fn:Str->Bool
 calm:Bool
 pn:bb (Uq×Obj)
 xe:Uj->Ur->Prop
def yP(l:bb Env):bb Uq:=l.filterMap (·.frame)
abbrev Cx.fs(X:Cx):bb Uq:=yP X.outer
def Th(sc:Xg)(x:Str):Prop:=sc.names.lookup x=lD .local\/sc.names.lookup x=lD .cell\/sc.names.lookup x=lD .free
def SU(sc:Xg)(x:Str):Prop:=sc.names.lookup x=lD .local\/sc.names.lookup x=lD .cell
def Te(env:Env)(h:Heap)(m:Str->bg Uj)(x:Str)(u:Uj):Prop:=
 (env.kindOf x=lD .local/\m x=lD u)\/((env.kindOf x=lD .cell\/env.kindOf x=lD .free)/\∃c,env.cells.lookup x=lD c/\h.IsCell c (lD u))
structure Cx.Ok(X:Cx):Prop where
 mod:Mod X.K X.mg X.base
 kind:X.env.scope.kind=.function
 glob:X.env.globals=UK
 blt:X.env.builtins=builtinsNs
 above:X.s₀.heap.objs.size<=X.env.locals
 inj:∀x y c,X.env.cells.lookup x=lD c->X.env.cells.lookup y=lD c->x=y
 has:∀x,(X.env.kindOf x=lD .cell\/X.env.kindOf x=lD .free)->∃c,X.env.cells.lookup x=lD c
 cab:∀x c,X.fn x=Um->X.env.cells.lookup x=lD c->X.s₀.heap.objs.size<=c
 hd:X.calm=Um->X.A.handled=Uh
 frames:X.A.frames=lD X.stack
 stk:X.stack=X.outer\/(X.stack=X.env::X.outer/\X.env.frame=lD X.env.locals)
 exf:∀b∈X.ex,b≠X.env.locals/\∀x c,X.env.cells.lookup x=lD c->c≠b
 bs:∀b o,X.base.get? b=lD o->X.s₀.heap.get? b=lD o/\X.H₀ b=Uh
 bsz:X.base.objs.size<=X.s₀.heap.objs.size
 abS:∀b o,X.base.get? b=lD o->b∉X.ex
 abP:∀b∈X.ex,b∉X.fs
 ZA:X.s₀.heap.FunFrames X.base X.outer
 frf:∀b∈X.fs,X.H₀ b=Uh
structure Inv(X:Cx)(pins:bb (Uq×Obj))(σ:bb (bg V))(H:Hp)(s:Ur):Prop where
 ok:X.Ok
 os:s.os=X.s₀.os
 bare:AllBare s.gens
 base:Un X.fs X.ex X.H₀ H X.s₀.heap s.heap
 loc:∃m,s.heap.Ns X.env.locals m/\∀(i:Nat) (x:Str) (v:V),X.N[i]?=lD x->σ[i]?=lD (lD v)->Th X.env.scope x->∃u,RelV v u/\Te X.env s.heap m x u
 cell:∀x c,X.env.cells.lookup x=lD c->∃v,s.heap.IsCell c v
 free:H X.env.locals=Uh
 X2:∀x c,X.env.cells.lookup x=lD c->H c=Uh
 pin:∀p∈X.pn++pins,s.heap.get? p.1=lD p.2/\H p.1=Uh/\p.1≠X.env.locals/\p.1∉X.fs/\∀v,p.2.data≠.cell v
 VR:Y9 X.prog X.w H s.heap
 len:σ.length=X.N.length
section
variable{X:Cx}{Z:bb (Uq×Obj)}{Y:bb (bg V)}{H H':Hp}{s:Ur}{h':Heap}
theorem Cx.Ok.ajO(ok:X.Ok)(e:X.base.get? b=lD o):b∉X.fs:=λa=>by have:=(ok.ZA.mem a).1;rw[e]at this;cases this
theorem Inv.bs(I:Inv X Z Y H s):∀b o,X.base.get? b=lD o->s.heap.get? b=lD o/\H b=Uh:=λb o e=>
 ⟨I.base.keep b o (I.ok.bs b o e).1 (I.ok.bs b o e).2 (I.ok.ajO e) (I.ok.abS b o e),I.base.free b o (I.ok.bs b o e).1 (I.ok.bs b o e).2 (I.ok.abS b o e)⟩
theorem Inv.bk(I:Inv X Z Y H s):∀b o,X.base.get? b=lD o->s.heap.get? b=lD o:=λb o e=>(I.bs b o e).1
theorem Inv.mod(I:Inv X Z Y H s):Mod X.K X.mg X.base:=I.ok.mod
theorem Inv.Zv(I:Inv X Z Y H s):X.K.In s.heap:=I.ok.mod.kin.keeps I.bk
theorem Inv.lt(I:Inv X Z Y H s):X.env.locals<s.heap.objs.size:=let⟨_,hn,_⟩:=I.loc;hn.lt
theorem Inv.sz(I:Inv X Z Y H s):X.s₀.heap.objs.size<=s.heap.objs.size:=Va I.ok.above (Yb I.lt)
theorem Inv.aiV(I:Inv X Z Y H s)(h:s.heap.objs.size<=a):a∉X.fs:=λe=>by obtain⟨_,o,b,_⟩:=I.ok.ZA.mem e;exact a5 (UU (bP b) (Va I.sz h)) (VH _)
theorem Inv.cne(I:Inv X Z Y H s):∀x c,X.env.cells.lookup x=lD c->c≠X.env.locals:=λx c e z=>by obtain⟨v,o,f,g⟩:=I.cell x c e;obtain⟨m,⟨h,i,j,a,b,_⟩,_⟩:=I.loc;rw[z,a]at f;cases f;rw[b]at g;cases g
theorem Inv.ZA(I:Inv X Z Y H s):s.heap.FunFrames X.base X.outer:=by
 have all:∀(l:bb Env),(∀b∈yP l,b∈X.fs)->X.s₀.heap.FunFrames X.base l->s.heap.FunFrames X.base l:=by
  intro l
  induction l with
  |nil=>intro _ _;trivial
  |cons t r i=>intro h n;obtain⟨p,⟨L,o,a,hn,m,q⟩,j⟩:=n;have g:=h L (by unfold yP;rw[ZG,a];exact UE);obtain⟨u,e⟩:=I.base.slot L o m (I.ok.frf L g) g λz=>I.ok.abP L z g;exact⟨p,⟨L,_,a,hn,e,q⟩,i (λb f=>h b (by unfold yP;rw[ZG,a];exact UC _ f)) j⟩
 exact all X.outer (λ_ f=>f) I.ok.ZA
theorem Inv.stack(I:Inv X Z Y H s):s.heap.FunFrames X.base X.stack:=by
 rcases I.ok.stk with e|⟨e,hf⟩
 .rw[e];exact I.ZA
 .rw[e];obtain⟨m,hn,_⟩:=I.loc;refine .cons (by rw[I.ok.kind];decide) hf hn ?_ I.ZA;exact da (Va I.ok.bsz I.ok.above)
theorem Inv.ZD(I:Inv X Z Y H s):∀b∈yP X.stack,b∈X.env.locals::X.fs:=λb a=>by
 rcases I.ok.stk with e|⟨e,hf⟩
 .rw[e]at a;exact UC _ a
 .rw[e]at a;unfold yP at a;rw[ZG,hf]at a;exact a
theorem Inv.ZY(I:Inv X Z Y H s):∀b∈yP X.stack,H b=Uh:=λb a=>by
 rcases U2.mp (I.ZD b a)with e|a
 .rw[e];exact I.free
 .obtain⟨_,o,f,_⟩:=I.ok.ZA.mem a;exact I.base.free b o f (I.ok.frf b a) λz=>I.ok.abP b z a
theorem Inv.step{g':Array Zc}{t':Nat}{d':adf}{ch:bb Uq}(I:Inv X Z Y H s)
  (g:∀b∈ch,(b∈X.ex\/X.s₀.heap.objs.size<=b)/\b≠X.env.locals/\(∀x c,X.env.cells.lookup x=lD c->c≠b)/\∀p∈X.pn++Z,p.1≠b)
  (keep:∀b o,b≠X.env.locals->b∉X.fs->b∉ch->s.heap.get? b=lD o->H b=Uh->h'.get? b=lD o)
  (y:∀b o,b≠X.env.locals->b∈X.fs->b∉ch->s.heap.get? b=lD o->H b=Uh->∃sl,h'.get? b=lD {o with slots:=sl}) (free:∀b o,b∉ch->s.heap.get? b=lD o->H b=Uh->H' b=Uh)
  (A:∀b o,b∉ch->s.heap.get? b=lD o->∃o',h'.get? b=lD o')
  (L:∀b xs,H b=lD (.tup xs)->H' b=lD (.tup xs)) (K:∀b o u,H b=lD (.frz o u)->H' b=lD (.frz o u)) (M:∀b ps,H b=lD (.tbl ps)->∃more,H' b=lD (.tbl (ps++more)))
  (ns:∀m,s.heap.Ns X.env.locals m->h'.Ns X.env.locals m) (VR:Y9 X.prog X.w H' h') (T:AllBare g'):
  Inv X Z Y H' {s with heap:=h',gens:=g',drawn:=d',toks:=t'}:=by
 have E:∀b o,X.s₀.heap.get? b=lD o->b≠X.env.locals:=λb o e=>UX (UU (bP e) I.ok.above);have j:∀b o,X.s₀.heap.get? b=lD o->b∉X.ex->b∉ch:=λb o e a B=>by
  rcases(g b B).1 with z|z
  .exact a z
  .exact a5 (UU (bP e) z) (VH _)
 have h:∀x c,X.env.cells.lookup x=lD c->∀v,s.heap.IsCell c v->h'.IsCell c v:=λx c e v ⟨o,C,J⟩=>by
  have f:c∉ch:=λz=>(g c z).2.2.1 x c e rfl;by_cases P:c∈X.fs
  .obtain⟨sl,q⟩:=y c o (I.cne x c e) P f C (I.X2 x c e);exact⟨_,q,J⟩
  .exact⟨o,keep c o (I.cne x c e) P f C (I.X2 x c e),J⟩
 refine⟨I.ok,I.os,T,⟨λb o e n B a=>?_,λb o e n B a=>?_,λb o e n a=>?_,λb o e a=>?_,λb xs e=>L b xs (I.base.aaQ b xs e),λb o xs e=>K b o xs (I.base.aaw b o xs e),λb ps e=>?_⟩,?_,λx c e=>?_,?_,λx c e=>?_,λp O=>?_,VR,I.len⟩
 .exact keep b o (E b o e) B (j b o e a) (I.base.keep b o e n B a) (I.base.free b o e n a)
 .obtain⟨sl,t⟩:=I.base.slot b o e n B a;obtain⟨G,F⟩:=y b _ (E b o e) B (j b o e a) t (I.base.free b o e n a);exact⟨G,F⟩
 .obtain⟨o',t⟩:=I.base.there b o e a;exact free b o' (j b o e a) t (I.base.free b o e n a)
 .obtain⟨o',t⟩:=I.base.there b o e a;exact A b o' (j b o e a) t
 .obtain⟨R,t⟩:=I.base.aaI b ps e;obtain⟨Q,F⟩:=M b _ t;exact⟨R++Q,by rw[F,Array.append_assoc]⟩
 .obtain⟨m,hn,S⟩:=I.loc
  refine⟨m,ns m hn,λi x v t F U=>?_⟩;obtain⟨u,r,l⟩:=S i x v t F U;refine⟨u,r,?_⟩;rcases l with l|⟨k,c,e,z⟩
  .exact .inl l
  .exact .inr ⟨k,c,e,h x c e _ z⟩
 .obtain⟨v,z⟩:=I.cell x c e;exact⟨v,h x c e v z⟩
 .obtain⟨m,⟨o,_,_,C,_⟩,_⟩:=I.loc;exact free _ o (λz=>(g _ z).2.1 rfl) C I.free
 .obtain⟨v,o,C,J⟩:=I.cell x c e;exact free c o (λz=>(g c z).2.2.1 x c e rfl) C (I.X2 x c e)
 .obtain⟨e,n,ne,N,d⟩:=I.pin p O;have f:p.1∉ch:=λz=>(g p.1 z).2.2.2 p O rfl;exact⟨keep p.1 p.2 ne N f e n,free p.1 p.2 f e n,ne,N,d⟩
theorem Inv.un{t':Nat}(I:Inv X Z Y H s)(u:Un X.fs [] H H' s.heap h')(VR:Y9 X.prog X.w H' h'):Inv X Z Y H' {s with heap:=h',toks:=t'}:=by obtain⟨m,⟨o,v,y,i,r⟩,_⟩:=id I.loc;obtain⟨p,l⟩:=u.any i I.free (by simp);exact I.step (g':=s.gens) (d':=s.drawn) (ch:=[]) (λ_ z=>nomatch z) (λb o _ f _ e n=>u.keep b o e n f (by simp)) (λb o _ f _ e n=>u.slot b o e n f (by simp)) (λb o _ e n=>u.free b o e n (by simp)) (λb o _ e=>u.there b o e (by simp)) u.aaQ u.aaw u.aaI (λt hm=>by obtain⟨q,g,h,a,j⟩:=hm;rw[i]at a;cases a;exact⟨_,g,h,l,j⟩) VR I.bare
theorem Inv.call{g':Array Zc}{t':Nat}{d':adf}{ch:bb Uq}(I:Inv X Z Y H s)(u:Un (yP X.stack) ch H H' s.heap h')(VR:Y9 X.prog X.w H' h')(t:AllBare g')
  (g:∀b∈ch,(b∈X.ex\/X.s₀.heap.objs.size<=b)/\b≠X.env.locals/\(∀x c,X.env.cells.lookup x=lD c->c≠b)/\∀p∈X.pn++Z,p.1≠b):
  Inv X Z Y H' {s with heap:=h',gens:=g',drawn:=d',toks:=t'}:=by
 obtain⟨m,⟨o,C,E,l,r⟩,_⟩:=id I.loc;obtain⟨y,h⟩:=u.any l I.free λz=>(g _ z).2.1 rfl;exact I.step (ch:=ch) g (λb o h v a e n=>u.keep b o e n (λz=>(U2.mp (I.ZD b z)).elim h v) a) (λb o _ _ a e n=>u.any e n a) (λb o a e n=>u.free b o e n a) (λb o a e=>u.there b o e a) u.aaQ u.aaw u.aaI (λB hm=>by obtain⟨A,i,j,f,q⟩:=hm;rw[l]at f;cases f;exact⟨_,i,j,h,q⟩) VR t
theorem Inv.turned{t':Nat}{a:Uq}(I:Inv X Z Y H s)(k:∀b o,b≠a->s.heap.get? b=lD o->h'.get? b=lD o)(hn:H a=Uh)(h:a≠X.env.locals)
  (w:a∈X.ex\/X.s₀.heap.objs.size<=a) (t:∀x c,X.env.cells.lookup x=lD c->c≠a) (l:∀p∈X.pn++Z,p.1≠a):Inv X Z Y H {s with heap:=h',toks:=t'}:=by
 have g:∀b u,H b=lD u->b≠a:=λb u e z=>by rw[z,hn]at e;cases e
 refine I.step (g':=s.gens) (d':=s.drawn) (ch:=[a]) (λb j=>?_) (λb o _ _ f e _=>k b o (λz=>f (by simp[z])) e) (λb o _ _ f e _=>⟨o.slots,k b o (λz=>f (by simp[z])) e⟩) (λ_ _ _ _ n=>n)
  (λb o f e=>⟨o,k b o (λz=>f (by simp[z])) e⟩) (λ_ _ e=>e) (λ_ _ _ e=>e) (λb ps e=>⟨#[],by rw[e];simp⟩) (λm hm=>?_) (λb u e=>?_) I.bare
 .have e:b=a:=by simpa using j
  subst e;exact⟨w,h,t,l⟩
 .obtain⟨o,y,A,i,r⟩:=hm;exact⟨o,y,A,k _ o (dN h) i,r⟩
 .refine(I.VR b u e).Yt (λc v f q=>k c v ?_ q) (λ_ q=>q) λ_ _ q=>q
  rcases f with z|z
  .rw[z];exact g b u e
  .exact g c _ z
theorem Inv.tok(I:Inv X Z Y H s)(t:Nat):Inv X Z Y H {s with toks:=t}:=I.un Un.refl I.VR
theorem Inv.kept{t':Nat}(I:Inv X Z Y H s)(k:∀b u,s.heap.get? b=lD u->h'.get? b=lD u):Inv X Z Y H {s with heap:=h',toks:=t'}:=I.un (Un.kept k) (I.VR.kept k)
theorem Inv.laid{a:Uq}{o:HO}{t':Nat}(I:Inv X Z Y H s)(k:∀b u,s.heap.get? b=lD u->h'.get? b=lD u)(e:s.heap.objs.size<=a)(new:ObjOk X.prog X.w (bM H a o) h' a o):
  Inv X Z Y (bM H a o) {s with heap:=h',toks:=t'}:=I.un (Un.laid k e (I.VR.fresh e)) (I.VR.laid k e new)
theorem Inv.write{x e:Uq}{o:HO}{t':Nat}(I:Inv X Z Y H s)(f:RN (H x))(g:e=x\/H e=lD (.own x))(k:∀b u,b≠e->s.heap.get? b=lD u->h'.get? b=lD u)(a:∃u,h'.get? e=lD u)
  (new:ObjOk X.prog X.w (bM H x o) h' x o):Inv X Z Y (bM H x o) {s with heap:=h',toks:=t'}:=I.un (Un.write f g k a) (I.VR.write f g k a new)
theorem Inv.abt(I:Inv X Z Y H s)(h:∀p∈ag0,s.heap.get? p.1=lD p.2/\H p.1=Uh/\p.1≠X.env.locals/\p.1∉X.fs/\∀v,p.2.data≠.cell v):Inv X ag0 Y H s:=
 ⟨I.ok,I.os,I.bare,I.base,I.loc,I.cell,I.free,I.X2,λp a=>(Vp.mp a).elim (λz=>I.pin p (X0 _ z)) (h p),I.VR,I.len⟩
theorem zb{N:bb Str}(e:N.Nodup){i j:Nat}(a:N[i]?=lD x)(b:N[j]?=lD x):i=j:=by obtain⟨l,g⟩:=Uk.mp a;obtain⟨h,f⟩:=Uk.mp b;exact(List.getElem_inj e).mp (g.trans f.symm)
theorem wm{M:adg}{A:U4}{E:Uj->Ur->Prop}{i:Nat}{x:Str}{v:V}{u:Uj}{Q:Unit->Ur->Prop}(I:Inv X Z Y H s)(hN:X.N.Nodup)(hi:X.N[i]?=lD x)(hx:SU X.env.scope x)(r:RelV v u)
  (h:∀s',Inv X Z (Y.set i (lD v)) H s'->(∃a,Heap.SameBut a s.heap s'.heap/\(a=X.env.locals\/X.env.cells.lookup x=lD a))->Q () s') (hf:X.fn x=Um\/X.env.scope.names.lookup x=lD .local:=by first|exact .inl rfl|exact .inr rfl|assumption):wpAny M A (storeName X.env x u) Q E s:=by
 obtain⟨m,hn,hl⟩:=id I.loc;have ajm:(X.env.scope.kind==.class||(X.env.scope.kind==.module&&X.env.locals !=X.env.globals))=Uw:=by rw[I.ok.kind];rfl
 have hiσ:i<Y.length:=by rw[I.len];exact(Uk.mp hi).1
 have cne:=I.cne;have tracked:∀{a:Uq} {h':Heap},(∃o,s.heap.get? a=lD o/\H a=Uh)->Heap.SameBut a s.heap h'->Y9 X.prog X.w H h':=λ{a h'} ha hs b ob e=>by
  obtain⟨_,_,aeW⟩:=ha;refine(I.VR b ob e).Yt (λc w' hc q=>(hs.2 c ?_).trans q) (λ_ q=>q) λ_ _ q=>q;rintro rfl;rcases hc with rfl|hc
  .rw[aeW]at e;cases e
  .rw[aeW]at hc;cases hc
 rcases hx with hk|hk
 .refine wpAny_storeName_local hk hn (λh' hn' hs=>?_) ajm
  obtain⟨oL,_,_,hoL,_⟩:=id hn;refine h _ ⟨I.ok,I.os,I.bare,⟨λb o e n hb hx=>?_,λb o e n hb hx=>?_,I.base.free,λb o e hx=>?_,I.base.aaQ,I.base.aaw,I.base.aaI⟩,⟨_,hn',λj y v' e1 e2 e3=>?_⟩,λy c e=>?_,I.free,I.X2,λp hp=>?_,tracked ⟨oL,hoL,I.free⟩ hs,by simpa using I.len⟩ ⟨_,hs,.inl rfl⟩
  .exact(hs.2 b (UX (UU (bP e) I.ok.above))).trans (I.base.keep b o e n hb hx)
  .obtain⟨sl,e1⟩:=I.base.slot b o e n hb hx;exact⟨sl,(hs.2 b (UX (UU (bP e) I.ok.above))).trans e1⟩
  .obtain⟨o',e1⟩:=I.base.there b o e hx;exact⟨o',(hs.2 b (UX (UU (bP e) I.ok.above))).trans e1⟩
  .by_cases hj:j=i
   .subst hj;rw[hi]at e1;cases e1;rw[Vt hiσ]at e2;cases e2;exact⟨u,r,.inl ⟨hk,by simp⟩⟩
   .rw[Vo (dN hj)]at e2
    obtain⟨u',r',q⟩:=hl j y v' e1 e2 e3;refine⟨u',r',?_⟩;rcases q with⟨k,e⟩|⟨k,c,e,z⟩
    .refine .inl ⟨k,?_⟩;have:y≠x:=λe=>hj (zb hN e1 (e▸hi));simp[this,e]
    .exact .inr ⟨k,c,e,z.sameBut hs (cne y c e)⟩
  .obtain⟨w',z⟩:=I.cell y c e;exact⟨w',z.sameBut hs (cne y c e)⟩
  .obtain⟨e,n,ne,nf,d⟩:=I.pin p hp;exact⟨(hs.2 p.1 ne).trans e,n,ne,nf,d⟩
 .have hfn:X.fn x=Um:=by
   rcases hf with z|z
   .exact z
   .rw[z]at hk;cases hk
  obtain⟨c,hc⟩:=I.ok.has x (.inl hk);obtain⟨w',z⟩:=I.cell x c hc;refine wpAny_storeName_cell I.ok.kind hk hc z (λh' hc' hs=>?_);obtain⟨oc,hoc,akx⟩:=id z;refine h {s with heap:=h'} ⟨I.ok,I.os,I.bare,⟨λb o e n hb hx=>?_,λb o e n hb hx=>?_,I.base.free,λb o e hx=>?_,I.base.aaQ,I.base.aaw,I.base.aaI⟩,⟨m,hn.sameBut hs (dN (cne x c hc)),λj y v' e1 e2 e3=>?_⟩,λy c' e=>?_,I.free,I.X2,λp hp=>?_,tracked ⟨oc,hoc,I.X2 x c hc⟩ hs,by simpa using I.len⟩ ⟨c,hs,.inr hc⟩
  .exact(hs.2 b (UX (UU (bP e) (I.ok.cab x c hfn hc)))).trans (I.base.keep b o e n hb hx)
  .obtain⟨sl,e1⟩:=I.base.slot b o e n hb hx;exact⟨sl,(hs.2 b (UX (UU (bP e) (I.ok.cab x c hfn hc)))).trans e1⟩
  .obtain⟨o',e1⟩:=I.base.there b o e hx;exact⟨o',(hs.2 b (UX (UU (bP e) (I.ok.cab x c hfn hc)))).trans e1⟩
  .by_cases hj:j=i
   .subst hj;rw[hi]at e1;cases e1;rw[Vt hiσ]at e2;cases e2;exact⟨u,r,.inr ⟨.inl hk,c,hc,hc'⟩⟩
   .rw[Vo (dN hj)]at e2
    obtain⟨u',r',q⟩:=hl j y v' e1 e2 e3;refine⟨u',r',?_⟩;rcases q with q|⟨k,c',e,z'⟩
    .exact .inl q
    .refine .inr ⟨k,c',e,z'.sameBut hs ?_⟩;rintro rfl;exact hj (zb hN e1 (I.ok.inj _ _ _ e hc▸hi))
  .by_cases hcc:c'=c
   .subst hcc;exact⟨_,hc'⟩
   .obtain⟨w2,z2⟩:=I.cell y c' e;exact⟨w2,z2.sameBut hs hcc⟩
  .obtain⟨e,n,ne,nf,d⟩:=I.pin p hp;refine⟨(hs.2 p.1 ?_).trans e,n,ne,nf,d⟩;intro q;rw[q,hoc]at e;have q':oc=p.2:=UH e;exact d w' (by rw[<-q'];exact akx)
theorem Au{i:Nat}{v:V}{u:Uj}{Q:Unit->Ur->Prop}(I:Inv X Z Y H s)(hN:X.N.Nodup)(hi:X.N[i]?=lD x)(hx:SU X.env.scope x)(r:RelV v u)
  (h:∀s',Inv X Z (Y.set i (lD v)) H s'->Q () s') (hf:X.fn x=Um\/X.env.scope.names.lookup x=lD .local:=by first|exact .inl rfl|exact .inr rfl|assumption):wpAny M A (storeName X.env x u) Q E s:=
 wm I hN hi hx r (λs' I' _=>h s' I') hf
theorem Inv.abW{a:Ur}{ch:bb Uq}(I:Inv X Z Y H s)(h:a.os=s.os)(u:Un (yP X.stack) ch H H' s.heap a.heap)(VR:Y9 X.prog X.w H' a.heap)(i:AllBare a.gens)
  (f:∀b∈ch,(b∈X.ex\/X.s₀.heap.objs.size<=b)/\b≠X.env.locals/\(∀x c,X.env.cells.lookup x=lD c->c≠b)/\∀p∈X.pn++Z,p.1≠b):Inv X Z Y H' a:=by
 obtain⟨h',g',d',t',g⟩:=a;have e:g=s.os:=h;subst e;exact I.call (g':=g') (t':=t') (d':=d') u VR i f
end
abbrev XK:=Uj->bg Uq->Hp->Prop
abbrev St:=bb (bg V)
abbrev VK:=V->Hp->Prop
abbrev TE:=St->Hp->VK->Prop
abbrev TT:=St->Hp->(Bool->Hp->Prop)->Prop
abbrev TA:=St->Hp->(bb V->Hp->Prop)->Prop
structure Ends where
 nx:St->Hp->Prop
 rt:VK
 bk:St->Hp->Prop:=λ_ _=>False
 ct:St->Hp->Prop:=λ_ _=>False
abbrev TS:=Ends->St->Hp->Prop
def EP(X:Cx)(a:bb (Uq×Obj))(b:St)(Q:VK)(u:Uj)(e:Ur):Prop:=∃v H',Inv X a b H' e/\RelV v u/\Q v H'
def TP(X:Cx)(a:bb (Uq×Obj))(e:St)(Q:Bool->Hp->Prop)(b:Bool)(f:Ur):Prop:=∃H',Inv X a e H' f/\Q b H'
def AP(X:Cx)(a:bb (Uq×Obj))(b:St)(Q:bb V->Hp->Prop)(us:bb Uj)(e:Ur):Prop:=∃vs H',Inv X a b H' e/\Vals vs us/\Q vs H'
def SP(X:Cx)(a:bb (Uq×Obj))(D:Ends)(f:Flow)(b:Ur):Prop:=
 match f with
 |.next=>∃σ' H',Inv X a σ' H' b/\D.nx σ' H'
 |.brk=>∃σ' H',Inv X a σ' H' b/\D.bk σ' H'
 |.cont=>∃σ' H',Inv X a σ' H' b/\D.ct σ' H'
 |.ret u=>∃v σ' H',Inv X a σ' H' b/\RelV v u/\D.rt v H'
def PE(X:Cx)(e:Vq)(t:TE):Prop:=
 ∀(a:bb (Uq×Obj)) (s:Ur) (b:St) (H:Hp) (Q:VK),Inv X a b H s->t b H Q->wpAny (model X.prog X.w) X.A (eval e X.env) (EP X a b Q) X.xe s
def PT(X:Cx)(e:Vq)(t:TT):Prop:=
 ∀(a:bb (Uq×Obj)) (s:Ur) (b:St) (H:Hp) (Q:Bool->Hp->Prop),Inv X a b H s->t b H Q->wpAny (model X.prog X.w) X.A (isTrue e X.env (eval e X.env)) (TP X a b Q) X.xe s
def PW(X:Cx)(e:Vq)(t:TT):Prop:=
 ∀(b:Sem Uj) (a:bb (Uq×Obj)) (s:Ur) (f:St) (H:Hp) (Q:Bool->Hp->Prop),Inv X a f H s->t f H Q->wpAny (model X.prog X.w) X.A (isTrue e X.env b) (TP X a f Q) X.xe s
theorem PW.pt(h:PW X e t):PT X e t:=h _
def PA(X:Cx)(es:bb Vq)(t:TA):Prop:=
 ∀(e:Pos) (a:bb (Uq×Obj)) (s:Ur) (b:St) (H:Hp) (Q:bb V->Hp->Prop),Inv X a b H s->t b H Q->wpAny (model X.prog X.w) X.A (spliced (backTo e (U1 es X.env))) (AP X a b Q) X.xe s
def PS(X:Cx)(e:Ws)(t:TS):Prop:=
 ∀(a:bb (Uq×Obj)) (s:Ur) (b:St) (H:Hp) (D:Ends),Inv X a b H s->t D b H->wpAny (model X.prog X.w) X.A (exec e X.env) (SP X a D) X.xe s
def PSs(X:Cx)(e:bb Ws)(t:TS):Prop:=
 ∀(a:bb (Uq×Obj)) (s:Ur) (b:St) (H:Hp) (D:Ends),Inv X a b H s->t D b H->wpAny (model X.prog X.w) X.A (execs e X.env) (SP X a D) X.xe s
theorem cQ{α:Type}{t:Sem α}{Q b:α->Ur->Prop}{M:adg}{A:U4}{E:Uj->Ur->Prop}{s:Ur}(h:wpAny M A t Q E s)(e:∀a s,Q a s->b a s):wpAny M A t b E s:=wpAny_mono h e λ_ _ x=>x
section
variable{X:Cx}
def zO(i:Nat):TE:=λa H Q=>∃v,a[i]?=lD (lD v)/\Q v H
def tC(v:V):TE:=λ_ H Q=>Q v H
theorem Pc(t:X.N[i]?=lD x)(p:Th X.env.scope x)(hd:(x==("__debug__":Str))=Uw:=by decide)(j:(x==("__classdict__":Str))=Uw:=by decide):PE X (.Name x pos) (zO i):=by
 intro f s o H Q I h;obtain⟨v,e,h⟩:=h;obtain⟨m,hn,q⟩:=I.loc;obtain⟨u,r,l⟩:=q i x v t e p;have b:EP X f o Q u s:=⟨v,H,I,r,h⟩;rcases l with⟨a,hm⟩|⟨a,c,n,g⟩
 .exact ae6 (wpAny_loadName_local I.ok.kind a hn hm b) hd
 .rcases a with a|a
  .exact ae6 (wpAny_loadName_cell I.ok.kind a n g b) hd
  .exact ae6 (wpAny_loadName_free I.ok.kind a n g b j) hd
theorem bp{i j pos}:PE X (.Constant (.int i) j pos) (tC (.int i)):=λ_ _ _ H _ I h=>ae7 ⟨.int i,H,I.tok _,⟨_,rfl⟩,h⟩
theorem NV{b j pos}:PE X (.Constant (.bool b) j pos) (tC (.bl b)):=λ_ _ _ H _ I h=>Constant_bool ⟨.bl b,H,I,rfl,h⟩
theorem nY{j pos}:PE X (.Constant .none j pos) (tC .WA):=λ_ _ _ H _ I h=>Constant_none ⟨.WA,H,I,rfl,h⟩
theorem rb{x j pos}:PE X (.Constant (.str x) j pos) (tC (.str x)):=λ_ _ _ H _ I h=>Calls.Constant_str ⟨.str x,H,I.tok _,⟨_,rfl⟩,h⟩
def Gl(X:Cx)(x:Str):Prop:=X.env.kindOf x=lD .globalImplicit
theorem my(I:Inv X pins σ H s)(a:Gl X x)(hm:X.mg x=lD u)(h:Q u s)
  (hd:(x==("__debug__":Str))=Uw:=by decide):wpAny (model X.prog X.w) X.A (eval (.Name x pos) X.env) Q E s:=
 Calls.Name_function_global I.ok.kind a (Calls.loadGlobal_global (by rw[I.ok.glob];exact I.mod.glob.keeps I.bk) hm h) hd
theorem pY(I:Inv X pins σ H s)(b:Gl X x)(hm:X.mg x=Uh)(a:VD x=lD u)(h:Q u s)
  (hn:x≠ "__name__":=by decide) (hd:(x==("__debug__":Str))=Uw:=by decide):wpAny (model X.prog X.w) X.A (eval (.Name x pos) X.env) Q E s:=by
 obtain⟨g,f,e⟩:=I.mod.blt;exact Calls.Name_function_global I.ok.kind b (Calls.loadGlobal_builtin (by rw[I.ok.glob];exact I.mod.glob.keeps I.bk) hm (by rw[I.ok.blt];exact f.keeps I.bk) ((e x hn).trans a) h) hd
theorem Es{x:Str}{v:V}{u:Uj}{a:Pos}(b:Gl X x)(hm:X.mg x=lD u)(r:RelV v u)(hd:(x==("__debug__":Str))=Uw:=by decide):PE X (.Name x a) (tC v):=
 λ_ _ _ H _ I h=>my I b hm ⟨v,H,I,r,h⟩ hd
theorem xQ(b:Gl X x)(hm:X.mg x=Uh)(a:VD x=lD u)(r:RelV v u)(hn:x≠ "__name__":=by decide)(hd:(x==("__debug__":Str))=Uw:=by decide):PE X (.Name x pos) (tC v):=
 λ_ _ _ H _ I h=>pY I b hm a ⟨v,H,I,r,h⟩ hn hd
variable{a b:Vq}{Z Y:TE}{pos:Pos}
def PC(X:Cx)(i:CmpOp)(a b:Vq)(t:TE):Prop:=
 ∀(e:bb (Uq×Obj)) (s:Ur) (h:St) (H:Hp) (Q:VK),Inv X e h H s->t h H Q->
  wpAny (model X.prog X.w) X.A (eval a X.env) (λv g=>wpAny (model X.prog X.w) X.A (eval b X.env) (λu f=>wpAny (model X.prog X.w) X.A (Wv i v u) (EP X e h Q) X.xe f) X.xe g) X.xe s
def tB(t:TE):TT:=λe H Q=>t e H λx f=>∃c,x=.bl c/\Q c f
theorem J5(h:PC X op a b t)(f:behindInMarks op b=Uw:=by first|exact ag9 _ (by decide) (by decide)|rfl):PT X (.Compare a [op] [b] pos) (tB t):=by intro e s g H Q I l;refine ad4 (cQ (h e s g H _ I l) λv w f=>cQ f λu r m=>cQ m λc p ⟨x,o,n,i,j⟩=>?_) f;obtain⟨d,rfl,q⟩:=j;cases i;exact Ww ⟨o,n,q⟩
theorem JL{e:Vq}{t:TE}(h:PE X e t)(m:∀whole,isTrue e X.env whole=(do let v<-whole;standAt e.pos;holding [v] (truthy v)):=by intro _;rfl):PT X e (tB t):=by intro f s g H Q I l;refine isTrue_plain (cQ (h f s g H _ I l) λv p ⟨x,o,n,i,j⟩=>?_) (m _);obtain⟨d,rfl,q⟩:=j;cases i;exact Ww ⟨o,n,q⟩
variable{T S:TT}{U:bb Vq}
def QM(t u:TT):TT:=λe H Q=>t e H λc f=>if c=Um then u e f Q else Q Uw f
def To(t u:TT):TT:=λe H Q=>t e H λc f=>if c=Um then Q Um f else u e f Q
def P0(t:TT):TT:=λe H Q=>t e H λc f=>Q (!c) f
theorem MV(ha:PT X a T):PW X (.BoolOp .And [a] pos) T:=by
 intro i f s g H Q I h;refine isTrue_and (cQ (ha f s g H Q I h) λc j e=>?_);cases c with
 |true=>exact isTrue_and_nil e
 |false=>exact e
theorem BG(ha:PT X a T):PW X (.BoolOp .Or [a] pos) T:=by
 intro i f s g H Q I h;refine isTrue_or (cQ (ha f s g H Q I h) λc j e=>?_);cases c with
 |false=>exact isTrue_or_nil e
 |true=>exact e
theorem QB(ha:PT X a T)(n:PW X (.BoolOp .And (b::U) pos) S):PW X (.BoolOp .And (a::b::U) pos) (QM T S):=by
 intro l e s f H Q I h;refine isTrue_and (cQ (ha e s f H _ I h) λc m ⟨j,i,g⟩=>?_);cases c with
 |true=>exact n l e m f j Q i g
 |false=>exact⟨j,i,g⟩
theorem JI(ha:PT X a T)(n:PW X (.BoolOp .Or (b::U) pos) S):PW X (.BoolOp .Or (a::b::U) pos) (To T S):=by
 intro l e s f H Q I h;refine isTrue_or (cQ (ha e s f H _ I h) λc m ⟨j,i,g⟩=>?_);cases c with
 |true=>exact⟨j,i,g⟩
 |false=>exact n l e m f j Q i g
theorem Ps(ha:PT X a T):PT X (.UnaryOp .Not a pos) (P0 T):=by intro e s f H Q I h;exact isTrue_not (ha e s f H (λc g=>Q (!c) g) I h)
def Kr(Z Y:TE):TE:=λe H Q=>Z e H λx f=>∃c,x=.bl c/\if c=Um then Y e f Q else Q (.bl Uw) f
def Og(Z:TE):TE:=λe H Q=>Z e H λx f=>∃c,x=.bl c/\Q (.bl (!c)) f
theorem yu{op}(h:PE X a t):PE X (.BoolOp op [a] pos) t:=λe s f H Q I g=>BoolOp_one (h e s f H Q I g)
theorem xo(ha:PE X a Z)(n:PE X (.BoolOp .And (b::U) pos) Y):PE X (.BoolOp .And (a::b::U) pos) (Kr Z Y):=by
 intro e s g H Q I h;refine BoolOp_and (cQ (ha e s g H _ I h) λv l ⟨x,j,i,m,f⟩=>?_);obtain⟨c,rfl,f⟩:=f;cases m;refine Ww ?_;cases c with
 |true=>exact n e l g j Q i f
 |false=>exact⟨.bl Uw,j,i,rfl,f⟩
theorem Kp(ha:PE X a Z):PE X (.UnaryOp .Not a pos) (Og Z):=by intro e s g H Q I h;refine UnaryOp_ (cQ (ha e s g H _ I h) λv m ⟨x,l,j,i,f⟩=>?_);obtain⟨c,rfl,f⟩:=f;cases i;exact not_of (Ww ⟨.bl (!c),l,j,rfl,f⟩)
def S8(t:TT)(Z Y:TE):TE:=λe H Q=>t e H λc f=>if c=Um then Z e f Q else Y e f Q
theorem G1(m:PT X c T)(ha:PE X a Z)(n:PE X b Y):PE X (.IfExp c a b pos) (S8 T Z Y):=by
 intro e s f H Q I h;refine wpAny_IfExp (cQ (m e s f H _ I h) λd g ⟨l,j,i⟩=>?_);cases d with
 |true=>exact ha e g f l Q j i
 |false=>exact n e g f l Q j i
end
def YL(K:Ld)(H:Hp)(a:Uq)(xs:bb V):Prop:=
 Rd H a (.lst xs)\/
  ∃(o:Obj) (b:Array Uj) (n:Nat),K.lookup a=lD o/\o.cls=.type "list"/\o.dict=Uh/\o.data=.seq b n/\b.size<=UB/\Vals xs b.toList
def YA(K:Ld)(H:Hp)(a:Uq)(xs:bb V):Prop:=
 Rd H a (.tup xs)\/
  ∃(o:Obj) (b:Array Uj) (n:Nat),K.lookup a=lD o/\(o.cls=.type "tuple"/\o.dict=Uh)/\o.data=.seq b n/\b.size<=UB/\Vals xs b.toList
def Tw:Uj->bg V
 |.none=>lD .WA
 |.bool b=>lD (.bl b)
 |.int i _=>lD (.int i)
 |.str x _=>lD (.str x)
 |.bytes b _=>lD (.byt b)
 |.float b _=>lD (.flt b)
 |.ref a=>lD (.ref a)
 |.type n=>lD (.ty n)
 |_=>Uh
theorem RelV.abs(r:RelV x u):Tw u=lD x:=by
 cases x with
 |WA=>cases r;rfl
 |bl _=>cases r;rfl
 |int _=>obtain⟨t,rfl⟩:=r;rfl
 |str _=>obtain⟨t,rfl⟩:=r;rfl
 |byt _=>obtain⟨t,rfl⟩:=r;rfl
 |flt _=>obtain⟨t,rfl⟩:=r;rfl
 |ref _=>cases r;rfl
 |ty _=>cases r;rfl
theorem RelV.inj(r:RelV x u)(q:RelV y u):x=y:=UH (r.abs.symm.trans q.abs)
theorem Vals.inj:∀{xs a:bb V} {us:bb Uj},Vals xs us->Vals a us->xs=a
 |_,_,_,.nil,.nil=>rfl
 |_,_,_,.cons r t,.cons r' t'=>by rw[r.inj r',Vals.inj t t']
section
variable{X:Cx}{Z:bb (Uq×Obj)}{Y:St}{H:Hp}{s:Ur}{a:Uq}{xs U:bb V}
theorem YL.of{K:Ld}(h:H a=lD (.lst xs)):YL K H a xs:=.inl (.inl h)
theorem YA.of{K:Ld}(h:H a=lD (.tup xs)):YA K H a xs:=.inl (.inl h)
theorem Inv.list(I:Inv X Z Y H s)(h:YL X.K H a xs):∃Vh:bb Uj,Vals xs Vh/\PlainL s.heap a Vh.toArray/\xs.length<=UB:=by
 rcases h with h|⟨o,Vh,n,hk,hc,hd,hs,hz,r⟩
 .obtain⟨z,Vh,n,r,e⟩:=h.ok I.VR;exact⟨Vh,r,⟨_,n,e,rfl,rfl,rfl⟩,z⟩
 .refine⟨Vh.toList,r,⟨o,n,I.Zv a o hk,hc,hd,by simpa using hs⟩,?_⟩;have e:=r.length;simp only[Vv]at e;ext
theorem Inv.tuple(I:Inv X Z Y H s)(h:YA X.K H a xs):∃Vh:bb Uj,Vals xs Vh/\IsTup s.heap a Vh.toArray/\xs.length<=UB:=by
 rcases h with h|⟨o,Vh,n,hk,hc,hs,hz,r⟩
 .obtain⟨z,Vh,r,p⟩:=h.ok I.VR;exact⟨Vh,r,p.tup,z⟩
 .refine⟨Vh.toList,r,⟨o,I.Zv a o hk,hc.1,n,by simpa using hs⟩,?_⟩;have e:=r.length;simp only[Vv]at e;ext
theorem Inv.afg(I:Inv X Z Y H s)(h:YA X.K H a xs):∃Vh:bb Uj,Vals xs Vh/\aax s.heap a Vh.toArray/\xs.length<=UB:=by
 rcases h with h|⟨o,Vh,n,hk,hc,hs,hz,r⟩
 .obtain⟨z,Vh,r,p⟩:=h.ok I.VR;exact⟨Vh,r,p,z⟩
 .refine⟨Vh.toList,r,⟨o,I.Zv a o hk,⟨hc.1,n,by simpa using hs⟩,hc.2⟩,?_⟩;have e:=r.length;simp only[Vv]at e;ext
theorem Inv.adI(I:Inv X Z Y H s)(h:YL X.K H a xs)(h':YL X.K H a U):xs=U:=by
 obtain⟨j,r,⟨o,n,e,_,_,d⟩,_⟩:=I.list h;obtain⟨b,i,⟨l,m,f,_,_,g⟩,_⟩:=I.list h';rw[e]at f;cases f;rw[d]at g;injection g with d1 _;have:j=b:=by simpa using d3 ae8 d1
 subst this;exact r.inj i
theorem Inv.ac9(I:Inv X Z Y H s)(h:YA X.K H a xs)(h':YA X.K H a U):xs=U:=by
 obtain⟨j,r,⟨o,e,_,n,d⟩,_⟩:=I.tuple h;obtain⟨b,i,⟨l,f,_,m,g⟩,_⟩:=I.tuple h';rw[e]at f;cases f;rw[d]at g;injection g with d1 _;have:j=b:=by simpa using d3 ae8 d1
 subst this;exact r.inj i
end
abbrev Cx.Y6(X:Cx)(E:Uj->Ur->Prop):Cx:={X with xe:=E}
abbrev Cx.nox(X:Cx):Cx:=X.Y6 λ_ _=>False
theorem Cx.Ok.Y6{X:Cx}(ok:X.Ok)(E:Uj->Ur->Prop):(X.Y6 E).Ok:=
 ⟨ok.mod,ok.kind,ok.glob,ok.blt,ok.above,ok.inj,ok.has,ok.cab,ok.hd,ok.frames,ok.stk,ok.exf,ok.bs,ok.bsz,ok.abS,ok.abP,ok.ZA,ok.frf⟩
theorem Cx.Ok.XZ{X:Cx}(ok:(X.Y6 E).Ok):X.Ok:=
 ⟨ok.mod,ok.kind,ok.glob,ok.blt,ok.above,ok.inj,ok.has,ok.cab,ok.hd,ok.frames,ok.stk,ok.exf,ok.bs,ok.bsz,ok.abS,ok.abP,ok.ZA,ok.frf⟩
section
variable{X:Cx}{Z:bb (Uq×Obj)}{Y:St}{H:Hp}{s:Ur}{E:Uj->Ur->Prop}
theorem Inv.Y6(I:Inv X Z Y H s)(E:Uj->Ur->Prop):Inv (X.Y6 E) Z Y H s:=⟨I.ok.Y6 E,I.os,I.bare,I.base,I.loc,I.cell,I.free,I.X2,I.pin,I.VR,I.len⟩
theorem Inv.XZ(I:Inv (X.Y6 E) Z Y H s):Inv X Z Y H s:=⟨I.ok.XZ,I.os,I.bare,I.base,I.loc,I.cell,I.free,I.X2,I.pin,I.VR,I.len⟩
theorem SP.XZ(h:SP (X.Y6 E) Z D f s'):SP X Z D f s':=by
 cases f with
 |next=>obtain⟨a,b,I,q⟩:=h;exact⟨a,b,I.XZ,q⟩
 |brk=>obtain⟨a,b,I,q⟩:=h;exact⟨a,b,I.XZ,q⟩
 |cont=>obtain⟨a,b,I,q⟩:=h;exact⟨a,b,I.XZ,q⟩
 |ret u=>obtain⟨v,a,b,I,r,q⟩:=h;exact⟨v,a,b,I.XZ,r,q⟩
theorem PSs.nox{a:bb Ws}(h:PSs X.nox a t):PSs X a t:=λZ s Y H D I b=>
 wpAny_mono (h Z s Y H D (I.Y6 _) b) (λ_ _ q=>q.XZ) λ_ _ z=>False.elim z
end
section
variable{X:Cx}{U:Ws}{Y:bb Ws}{t u:TS}{e:Vq}{Z:TE}{pos:Pos}
def Kg:TS:=λD a H=>D.nx a H
def MZ(t u:TS):TS:=λD a H=>t {D with nx:=u D} a H
theorem pI:PSs X [] Kg:=λ_ _ a H _ I h=>Yi ⟨a,H,I,h⟩
theorem aw(l:PS X U t)(j:PSs X Y u):PSs X (U::Y) (MZ t u):=by
 intro a s g H D I h;refine agl (cQ (l a s g H {D with nx:=u D} I h) λf i q=>?_);cases f with
 |next=>obtain⟨b,n,m,q⟩:=q;exact j a i b n D m q
 |ret v=>exact q
 |brk=>exact q
 |cont=>exact q
theorem aW(g:PS X U t):PSs X [U] t:=by
 intro a s b H D I h;refine agl (cQ (g a s b H D I h) λf i q=>?_);cases f with
 |next=>exact Yi q
 |ret v=>exact q
 |brk=>exact q
 |cont=>exact q
theorem Inv.quiet{a:bb (Uq×Obj)}{b:St}{H:Hp}{s:Ur}(I:Inv X a b H s):interactive X.env=Uw:=by simp[interactive,I.ok.kind]
def Dr(Z:TE):TS:=λD a H=>Z a H λ_ b=>D.nx a b
theorem g9(i:PE X e Z)(g:V3 e Uh pos.line X.env=pure Uw:=by rfl):PS X (.Expr e pos) (Dr Z):=by intro a s b H D I h;exact wpAny_Expr_any (cQ (i a s b H _ I h) λv m ⟨x,l,j,n,f⟩=>⟨b,l,j,f⟩) I.quiet g
def QZ(Z:TE):TS:=λD a H=>Z a H D.rt
theorem de(i:PE X e Z):PS X (.Return (lD e) pos) (QZ Z):=by intro a s b H D I h;exact wpAny_Return_some (cQ (i a s b H _ I h) λv m ⟨x,l,j,f,g⟩=>⟨x,b,l,j,f,g⟩)
def NY:TS:=λD _ H=>D.rt .WA H
theorem Lr:PS X (.Return Uh pos) NY:=λ_ _ a H _ I h=>wpAny_Return_none ⟨.WA,a,H,I,rfl,h⟩
def OP(c:TT)(t u:TS):TS:=λD a H=>c a H λb f=>if b=Um then t D a f else u D a f
theorem Ar(n:PT X c tc)(ha:PSs X a t)(o:PSs X b u):PS X (.If c a b pos) (OP tc t u):=by
 intro f s g H D I h;refine wpAny_If (cQ (n f s g H _ I h) λd i ⟨m,l,j⟩=>?_);cases d with
 |true=>exact ha f i g m D l j
 |false=>exact o f i g m D l j
end
abbrev TG:=V->St->Hp->(St->Hp->Prop)->Prop
abbrev Pd:=bb V->St->Hp->(St->Hp->Prop)->Prop
def PG(X:Cx)(a:Vq)(t:TG):Prop:=
 ∀(b:bb (Uq×Obj)) (s:Ur) (e:St) (H:Hp) (v:V) (u:Uj) (Q:St->Hp->Prop),Inv X b e H s->RelV v u->t v e H Q->
  wpAny (model X.prog X.w) X.A (assign a X.env u) (λ_ f=>∃σ' H',Inv X b σ' H' f/\Q σ' H') X.xe s
def S5(X:Cx)(f:bb Vq)(t:Pd):Prop:=
 ∀(a:bb (Uq×Obj)) (s:Ur) (b:St) (H:Hp) (vs:bb V) (e:bb Uj) (Q:St->Hp->Prop),Inv X a b H s->Vals vs e->t vs b H Q->
  wpAny (model X.prog X.w) X.A (assignInOrder ((assignEach f X.env).map (·.2)) e) (λ_ g=>∃σ' H',Inv X a σ' H' g/\Q σ' H') X.xe s
section
variable{X:Cx}{pos:Pos}
def wB(i:Nat):TG:=λv a H Q=>Q (a.set i (lD v)) H
theorem bt(hN:X.N.Nodup)(hi:X.N[i]?=lD x)(hx:SU X.env.scope x)(hf:X.fn x=Um\/X.env.scope.names.lookup x=lD .local:=by first|exact .inl rfl|exact .inr rfl|assumption):PG X (.Name x pos) (wB i):=by intro pins s σ H v u Q I r h;exact afN (Au I hN hi hx r (λs' I'=>⟨_,H,I',h⟩) hf)
def QY:Pd:=λvs a H Q=>vs=[]/\Q a H
def GY(t:TG)(u:Pd):Pd:=λvs b H Q=>∃v r,vs=v::r/\t v b H λa e=>u r a e Q
theorem pJ:S5 X [] QY:=by intro a s b H vs f Q I r h;obtain⟨e,h⟩:=h;subst e;cases r;exact assignInOrder_nil ⟨b,H,I,h⟩
theorem gw(n:PG X e t)(m:S5 X es u)
  (l:(assignEach (e::es) X.env).map (·.2)=assign e X.env::(assignEach es X.env).map (·.2):=by rfl):S5 X (e::es) (GY t u):=by
 intro a s f H vs y Q I r h;obtain⟨v,w,o,h⟩:=h;subst o;cases r with
 |cons r i=>rw[l];refine assignInOrder_cons (cQ (n a s f H _ _ _ I r h) λ_ g ⟨b,q,p,j⟩=>?_);exact m a g b q _ _ Q p i j
def Q4(K:Ld)(n:Nat)(t:Pd):TG:=λv b H Q=>∃a xs,v=.ref a/\YA K H a xs/\xs.length=n/\t xs b H Q
theorem t7(q:X.calm=Um)(h:S5 X es t)
  (hn:(assignEach es X.env).length=n:=by rfl) (d5:(assignEach es X.env).findIdx? (·.1)=Uh:=by rfl):PG X (.Tuple es k pos) (Q4 X.K n t):=by
 intro f s i H v u Q I r g;obtain⟨a,xs,w,m,p,g⟩:=g;subst w;cases r;obtain⟨B,rv,l,z⟩:=I.tuple m;refine assign_Tuple_tuple (I.ok.hd q) l (by simp[hn,<-p,rv.length]) d5 λA j=>?_;have y:=I.kept (t':=s.toks) λb o e=>j b o (UX (bP e)) e;exact h f _ i H xs _ Q y (by simpa using rv) g
def Fv(b:TE)(g:TG):TS:=λD a H=>b a H λx e=>g x a e D.nx
theorem Iq(o:PE X e te)(n:PG X tg g)(m:swapsWithSole [tg] e pos.line X.env=pure Uw:=by rfl)(l:swappedStores [tg] e X.env=pure Uh:=by rfl)
  (p:(assignEach [tg] X.env).map (·.2)=[assign tg X.env]:=by rfl):PS X (.Assign [tg] e pos) (Fv te g):=by
 intro a s b H D I h;refine wpAny_Assign_stores (cQ (o a s b H _ I h) λv f ⟨x,t,r,i,j⟩=>?_) m l;rw[p];exact cQ (n a f b t x v _ r i j) λ_ u q=>q
theorem cZ{i:Nat}{x:Str}{e:Vq}{te:TE}{pos':Pos}(hN:X.N.Nodup)(hi:X.N[i]?=lD x)(hx:SU X.env.scope x)(he:PE X e te)(hs:V3 e (lD (.Name x pos')) pos.line X.env=pure Uw:=by rfl)(hf:X.fn x=Um\/X.env.scope.names.lookup x=lD .local:=by first|exact .inl rfl|exact .inr rfl|assumption):
  PS X (.Assign [.Name x pos'] e pos) (Fv te (wB i)):=by
 intro pins s σ H D I h;refine wpAny_Assign_Name (cQ (he pins s σ H _ I h) λv s1 ⟨y,H1,I1,r1,q1⟩=>?_) hs;exact Au I1 hN hi hx r1 (λs2 I2=>⟨_,H1,I2,q1⟩) hf
end
section
variable{X:Cx}{pos:Pos}
def He(c:TT)(f:TS):TS:=λD a H=>∃W:Nat->St->Hp->Prop,(∃m,W m a H)/\∀m a H,W m a H->
 c a H λb e=>if b=Um then∃N:St->Hp->Prop,(∀σ' H',N σ' H'->∃m',m'<m/\W m' σ' H')/\f {D with nx:=N,ct:=N,bk:=D.nx} a e else D.nx a e
theorem uJ(r:XI (model X.prog X.w) X.A X.env X.xe)(L:PT X c tc)(M:PSs X body tb):PS X (.While c body [] pos) (He tc tb):=by
 intro e s B H D I h;obtain⟨W,⟨K,E⟩,turn⟩:=h;refine wpAny_While (codeAny_whileLoop (λn J=>∃σ' H',Inv X e σ' H' J/\W n σ' H') ?_ K ⟨B,H,I,E⟩);rintro n G ⟨g,z,O,C⟩;refine WZ r (cQ (L e G g z _ O (turn n g z C)) λb F ⟨y,u,l⟩=>?_);cases b with
 |true=>
  obtain⟨N,t,l⟩:=l;rw[av rfl];refine WZ r (cQ (M e F g y _ u l) λf P j=>?_);cases f with
  |next=>obtain⟨a,i,q,o⟩:=j;obtain⟨p,hm,m⟩:=t a i o;exact⟨p,hm,a,i,q,m⟩
  |cont=>obtain⟨a,i,q,o⟩:=j;obtain⟨p,hm,m⟩:=t a i o;exact⟨p,hm,a,i,q,m⟩
  |brk=>exact j
  |ret v=>exact j
 |false=>rw[ax UM];exact Yi ⟨g,y,u,l⟩
end
structure It where
 go:Nat->Hp->Prop
 yld:Nat->Hp->V->Hp->Prop
 stop:Nat->Hp->Prop
def qv(X:Cx)(a:bb (Uq×Obj))(H:Hp)(b:Uq):Prop:=
 H b=Uh/\b≠X.env.locals/\b∉X.fs/\(b∈X.ex\/X.s₀.heap.objs.size<=b)/\(∀x c,X.env.cells.lookup x=lD c->c≠b)/\∀p∈X.pn++a,p.1≠b
theorem Inv.abi(I:Inv X pins σ H s)(a:s.heap.objs.size<=b)(hn:H' b=Uh):qv X pins H' b:=by
 refine⟨hn,VN (UU I.lt a),I.aiV a,.inr (Va I.sz a),λx c e z=>?_,λp f z=>?_⟩
 .obtain⟨v,q⟩:=I.cell x c e;exact a5 (UU q.lt (by rw[z];exact a)) (VH _)
 .exact a5 (UU (bP (I.pin p f).1) (by rw[z];exact a)) (VH _)
structure Turn(P:US)(w:Vb)(K:Ld)(tg:Vq)(J:It)(fp:bb Uq)(it:Uq)(tn:Nat->Heap->Prop):Prop where
 mem:it∈fp
 obj:∀i h,tn i h->∀b∈fp,∃o,h.get? b=lD o/\∀v,o.data≠.cell v
 keep:∀i h h',tn i h->(∀b∈fp,∀o,h.get? b=lD o->h'.get? b=lD o)->tn i h'
 item:∀(X:Cx),X.prog=P->X.w=w->X.K=K->X.calm=Um->∀(i:Nat) (pins:bb (Uq×Obj)) (s:Ur) (σ:St) (H:Hp) (E:Uj->Ur->Prop),Inv X pins σ H s->(∀b∈fp,qv X pins H b)->tn i s.heap->J.go i H->
  wpAny (model P w) X.A (pyNext (.ref it)) (λr s1=>∃u,r=lD u/\
   wpAny (model P w) X.A (letOwnedTupleGo tg (.ref it) u) (λ_ s2=>∃x H',Inv X pins σ H' s2/\RelV x u/\J.yld i H x H'/\tn (i+1) s2.heap/\∀b∈fp,H' b=Uh) E s1) E s
 done:∀(X:Cx),X.prog=P->X.w=w->X.K=K->X.calm=Um->∀(i:Nat) (pins:bb (Uq×Obj)) (s:Ur) (σ:St) (H:Hp) (E:Uj->Ur->Prop),Inv X pins σ H s->(∀b∈fp,qv X pins H b)->tn i s.heap->J.stop i H->
  wpAny (model P w) X.A (pyNext (.ref it)) (λr s1=>r=Uh/\Inv X pins σ H s1) E s
 self:∀(A:U4) (i:Nat) (s:Ur) (Q:Uj->Ur->Prop) (E:Uj->Ur->Prop),tn i s.heap->Q (.ref it) s->wpAny (model P w) A (pyIter (.ref it)) Q E s
abbrev TI:=St->Hp->(It->Hp->Prop)->Prop
def TW(X:Cx)(a:bb (Uq×Obj))(l:St)(m:Vq)(R:It->Hp->Prop)(e:Uj)(h:Ur):Prop:=
 ∃(i:Uq) (j:bb Uq) (g:Nat->Heap->Prop) (J:It) (f:Hp),e=.ref i/\Inv X a l f h/\Turn X.prog X.w X.K m J j i g/\g 0 h.heap/\(∀b∈j,qv X a f b)/\R J f
def PI(X:Cx)(g b:Vq)(f:TI):Prop:=
 ∀(a:bb (Uq×Obj)) (s:Ur) (e:St) (H:Hp) (R:It->Hp->Prop),Inv X a e H s->f e H R->
  wpAny (model X.prog X.w) X.A (eval b X.env) (λv h=>wpAny (model X.prog X.w) X.A (pyIter v) (TW X a e g R) X.xe h) X.xe s
theorem Jt{M:adg}{A:U4}{E:Uj->Ur->Prop}{s:Ur}{b:Vq}{e:Uq}{u:Uj}{o:Obj}{n:String}{vs:Array Uj}{Q:Unit->Ur->Prop}(f:s.heap.get? e=lD o)(g:o.cls=.type n)(hd:o.data=.fields vs)
  (hn:["enumerate","zip","dict_itemiterator","dict_reverseitemiterator","odict_iterator","itertools.zip_longest","itertools.pairwise"].contains n=Uw) (a:Q () s):wpAny M A (letOwnedTupleGo b (.ref e) u) Q E s:=by
 unfold letOwnedTupleGo;cases b<;>first
  |exact Ut a
  |(cases u<;>first
    |exact Ut a
    |(refine Ug (ae9 f ?_)
      rw[g,hd];show wpAny M A (if(["enumerate","zip","dict_itemiterator","dict_reverseitemiterator","odict_iterator","itertools.zip_longest","itertools.pairwise"].contains n&&vs[0]? ==lD (rawInt _))=Um then _ else _) Q E s;rw[ax (by intro h;rw[hn,Ye]at h;cases h)];exact Ut a))
def Tl(K:Ld)(a:Uq):It:=
 ⟨λi H=>∃xs x,YL K H a xs/\xs[i]?=lD x,λi H x b=>b=H/\∀xs,YL K H a xs->xs[i]?=lD x,λi H=>∃xs,YL K H a xs/\xs.length<=i⟩
def Tv(K:Ld)(a:Uq):It:=
 ⟨λi H=>∃xs x,YA K H a xs/\xs[i]?=lD x,λi H x b=>b=H/\∀xs,YA K H a xs->xs[i]?=lD x,λi H=>∃xs,YA K H a xs/\xs.length<=i⟩
def S1(lo:Int)(n:Nat):It:=⟨λi _=>i<n,λi H x a=>a=H/\x=.int (lo+i),λi _=>n<=i⟩
theorem FB{K:Ld}(a g:Uq):Turn P w K tg (Tl K a) [g] g (λi h=>h.IsListIter g a i) where
 mem:=by simp
 obj:=λi h f b j=>by
  have e:b=g:=by simpa using j
  subst e;obtain⟨o,e,c,d⟩:=f;exact⟨o,e,λv z=>by rw[d]at z;cases z⟩
 keep:=λi h N f k=>f.at λo e=>k g (by simp) o e
 item:=by intro X A t B M i m s O H E I q f y;subst A t B;obtain⟨xs,x,n,r⟩:=y;obtain⟨Vh,rv,p,S⟩:=I.list n;obtain⟨u,U,R⟩:=rv.get r;obtain⟨L,J,Y,G,F,C⟩:=q g (by simp);refine wpAny_pyNext_list_item f p.isList (by simpa using U) λN l Q=>?_;have I1:=I.turned (t':=s.toks) (λb o j e=>(Q.2 b j).trans e) L J G F C;obtain⟨o,e,c,d⟩:=id l;exact⟨u,rfl,Jt e c d (by decide) ⟨x,H,I1,R,⟨rfl,λys T=>by rw[I.adI T n];exact r⟩,l,λb j=>(q b j).1⟩⟩
 done:=by intro X A t B M i m s O H E I q f y;subst A t B;obtain⟨xs,n,r⟩:=y;obtain⟨Vh,rv,p,S⟩:=I.list n;obtain⟨L,J,Y,G,F,C⟩:=q g (by simp);have hl:=rv.length;exact wpAny_pyNext_list_end (I.ok.hd M) f p.isList (by simp;ext) λN Z=>⟨rfl,I.turned (λb o j e=>Z b o j e) L J G F C⟩
 self:=λ_ _ _ _ _ f h=>wpAny_pyIter_listiter f h
theorem Bx{K:Ld}(a g:Uq):Turn P w K tg (Tv K a) [g] g (λi h=>h.IsTupleIter g a i) where
 mem:=by simp
 obj:=λi h f b j=>by
  have e:b=g:=by simpa using j
  subst e;obtain⟨o,e,c,d⟩:=f;exact⟨o,e,λv z=>by rw[d]at z;cases z⟩
 keep:=λi h O f k=>f.at λo e=>k g (by simp) o e
 item:=by intro X A t B N i m s Q H E I q f y;subst A t B;obtain⟨xs,x,n,r⟩:=y;obtain⟨M,rv,p,T⟩:=I.tuple n;obtain⟨u,Y,S⟩:=rv.get r;obtain⟨L,J,Z,G,F,C⟩:=q g (by simp);refine wpAny_pyNext_tuple_item f (show s.heap.IsTuple a M.toArray from p) (by simpa using Y) λO l R=>?_;have I1:=I.turned (t':=s.toks) (λb o j e=>(R.2 b j).trans e) L J G F C;obtain⟨o,e,c,d⟩:=id l;exact⟨u,rfl,Jt e c d (by decide) ⟨x,H,I1,S,⟨rfl,λys U=>by rw[I.ac9 U n];exact r⟩,l,λb j=>(q b j).1⟩⟩
 done:=by intro X A t B N i m s Q H E I q f y;subst A t B;obtain⟨xs,n,r⟩:=y;obtain⟨M,rv,p,T⟩:=I.tuple n;obtain⟨L,J,Z,G,F,C⟩:=q g (by simp);have hl:=rv.length;exact wpAny_pyNext_tuple_end (I.ok.hd N) f (show s.heap.IsTuple a M.toArray from p) (by simp;ext) λO eb=>⟨rfl,I.turned (λb o j e=>eb b o j e) L J G F C⟩
 self:=λ_ _ _ _ _ f h=>wpAny_pyIter_tupleiter f h
theorem Cs{K:Ld}(g:Uq)(lo:Int)(n:Nat):Turn P w K tg (S1 lo n) [g] g (λi h=>IsRangeIter h g (lo+(i:Nat)*1) ((n:Int) - (i:Nat)) 1) where
 mem:=by simp
 obj:=λi h a b j=>by
  have e:b=g:=by simpa using j
  subst e;exact⟨_,a,λv z=>by have M:=z;cases M⟩
 keep:=λi h A a k=>k g (by simp) _ a
 item:=by intro X u p y r i f s L H E I m a q;subst u p y;obtain⟨J,G,R,F,C,B⟩:=m g (by simp);have W:=Walks.range (prog:=X.prog) (w:=X.w) (I.ok.hd r) g lo 1 n;refine W.item i s _ _ q a λv A N Q l O=>?_;obtain⟨t,rfl⟩:=Q;have T:Inv X f L H {s with heap:=A,toks:=N}:=I.turned (λb o j e=>O b o (by simpa using j) e) J G F C B;refine⟨_,rfl,Jt l rfl rfl (by decide) ⟨.int (lo+i),H,T,⟨t,?_⟩,⟨rfl,rfl⟩,l,λb j=>(m b j).1⟩⟩;rw[Int.mul_one]
 done:=by intro X u p y r i f s L H E I m a q;subst u p y;obtain⟨J,G,R,F,C,B⟩:=m g (by simp);exact wpAny_pyNext_range_end (I.ok.hd r) a (by have:n<=i:=q;ext) λA S=>⟨rfl,I.turned (λb o j e=>S b o j e) J G F C B⟩
 self:=λ_ _ _ _ _ a h=>wpAny_pyIter_rangeiter a h
section
variable{X:Cx}{Z:Vq}
theorem Iz{a:bb (Uq×Obj)}{f:St}{H:Hp}{s:Ur}{R:It->Hp->Prop}{E:Uj->Ur->Prop}{lo hi:Int}{t u v:Tok}{g:Nat}(I:Inv X a f H s)(n: -(2^62)<=lo)(m:lo<2^62)(l: -(2^62)<=hi)(j:hi<2^62)
  (q:R (S1 lo (hi - lo).toNat) H):wpAny (model X.prog X.w) X.A (pyIter (.ref s.heap.objs.size)) (TW X a f Z R) E {s with heap:=s.heap.push {cls:=.type "range",data:=.fields #[.int lo t,.int hi u,.int 1 v]},toks:=g}:=by
 refine wpAny_pyIter_range (IsRange.new ..) (small_one n m l j) ?_;have h:Inv X a f H {s with heap:=s.heap.push {cls:=.type "range",data:=.fields #[.int lo t,.int hi u,.int 1 v]},toks:=g}:=I.kept λb o e=>br _ e;refine⟨(s.heap.push {cls:=.type "range",data:=.fields #[.int lo t,.int hi u,.int 1 v]}).objs.size,[(s.heap.push {cls:=.type "range",data:=.fields #[.int lo t,.int hi u,.int 1 v]}).objs.size],_,_,H,rfl,
  h.kept (t':=g) λb o e=>br _ e,Cs _ lo (hi - lo).toNat,?_,λb i=>?_,q⟩
 .have r:lo+((0:Nat):Int)*1=lo:=by simp
  have p:(((hi - lo).toNat:Nat):Int) - ((0:Nat):Int)=Vf.Range.rangeSize lo hi 1:=by rw[rangeSize_one];split<;>ext
  show IsRangeIter _ _ (lo+((0:Nat):Int)*1) ((((hi - lo).toNat:Nat):Int) - ((0:Nat):Int)) 1;rw[r,p];exact cj _ rfl
 .have e:b=(s.heap.push {cls:=.type "range",data:=.fields #[.int lo t,.int hi u,.int 1 v]}).objs.size:=by simpa using i
  subst e;exact h.abi (Ux _) (h.VR.fresh (Ux _))
def Ko(b:TA):TI:=λa H R=>b a H λvs e=>∃j:Int,vs=[.int j]/\ -(2^62)<=j/\j<2^62/\R (S1 0 j.toNat) e
theorem df(o:Gl X "range")(hm:X.mg "range"=Uh)(ha:PA X [a] ta)(n:U1 [a] X.env=[(Uw,eval a X.env)]:=by rfl):PI X Z (.Call (.Name "range" p) [a] [] pos) (Ko ta):=by
 intro b s g H R I h;refine Call_ (pY I o hm boot_range (XJ (cQ (ha pos b s g H _ I h) λv w ⟨vs,y,u,l,f⟩=>?_) n rfl));obtain⟨j,e,f,m,q⟩:=f;subst e;cases l with
 |cons r i=>cases i;obtain⟨t,rfl⟩:=r;exact call_range_1 (Iz u (by ext) (by ext) f m (by simpa using q))
def PK(e:TI)(g:TG)(f:TS):TS:=λD a H=>e a H λJ j=>∃W:Nat->Nat->St->Hp->Prop,(∃m,W 0 m a j)/\∀i m a H,W i m a H->
 (J.stop i H/\D.nx a H)\/(J.go i H/\∃N:St->Hp->Prop,(∀σ' H',N σ' H'->∃m',m'<m/\W (i+1) m' σ' H')/\∀x H',J.yld i H x H'->g x a H' λb h=>f {D with nx:=N,ct:=N,bk:=D.nx} b h)
def uM(fp:bb Uq)(h:Heap):bb (Uq×Obj):=fp.filterMap λb=>(h.get? b).map λo=>(b,o)
theorem kT(a:b∈fp)(e:h.get? b=lD o):(b,o)∈uM fp h:=Yf.mpr ⟨b,a,by rw[e];rfl⟩
theorem Fw(a:p∈uM fp h):p.1∈fp/\h.get? p.1=lD p.2:=by
 obtain⟨b,f,e⟩:=Yf.mp a;cases q:h.get? b with
 |none=>rw[q]at e;cases e
 |some o=>rw[q]at e;have g:=UH e;subst g;exact⟨f,q⟩
theorem Inv.pinned(I:Inv X pins σ H s)(i:∀b∈fp,qv X pins H b)(h:∀b∈fp,∃o,s.heap.get? b=lD o/\∀v,o.data≠.cell v):Inv X (pins++uM fp s.heap) σ H s:=
 I.abt λp g=>(Vp.mp g).elim (λz=>I.pin p (Vw _ z)) λz=>by obtain⟨a,e⟩:=Fw z;obtain⟨m,l,j,_⟩:=i p.1 a;obtain⟨o,f,d⟩:=h p.1 a;rw[e]at f;cases f;exact⟨e,m,l,j,d⟩
theorem Inv.ZU(I:Inv X (pins++pl) σ H s):Inv X pins σ H s:=I.abt λp a=>I.pin p (Vw _ (X0 _ a))
theorem nZ(L:XI (model X.prog X.w) X.A X.env X.xe)(hc:X.calm=Um)(hi:PI X Z iter wi)(hg:PG X Z g)(p:PSs X body tb)
  (hs:∀x,foldedSetIterable iter X.env x=pure x:=by intro _;rfl):PS X (.For Z iter body [] pos) (PK wi g tb):=by
 intro j s σ H D I h;refine wpAny_For (cQ (hi j s σ H _ I h) λv s1 h1=>cQ h1 λitv s2 h2=>?_) hs;obtain⟨it,O,tn,J,H2,e,I2,T,R,f2,W,⟨m0,w0⟩,turn⟩:=h2;subst e;have E:∀{z:Hp},(∀b∈O,z b=Uh)->∀b∈O,qv X j z b:=λhn b p=>⟨hn b p,(f2 b p).2⟩;refine codeAny_forLoop_any (λn s'=>∃i σ' z,Inv X j σ' z s'/\tn i s'.heap/\(∀b∈O,z b=Uh)/\W i n σ' z) ?_ m0 ⟨0,σ,H2,I2,R,λb p=>(f2 b p).1,w0⟩;rintro n s3 ⟨i,l,P,I3,G,M,w3⟩;rcases turn i n l P w3 with⟨F,qn⟩|⟨go,N,hN,step⟩
 .refine WZ L (cQ (T.done X rfl rfl rfl hc i j s3 l P X.xe I3 (E M) G F) λr s4 ⟨U,I4⟩=>?_);subst U;exact Yi ⟨l,P,I4,qn⟩
 .refine WZ L (cQ (T.item X rfl rfl rfl hc i j s3 l P X.xe I3 (E M) G go) λr s4 ⟨u,U,h4⟩=>?_)
  subst U;refine WZ L (cQ h4 λ_ s5 ⟨x,H5,I5,r5,y5,C,Y⟩=>?_);have I5':=I5.pinned (E Y) (T.obj _ _ C);refine WZ L (cQ (hg _ s5 l H5 x u _ I5' r5 (step x H5 y5)) λ_ s6 ⟨Q,H6,I6,q6⟩=>?_);refine WZ L (cQ (p _ s6 Q H6 _ I6 q6) λf S B=>?_);have q:∀{a:St} {y:Hp},Inv X (j++uM O s5.heap) a y S->N a y->∃m,m<n/\∃i σ' z,Inv X j σ' z S/\tn i S.heap/\(∀b∈O,z b=Uh)/\W i m σ' z:=λ{a y} t K=>by obtain⟨m',hm,w7⟩:=hN a y K;refine⟨m',hm,i+1,a,y,t.ZU,T.keep _ _ _ C λb p o e=>(t.pin (b,o) (Vw _ (Vw _ (kT p e)))).1,λb p=>?_,w7⟩;obtain⟨o,e,d⟩:=T.obj _ _ C b p;exact(t.pin (b,o) (Vw _ (Vw _ (kT p e)))).2.1
  cases f with
  |next=>obtain⟨a,y,t,K⟩:=B;exact q t K
  |cont=>obtain⟨a,y,t,K⟩:=B;exact q t K
  |brk=>obtain⟨a,y,t,B⟩:=B;exact⟨a,y,t.ZU,B⟩
  |ret v=>obtain⟨x7,a,y,t,r7,B⟩:=B;exact⟨x7,a,y,t.ZU,r7,B⟩
end
abbrev R2:=V->V->Hp->VK->Prop
def OpR(X:Cx)(f:Uj->Uj->Sem Uj)(r:R2):Prop:=
 ∀(a:bb (Uq×Obj)) (s:Ur) (b:St) (H:Hp) (x y:V) (v u:Uj) (Q:VK),Inv X a b H s->RelV x v->RelV y u->r x y H Q->
  wpAny (model X.prog X.w) X.A (f v u) (EP X a b Q) X.xe s
def Tq(X:Cx)(f:Uj->Sem Uj)(r:V->Hp->VK->Prop):Prop:=
 ∀(a:bb (Uq×Obj)) (s:Ur) (b:St) (H:Hp) (x:V) (v:Uj) (Q:VK),Inv X a b H s->RelV x v->r x H Q->
  wpAny (model X.prog X.w) X.A (f v) (EP X a b Q) X.xe s
def Xd(X:Cx)(f:Uj)(r:bb V->Hp->VK->Prop):Prop:=
 ∀(a:bb (Uq×Obj)) (s:Ur) (b:St) (H:Hp) (xs:bb V) (e:bb Uj) (Q:VK),Inv X a b H s->Vals xs e->r xs H Q->
  wpAny (model X.prog X.w) X.A (call f e) (EP X a b Q) X.xe s
def Qv(r:R2)(e b:TE):TE:=λa H Q=>e a H λx g=>b a g λy f=>r x y f Q
def TF(r:V->Hp->VK->Prop)(b:TE):TE:=λa H Q=>b a H λx e=>r x e Q
def rI(C:Int->Int->Prop)(g:Int->Int->V):R2:=λx y H Q=>∃i j,x=.int i/\y=.int j/\C i j/\Q (g i j) H
def AX(g:Int->Int->V):R2:=λx y H Q=>∃i j,x=.int i/\y=.int j/\Q (g i j) H
def rU(g:Int->V):V->Hp->VK->Prop:=λx H Q=>∃i,x=.int i/\Q (g i) H
section
variable{X:Cx}{a b c:Vq}{Z Y tc:TE}{pos:Pos}
theorem Pm(ha:PE X a Z)(n:PE X b Y){R:V->V->Hp->Prop}(I:Inv X pins σ H s)
  (h:Z σ H λx H1=>Y σ H1 λy H2=>R x y H2) {f:Uj->Uj->Sem Uj}
  (m:∀v u s2 x y H2,Inv X pins σ H2 s2->RelV x v->RelV y u->R x y H2->wpAny (model X.prog X.w) X.A (f v u) Q X.xe s2):
  wpAny (model X.prog X.w) X.A (eval a X.env) (λv s₁=>wpAny (model X.prog X.w) X.A (eval b X.env) (λu s₂=>wpAny (model X.prog X.w) X.A (f v u) Q X.xe s₂) X.xe s₁) X.xe s:=by
 refine cQ (ha pins s σ H _ I h) λv e ⟨x,H1,p,i,l⟩=>?_;refine cQ (n pins e σ H1 _ p l) λu s2 ⟨y,H2,o,g,j⟩=>?_;exact m v u s2 x y H2 o i g j
theorem pH(l:OpR X (Wi op) r)(ha:PE X a Z)(m:PE X b Y):PE X (.BinOp a op b pos) (Qv r Z Y):=by intro e s f H Q I h;exact wpAny_BinOp (Pm ha m I h λv u g x y o n j i q=>l e g f o x y v u Q n j i q)
theorem DJ(l:Tq X (unaryOp op) r)(ha:PE X a Z):PE X (.UnaryOp op a pos) (TF r Z):=by intro e s f H Q I h;exact UnaryOp_ (cQ (ha e s f H _ I h) λv g ⟨x,n,m,i,j⟩=>l e g f n x v Q m i j)
theorem Rj{g:Int->Int->Int}
  (e:∀(i j:Int) (t u:Tok) (s:Ur) (Q:Uj->Ur->Prop) (E:Uj->Ur->Prop),C i j->Q (.int (g i j) s.toks) {s with toks:=s.toks+1}->wpAny (model X.prog X.w) X.A (f (.int i t) (.int j u)) Q E s):
  OpR X f (rI C λi j=>.int (g i j)):=by
 intro l s r H x y v u Q I o n h;obtain⟨i,j,rfl,rfl,p,q⟩:=h;obtain⟨t,rfl⟩:=o;obtain⟨m,rfl⟩:=n;exact e i j t m s _ _ p ⟨.int (g i j),H,I.tok _,⟨_,rfl⟩,q⟩
theorem PZ{g:Int->Int->Int}
  (e:∀(i j:Int) (t u:Tok) (s:Ur) (Q:Uj->Ur->Prop) (E:Uj->Ur->Prop),Q (.int (g i j) s.toks) {s with toks:=s.toks+1}->wpAny (model X.prog X.w) X.A (f (.int i t) (.int j u)) Q E s):
  OpR X f (AX λi j=>.int (g i j)):=by
 intro l s p H x y v u Q I o n h;obtain⟨i,j,rfl,rfl,q⟩:=h;obtain⟨t,rfl⟩:=o;obtain⟨m,rfl⟩:=n;exact e i j t m s _ _ ⟨.int (g i j),H,I.tok _,⟨_,rfl⟩,q⟩
theorem QP{g:Int->Int->Bool}
  (e:∀(i j:Int) (t u:Tok) (s:Ur) (Q:Uj->Ur->Prop) (E:Uj->Ur->Prop),Q (.bool (g i j)) s->wpAny (model X.prog X.w) X.A (f (.int i t) (.int j u)) Q E s):
  OpR X f (AX λi j=>.bl (g i j)):=by
 intro l s p H x y v u Q I o n h;obtain⟨i,j,rfl,rfl,q⟩:=h;obtain⟨t,rfl⟩:=o;obtain⟨m,rfl⟩:=n;exact e i j t m s _ _ ⟨.bl (g i j),H,I,rfl,q⟩
def JK(i j:Int):Prop:=0<=j/\j<=1000000/\i.natAbs<2^64
def aeK(i j:Int):Prop:=(-(2^64)<i/\i<2^64)\/(-(2^64)<j/\j<2^64)
theorem aeK.ok(h:aeK i j):IntMulOk i j:=by
 rcases h with⟨f,e⟩|⟨f,e⟩
 .exact .of_left (akE f e)
 .exact .of_right (akE f e)
theorem two_pow_nn(k:Nat):(0:Int)<=2^k:=by rw[two_pow_cast];exact Int.natCast_nonneg _
theorem OX:OpR X (Wi .Add) (AX λi j=>.int (i+j)):=PZ λ_ _ _ _ _ _ _ q=>add_int q
theorem Qe:OpR X (Wi .Sub) (AX λi j=>.int (i - j)):=PZ λ_ _ _ _ _ _ _ q=>sub_int q
theorem PH:OpR X (Wi .Mult) (rI aeK λi j=>.int (i*j)):=Rj λ_ _ _ _ _ _ _ e q=>mul_int q e.ok
theorem QT:OpR X (Wi .Mod) (rI (λ_ j=>0<j) λi j=>.int (i % j)):=Rj λi j _ _ _ _ _ e q=>by have f:(0:Int)<j:=e;exact mod_int' (by ext) (by rw[Int.fmod_eq_emod_of_nonneg i (by ext)];exact q)
theorem OQ:OpR X (Wi .Pow) (rI JK λi j=>.int (i^j.toNat)):=Rj λ_ _ _ _ _ _ _ e q=>pow_int_small e.1 e.2.1 e.2.2 q
theorem HC:OpR X (Wi .LShift) (rI JK λi j=>.int (i*2^j.toNat)):=Rj λ_ _ _ _ _ _ _ e q=>lshift_int_small e.1 e.2.1 e.2.2 q
theorem Gy:OpR X (Wi .RShift) (rI (λ_ j=>0<=j) λi j=>.int (i/2^j.toNat)):=Rj λi j _ _ _ _ _ e q=>
 rshift_int e (by rw[aba i (two_pow_nn _)];exact q)
theorem JO:OpR X (Wi .BitAnd) (AX λi j=>.int (Vf.bitAnd i j)):=PZ λ_ _ _ _ _ _ _ q=>and_int q
theorem T8{g:Int->Int}
  (e:∀(i:Int) (t:Tok) (s:Ur) (Q:Uj->Ur->Prop) (E:Uj->Ur->Prop),Q (.int (g i) s.toks) {s with toks:=s.toks+1}->wpAny (model X.prog X.w) X.A (f (.int i t)) Q E s):
  Tq X f (rU λi=>.int (g i)):=by
 intro j s m H x v Q I l h;obtain⟨i,rfl,q⟩:=h;obtain⟨t,rfl⟩:=l;exact e i t s _ _ ⟨.int (g i),H,I.tok _,⟨_,rfl⟩,q⟩
theorem yK:Tq X (unaryOp .USub) (rU λi=>.int (-i)):=T8 λ_ _ _ _ _ q=>neg_int q
end
section
variable{X:Cx}{a b c:Vq}{Y Z tc:TE}{pos:Pos}
theorem IQ(I:Inv X pins σ H s)(q:Q (.bl k) H)(e:k=k'):EP X pins σ Q (.bool k') s:=by subst e;exact⟨.bl k,H,I,rfl,q⟩
theorem Ol:OpR X (Wv .Lt) (AX λi j=>.bl (decide (i<j))):=QP λ_ _ _ _ _ _ _ q=>lt_int q
theorem Hk:OpR X (Wv .Gt) (AX λi j=>.bl (decide (j<i))):=QP λ_ _ _ _ _ _ _ q=>gt_int q
theorem Oz:OpR X (Wv .GtE) (AX λi j=>.bl (decide (j<=i))):=QP λ_ _ _ _ _ _ _ q=>ge_int q
theorem Qa:OpR X (Wv .Is) (λx y H Q=>y=.WA/\Q (.bl (decide (x=.WA))) H):=by
 intro f s i H x y v u Q I e g h;obtain⟨rfl,q⟩:=h;cases g;refine is_none_gen (IQ I q ?_);cases x<;>first
  |(cases e;rfl)
  |(obtain⟨t,rfl⟩:=e;rfl)
theorem Ee:OpR X (Wv .IsNot) (λx y H Q=>y=.WA/\Q (.bl (!decide (x=.WA))) H):=by
 intro f s i H x y v u Q I e g h;obtain⟨rfl,q⟩:=h;cases g;refine isnot_none_gen (IQ I q ?_);cases x<;>first
  |(cases e;rfl)
  |(obtain⟨t,rfl⟩:=e;rfl)
theorem gS(b:Vq)(h:op≠.In:=by decide)(e:op≠.NotIn:=by decide):behindInMarks op b=Uw:=by
 have g:(op==CmpOp.In)=Uw:=by cases op<;>first|rfl|exact a5 rfl h
 have f:(op==CmpOp.NotIn)=Uw:=by cases op<;>first|rfl|exact a5 rfl e
 cases b<;>simp[behindInMarks,g,f]
theorem jH{f:CmpOp}{r:R2}(m:OpR X (Wv f) r)(ha:PE X a Y)(n:PE X b Z)(hm:behindInMarks f b=Uw):PE X (.Compare a [f] [b] pos) (Qv r Y Z):=by intro e s g H Q I h;exact wpAny_Compare1 (Pm ha n I h λv u i x y p o l j q=>m e i g p x y v u Q o l j q) hm
def Hc(t:TE):TT:=λe H Q=>t e H λx f=>∃k,x=.bl k/\Q k f
theorem gZ(t:OpR X (Wv op) r)(ha:PE X a Y)(w:PE X b Z)(hm:behindInMarks op b=Uw):PT X (.Compare a [op] [b] pos) (Hc (Qv r Y Z)):=by
 intro f s g H Q I h;refine ad4 (cQ (ha f s g H _ I h) λv j ⟨x,G,C,n,q⟩=>cQ (w f j g G _ C q) λu i ⟨y,F,B,m,p⟩=>
  cQ (t f i g F x y v u _ B n m p) λc J ⟨z,E,A,l,k,e,o⟩=>?_) hm
 subst e;cases l;exact Ww ⟨E,A,o⟩
theorem xb:(UB:Nat)<2^63:=by rw[Wx];decide
theorem k8(r:Vals [x] us):∃u,us=[u]/\RelV x u:=by
 cases r with
 |cons f e=>cases e;exact⟨_,rfl,f⟩
theorem D8(r:Vals [x,y] us):∃u w',us=[u,w']/\RelV x u/\RelV y w':=by
 cases r with
 |cons h g=>
  cases g with
  |cons f e=>cases e;exact⟨_,_,rfl,h,f⟩
theorem FY(g:X.calm=Um):Xd X (.builtin "max") (λxs H Q=>∃i j,xs=[.int i,.int j]/\Q (.int (if j>i then j else i)) H):=by
 intro f s l H xs n Q I r h;obtain⟨i,j,rfl,q⟩:=h;obtain⟨u,m,rfl,⟨t,rfl⟩,⟨p,rfl⟩⟩:=D8 r;refine max_two_ints (I.ok.hd g) λv o k=>⟨_,H,I.kept k,?_,q⟩;by_cases e:j>i
 .rw[av e,av e];exact⟨_,rfl⟩
 .rw[ax e,ax e];exact⟨_,rfl⟩
def RL(K:Ld)(x:V)(H:Hp)(n:Nat):Prop:=
 match x with
 |.str y=>y.length<=UB/\n=y.length
 |.byt y=>y.size<=UB/\n=y.size
 |.ref p=>(∃xs,YL K H p xs/\n=xs.length)\/∃xs,YA K H p xs/\n=xs.length
 |_=>False
theorem di:Xd X (.builtin "len") (λxs H Q=>∃x n,xs=[x]/\RL X.K x H n/\Q (.int n) H):=by
 intro m s z H xs A Q I r h;obtain⟨x,n,rfl,e,q⟩:=h;obtain⟨u,rfl,i⟩:=k8 r;have C:=xb;have B:=Wx;cases x with
 |str y=>obtain⟨t,rfl⟩:=i;obtain⟨v,g⟩:=e;subst g;exact len_str (by ext) ⟨.int _,H,I.tok _,⟨_,rfl⟩,q⟩
 |byt y=>obtain⟨t,rfl⟩:=i;obtain⟨v,g⟩:=e;subst g;exact PySem.W.len_bytes (by ext) ⟨.int _,H,I.tok _,⟨_,rfl⟩,q⟩
 |ref p=>
  cases i;have g:=e;rcases g with⟨xs,l,g⟩|⟨xs,l,g⟩
  .subst g;obtain⟨w,j,pl,o⟩:=I.list l;have f:=j.length;exact Calls.call_len_list pl.isList (by simp only[UG];ext) ⟨.int xs.length,H,I.tok _,⟨_,by simp only[UG];rw[f]⟩,q⟩
  .subst g;obtain⟨w,j,pl,o⟩:=I.tuple l;have f:=j.length;exact len_tuple pl (by simp only[UG];ext) ⟨.int xs.length,H,I.tok _,⟨_,by simp only[UG];rw[f]⟩,q⟩
 |_=>exact(show False from e).elim
end
structure acp(h:Heap)(x dx C:Uq)(mA:Str->bg Uj):Prop where
 obj:h.get? x=lD (Wj C dx)
 ns:h.Ns1 dx mA
 ne:dx≠x
theorem FW{h:Heap}(n:h.Ns1 dx mA):∃od,h.get? dx=lD od/\∀name,YS name od=lD (mA name):=by
 obtain⟨o,f,p,i,l,j,_,hm⟩:=n;refine⟨o,i,λname=>?_⟩;have e:=hm name;unfold nsFind findBy at e;rw[<-acX]at e;unfold YS;rw[l];dsimp only;split
 .rename_i y q;rw[q]at e;exact d3 lD e
 .rename_i q
  rw[q]at e;have a:f.toList.any (·.refKey)=Uw:=by rw[List.any_eq_false];intro y g;obtain⟨z,t,b⟩:=j y (Array.mem_toList_iff.mp g);simp[XM.refKey,b]
  have m:¬f.toList.any (·.refKey)=Um:=by rw[a];exact UM
  rw[ax m];exact d3 lD e
theorem acp.look(I:acp h x dx C mA):∃od,PySem.W.InstAt h x (Wj C dx) C (lD od)/\∀name,YS name od=lD (mA name):=
 let⟨od,ho,hl⟩:=FW I.ns
 ⟨od,⟨I.obj,rfl,rfl,ho⟩,hl⟩
section
variable{prog:US}{w:Vb}{A:U4}{E:Uj->Ur->Prop}{s:Ur}{K:Ld}{x dx C f:Uq}{Z:Str->bg Uj}{name:Str}{v:Uj}
theorem Mj(X:K.In s.heap)(I:acp s.heap x dx C Z)(i:XA K C name=Um)(g:Yg K C=Um)
  (ha:Vi K (.ref C) name=lD Uh) (b:Z name=lD v) (a:acY v=Um) (h:Q v {s with toks:=s.toks+1}):
  wpAny (model prog w) A (getAttr (.ref x) name expr) Q E s:=by
 obtain⟨j,J,e⟩:=I.look;exact PySem.W.get_value X J (Zd i).1 (PySem.W.findObj_own g ha rfl (by rw[e,b])) a h
theorem Gr(X:K.In s.heap)(I:acp s.heap x dx C Z)(a:XA K C name=Um)
  (j:Vi K (.ref C) name=lD (lD (.ref f))) (g:W0 K (.ref f)=Um) (e:Z name=Uh) (h:Q (.ref f,[.ref x]) s):
  wpAny (model prog w) A (getMethod (.ref x) name pl) Q E s:=by
 obtain⟨b,J,i⟩:=I.look;exact PySem.W.method_fn X J (Zd a).1 (Zd a).2 j (beq_iff_eq.mp g) (by show(YS name b).map (·.isSome)=lD Uw;rw[i,e];rfl) h
theorem Mh(X:K.In s.heap)(I:acp s.heap x dx C Z)
  (p:Vi K (.ref C) "__setattr__"=lD (lD (.builtin "object.__setattr__"))) (q:ZK K C=Um) (o:aap K C name=lD Uh) (r:Yg K C=Um)
  (n:abI Z ns) (hsz:ns.length<=UB)
  (h:∀h',acp h' x dx C (λy=>if y=name then lD v else Z y)->Heap.SameBut dx s.heap h'->Q () {s with heap:=h',toks:=s.toks+2}):
  wpAny (model prog w) A (setAttr (.ref x) name v) Q E s:=by
 obtain⟨B,J,G⟩:=I.look;refine PySem.W.set_plain X J p (PySem.W.osa_open X J q o λb=>?_);obtain⟨H,t,i⟩:=PySem.W.any_some r;have m:=I.obj;refine Ug (Ut (Ug (Ug (aiC m (Ug (agm (PySem.W.looks_clsIn X t) ?_))))));rw[i];refine Ut (Ug (Ut (Ug ?_)));refine wpAny_nsSet1 I.ns λh' a l=>?_;obtain⟨F,u,z,e,g,j⟩:=a.count (aht name v n);refine Ug (agn e (by rw[g];exact ago (Va j (by rw[UD];ext))) ?_);exact Ut (h _ ⟨(l.2 _ (dN I.ne)).trans I.obj,a,I.ne⟩ l)
theorem HX{R:abb->Ur->Prop}{vs:bb Uj}{b:bb (Str×Uj)}(X:K.In s.heap)(hm:aaq K C=Um)
  (hi:Vi K (.ref C) "__init__"=lD (lD (.ref f))) (e:adv K (.ref f)=lD (.type "function"))
  (h:codeAny (model prog w) (A.under (.builtin "type.__call__" ⟨.ref C::vs,b⟩)) (.call (.ref f) ⟨.ref (s.heap.objs.size+1)::vs,b⟩) (PySem.W.InitBack (s.heap.objs.size+1) R)
   {s with heap:=(s.heap.push VX).push (Wj C s.heap.objs.size)}):
  codeAny (model prog w) A (.call (.ref C) ⟨vs,b⟩) R s:=by
 obtain⟨j,g,d,t,i⟩:=s;exact PySem.W.make_core (PySem.W.makes_of X hm) (PySem.W.looks_findIn X hi) (λa=>PySem.W.bind_fn X a e) (.inl rfl) h
end
def jQ(f:Str)(v:V):bb (Str×V)->bb (Str×V)
 |[]=>[(f,v)]
 |(g,x)::r=>if g=f then(g,v)::r else(g,x)::jQ f v r
theorem rO(f g:Str)(v:V):∀fs:bb (Str×V),(jQ f v fs).lookup g=if g=f then lD v else fs.lookup g
 |[]=>by
  show WH g [(f,v)]=_;by_cases h:g=f
  .have a:=beq_iff_eq.mpr h;simp only[WH,a,av h]
  .have a:=beq_eq_false_iff_ne.mpr h;simp only[WH,a,ax h]
 |(k,x)::r=>by
  have i:=rO f g v r;rw[show jQ f v ((k,x)::r)=(if k=f then(k,v)::r else(k,x)::jQ f v r)from rfl];by_cases b:k=f
  .rw[av b]
   by_cases h:g=k
   .have a:=beq_iff_eq.mpr h;simp only[WH,a,av (h.trans b)]
   .have a:=beq_eq_false_iff_ne.mpr h;simp only[WH,a,ax (λe:g=f=>h (e.trans b.symm))]
  .rw[ax b]
   by_cases h:g=k
   .have a:=beq_iff_eq.mpr h;simp only[WH,a,ax (λe:g=f=>b (h.symm.trans e))]
   .have a:=beq_eq_false_iff_ne.mpr h;simp only[WH,a];exact i
theorem qI(f:Str)(v:V):∀fs:bb (Str×V),f∈(jQ f v fs).map (·.1)/\∀g,g∈fs.map (·.1)->g∈(jQ f v fs).map (·.1)
 |[]=>⟨by simp[jQ],λg h=>by simp at h⟩
 |(k,x)::r=>by
  obtain⟨i,b⟩:=qI f v r;rw[show jQ f v ((k,x)::r)=(if k=f then(k,v)::r else(k,x)::jQ f v r)from rfl];by_cases a:k=f
  .rw[av a];subst a;exact⟨by simp,λg h=>by simpa using h⟩
  .rw[ax a]
   refine⟨?_,λg h=>?_⟩
   .rw[UJ];exact UC _ i
   .rw[UJ]at h⊢
    rcases U2.mp h with e|e
    .exact U2.mpr (.inl e)
    .exact UC _ (b g e)
theorem rS(f:Str)(v:V):∀fs:bb (Str×V),(jQ f v fs).length<=fs.length+1
 |[]=>by simp[jQ]
 |(k,x)::r=>by
  have b:=rS f v r;rw[show jQ f v ((k,x)::r)=(if k=f then(k,v)::r else(k,x)::jQ f v r)from rfl];by_cases a:k=f
  .rw[av a,UD,UD];ext
  .rw[ax a,UD,UD];ext
theorem Ys.some_of(r:Ys (lD v) o):∃u,o=lD u/\RelV v u:=by
 cases o with
 |none=>exact(show False from r).elim
 |some u=>exact⟨u,rfl,r⟩
theorem Ys.none_of(r:Ys Uh o):o=Uh:=by
 cases o with
 |none=>rfl
 |some u=>exact(show False from r).elim
theorem FR(r:RelV v u):acY u=Um:=by
 cases v with
 |WA=>cases(show u=Uj.none from r);rfl
 |bl b=>cases(show u=Uj.bool b from r);rfl
 |int i=>obtain⟨t,e⟩:=(show∃t,u=Uj.int i t from r);cases e;rfl
 |str x=>obtain⟨t,e⟩:=(show∃t,u=Uj.str x t from r);cases e;rfl
 |byt b=>obtain⟨t,e⟩:=(show∃t,u=Uj.bytes b t from r);cases e;rfl
 |flt b=>obtain⟨t,e⟩:=(show∃t,u=Uj.float b t from r);cases e;rfl
 |ref a=>cases(show u=Uj.ref a from r);rfl
 |ty n=>cases(show u=Uj.type n from r);rfl
section
variable{P:US}{w:Vb}{H H':Hp}{h h':Heap}{a C dx:Uq}{fs fs':bb (Str×V)}
theorem yd(VR:Y9 P w H h)(e:H a=lD (.ins C dx fs)):∃mA,acp h a dx C mA/\(∀f,Ys (fs.lookup f) (mA f))/\abI mA (fs.map (·.1))/\fs.length<=1000/\H dx=lD (.own a):=by obtain⟨d,z,ne,b,mA,n,r,q⟩:=(show ObjOk P w H h a (.ins C dx fs)from VR a _ e);exact⟨mA,⟨b,n,ne⟩,r,q,z,d⟩
end
structure Cls(K:Ld)(C:Uq):Prop where
 pg:XA K C Str.empty=Um
 hd:Yg K C=Um
 po:ZK K C=Um
 sa:Vi K (.ref C) "__setattr__"=lD (lD (.builtin "object.__setattr__"))
theorem Cls.get{K:Ld}(c:Cls K C)(f:Str):XA K C f=Um:=c.pg
def Yk(K:Ld)(C:Uq)(f:Str):Prop:=Vi K (.ref C) f=lD Uh
theorem Yk.ag4{K:Ld}(n:Yk K C f):aap K C f=lD Uh:=by unfold aap;rw[show Vi K (.ref C) f=lD Uh from n];rfl
structure Con(K:Ld)(C:Uq)(f:Str)(v:V)(u:Uj):Prop where
 at_:Vi K (.ref C) f=lD (lD u)
 rel:RelV v u
 get:Xs K u "__get__"=lD Uh
 cp:PySem.W.copiedNames.contains f=Uw
structure Meth(K:Ld)(C:Uq)(m:Str)(f:Uq):Prop where
 at_:Vi K (.ref C) m=lD (lD (.ref f))
 fn:W0 K (.ref f)=Um
 kp:V8 K (.ref f)=Um
section
variable{X:Cx}{Z:bb (Uq×Obj)}{Y:St}{H:Hp}{s:Ur}{a C dx:Uq}{fs:bb (Str×V)}{f:Str}{v:V}{A:U4}{E:Uj->Ur->Prop}
theorem BQ(I:Inv X Z Y H s)(e:H a=lD (.ins C dx fs))(c:Cls X.K C)(n:Yk X.K C f)(l:fs.lookup f=lD v)
  (h:∀u s',Inv X Z Y H s'->RelV v u->Q u s'):wpAny (model X.prog X.w) A (getAttr (.ref a) f b) Q E s:=by
 obtain⟨j,O,r,_,_,_⟩:=yd I.VR e;obtain⟨u,i,g⟩:=Ys.some_of (by rw[<-l];exact r f);exact Mj I.Zv O (c.get f) c.hd n i (FR g) (h u _ (I.tok _) g)
theorem tN(I:Inv X Z Y H s)(e:H a=lD (.ins C dx fs))(c:Cls X.K C)(k:Meth X.K C m g)(l:fs.lookup m=Uh)
  (h:Q (.ref g,[.ref a]) s):wpAny (model X.prog X.w) A (getMethod (.ref a) m pl) Q E s:=by
 obtain⟨b,O,r,_,_,_⟩:=yd I.VR e;have hn:=Ys.none_of (by rw[<-l];exact r m);exact Gr I.Zv O (c.get m) k.at_ k.fn hn h
theorem Ck(I:Inv X Z Y H s)(e:H a=lD (.ins C dx fs))(c:Cls X.K C)(n:Yk X.K C f)(M:fs.length<1000)(t:RelV y u)
  (h:∀s',Inv X Z Y (bM H a (.ins C dx (jQ f y fs))) s'->Q () s'):wpAny (model X.prog X.w) A (setAttr (.ref a) f u) Q E s:=by
 obtain⟨l,O,r,j,_,m⟩:=yd I.VR e;have B:(fs.map (·.1)).length<=UB:=by rw[Ui,Wx];ext
 refine Mh I.Zv O c.sa c.po n.ag4 c.hd j B λL i p=>h _ ?_;have G:∃o,L.get? dx=lD o:=let⟨o,_,_,e',_⟩:=i.ns;⟨o,e'⟩
 refine I.write (by rw[e];exact True.intro) (.inr m) (λb q J z=>(p.2 b J).trans z) G ?_;refine⟨by rw[aI O.ne];exact m,?_,O.ne,i.obj,_,i.ns,λg=>?_,λg F=>?_⟩
 .have:=rS f y fs;ext
 .show Ys ((jQ f y fs).lookup g) (if g=f then lD u else l g)
  rw[rO];by_cases q:g=f
  .rw[av q,av q];exact t
  .rw[ax q,ax q];exact r g
 .by_cases q:g=f
  .rw[q];exact(qI f y fs).1
  .refine(qI f y fs).2 g (j g λz=>F ?_);show(if g=f then lD u else l g)=Uh;rw[ax q];exact z
theorem Inv.made(I:Inv X Z Y H s):Inv X Z Y (bM (bM H s.heap.objs.size (.own (s.heap.objs.size+1))) (s.heap.objs.size+1) (.ins C s.heap.objs.size []))
  {s with heap:=(s.heap.push VX).push (Wj C s.heap.objs.size)}:=by
 have g:(s.heap.push VX).get? s.heap.objs.size=lD VX:=cj s.heap rfl;have l:((s.heap.push VX).push (Wj C s.heap.objs.size)).get? (s.heap.objs.size+1)=lD (Wj C s.heap.objs.size):=by have:=cj (s.heap.push VX) (o:=Wj C s.heap.objs.size) rfl;rwa [cN]at this
 have j:(s.heap.push VX).Ns s.heap.objs.size (λ_=>Uh):=⟨VX,#[],_,g,rfl,(λe i=>a5 i (by simp)),λ_=>rfl⟩;have m:=I.laid (a:=s.heap.objs.size) (o:=.own (s.heap.objs.size+1)) (h':=s.heap.push VX) (t':=s.toks) (λb u q=>br _ q) (Ux _) ⟨_,g⟩;refine m.laid (a:=s.heap.objs.size+1) (o:=.ins C s.heap.objs.size []) (t':=s.toks) (λb u q=>br _ q) (W7 (cN _ _)) ?_;have ne:s.heap.objs.size≠s.heap.objs.size+1:=UX (XW _);refine⟨by rw[aI ne,aV],Vl _,ne,l,λ_=>Uh,(Heap.Ns1.of_empty j).at λo q=>br _ q,λ_=>True.intro,λy h=>a5 rfl h⟩
theorem LO{prog:US}{w:Vb}{env:Env}{e:Vq}{f:Str}{b:Pos}{s:Ur}{Q:Uj->Ur->Prop}(g:attributeBase e f env (eval e env)=eval e env)
  (h:wpAny (model prog w) A (eval e env) (λo s₁=>wpAny (model prog w) A (getAttr o f Um) Q E s₁) E s):wpAny (model prog w) A (eval (.Attribute e f b) env) Q E s:=
 Attribute_any_ h (by rw[arm_eval_Attribute,g])
end
def Pt(K:Ld)(g:TE)(f:Str):TE:=λe H Q=>g e H λx b=>∃a C dx fs v,x=.ref a/\b a=lD (.ins C dx fs)/\Cls K C/\Yk K C f/\fs.lookup f=lD v/\Q v b
def Q1(K:Ld)(h g:TE)(f:Str):TS:=λD b H=>g b H λy i=>h b i λx e=>∃a C dx fs,x=.ref a/\e a=lD (.ins C dx fs)/\Cls K C/\Yk K C f/\fs.length<1000/\
 D.nx b (bM e a (.ins C dx (jQ f y fs)))
section
variable{X:Cx}{o e Z:Vq}{f:Str}{pos Y ajc:Pos}{U tv:TE}
theorem b5(m:PE X e U)(p:attributeBase e f X.env (eval e X.env)=eval e X.env):PE X (.Attribute e f pos) (Pt X.K U f):=by intro b s g H Q I h;refine LO p (cQ (m b s g H _ I h) λu E ⟨x,z,y,i,a,C,dx,fs,v,r,t,c,n,l,q⟩=>?_);subst r;obtain rfl:=i;exact BQ y t c n l λA B w j=>⟨v,z,w,j,q⟩
theorem kM(ha:PE X o U)(r:PE X Z tv)(t:V3 Z (lD (.Attribute o f Y)) pos.line X.env=pure Uw):PS X (.Assign [.Attribute o f Y] Z pos) (Q1 X.K U tv f):=by intro b s g H D I h;refine aa3 (cQ (r b s g H _ I h) λu i ⟨y,E,B,j,q⟩=>cQ (ha b i g E _ B q) λJ G ⟨x,L,A,m,a,C,dx,fs,v,w,c,n,l,p⟩=>?_) t;subst v;obtain rfl:=m;exact Ck A w c n l j λF z=>⟨g,_,z,p⟩
end
section
variable{X:Cx}{pins:bb (Uq×Obj)}{σ:St}{H:Hp}{s:Ur}{A:U4}{E:Uj->Ur->Prop}{Q:Uj->Ur->Prop}{c:Uj}{b:Bool}
inductive aaJ(K:Ld)(H:Hp):V->Uj->Prop where
 |WA:aaJ K H .WA (.type "NoneType")
 |bl (x:Bool):aaJ K H (.bl x) (.type "bool")
 |int (i:Int):aaJ K H (.int i) (.type "int")
 |str (x:Str):aaJ K H (.str x) (.type "str")
 |flt (x:UInt64):aaJ K H (.flt x) (.type "float")
 |lst {a:Uq} {xs:bb V} (e:H a=lD (.lst xs)):aaJ K H (.ref a) (.type "list")
 |frz {a:Uq} {o:Obj} {xs:bb V} (e:H a=lD (.frz o (.lst xs))):aaJ K H (.ref a) (.type "list")
 |tup {a:Uq} {xs:bb V} (e:H a=lD (.tup xs)):aaJ K H (.ref a) (.type "tuple")
 |dK {a:Uq} {UY:bb (c7×V)} (e:H a=lD (.dK UY)):aaJ K H (.ref a) (.type "dict")
 |dT {a:Uq} {UY:bb (bb c7×V)} (e:H a=lD (.dT UY)):aaJ K H (.ref a) (.type "dict")
 |ins {a C dx:Uq} {fs:bb (Str×V)} (e:H a=lD (.ins C dx fs)) (cl:Cls K C) (ha:Vi K (.ref C) "__class__"=lD (lD (.builtin "object.__class__")))
   (hn:Xs K (.builtin "object.__class__") "__get__"=lD (lD (.builtin "getset_descriptor.__get__"))) (htk:PySem.W.takesIn K (.builtin "object.__class__")=lD Um)
   (hm:PySem.W.mroIn K C (.type "object")=lD Um):aaJ K H (.ref a) (.ref C)
end
structure Wt(k:Nat)(A:U4):Prop where
 hd:A.handled=Uh
 dp:A.depth+3*k+5<recursionLimit
 un:A.units+16*k+200<cLine
theorem Wt.mono(r:Wt k A)(h:j<=k):Wt j A:=⟨r.hd,by have:=r.dp;ext,by have:=r.un;ext⟩
theorem Wt.deeper(r:Wt (k+1) A)(env:Env):Wt k (A.deeper env):=
 ⟨r.hd,by have:=r.dp;show A.depth+1+3*k+5<_;ext,by have:=r.un;show A.units+3+16*k+200<_;ext⟩
theorem Bh{A:U4}:(A.under (.builtin "type.__call__" ⟨.ref C::us,kw⟩)).depth=A.depth+1:=by
 first|rfl|simp[U4.under,acd.weight,acd.isCreation,acd.isGuard,acd.isCaller,acd.frames,acd.isFrame,guardIds]
theorem A0{A:U4}:(A.under (.builtin "type.__call__" ⟨.ref C::us,kw⟩)).units=A.units+1:=by
 first|rfl|simp[U4.under,acd.cUnits,acd.frames,acd.isFrame]
theorem Wt.make(r:Wt (k+1) A)(C:Uq)(us:bb Uj)(a:bb (Str×Uj)):Wt k (A.under (.builtin "type.__call__" ⟨.ref C::us,a⟩)):=
 ⟨r.hd,by have:=r.dp;rw[Bh];ext,by have:=r.un;rw[A0];ext⟩
theorem Wt.depth(r:Wt k A):A.depth<recursionLimit:=by have:=r.dp;ext
theorem Wt.units(r:Wt k A):A.units+64<cLine:=by have:=r.un;ext
def ng:TA:=λ_ H Q=>Q [] H
def iH(e:TE)(b:TA):TA:=λa H Q=>e a H λx g=>b a g λxs f=>Q (x::xs) f
section
variable{X:Cx}{e:Vq}{es:bb Vq}{te:TE}{t:TA}{pos:Pos}
theorem ay:PA X [] ng:=λ_ _ _ _ H Q I h=>Calls.spliced_nil ⟨[],H,I,.nil,h⟩
theorem ai(ha:PE X e te)(n:PA X es t)(m:U1 (e::es) X.env=(Uw,eval e X.env)::U1 es X.env:=by rfl):PA X (e::es) (iH te t):=by intro pos a s b H Q I h;rw[m];refine Calls.spliced_cons (cQ (ha a s b H _ I h) λu f ⟨x,r,p,i,l⟩=>?_);exact cQ (n pos a f b r _ p l) λv w ⟨xs,q,o,g,j⟩=>⟨x::xs,q,o,.cons i g,j⟩
def Qb(t:TA):TE:=λb H Q=>t b H λxs a=>xs.length<=UB/\∀p,a p=Uh->Q (.ref p) (bM a p (.tup xs))
def Sj(t:TA):TE:=λb H Q=>t b H λxs a=>xs.length<=UB/\∀p,a p=Uh->Q (.ref p) (bM a p (.lst xs))
theorem kj{x1}(h:PA X es t):PE X (.Tuple es x1 pos) (Qb t):=by intro a s i H Q I l;refine wpAny_Tuple_spliced (cQ (h pos a s i H _ I l) λj f ⟨xs,n,g,r,z,q⟩=>⟨by rw[<-r.length];exact z,?_⟩);have m:=g.VR.fresh (Ux _);refine⟨.ref f.heap.objs.size,bM n f.heap.objs.size (.tup xs),g.laid (λb u e=>br _ e) (Ux _) ?_,rfl,q _ m⟩;exact⟨z,j,r,⟨_,cj _ rfl,⟨rfl,_,rfl⟩,rfl⟩⟩
theorem kG(h:PA X es t):PE X (.List es pos) (Sj t):=by intro a s i H Q I l;refine wpAny_List_spliced (cQ (h pos a s i H _ I l) λj f ⟨xs,n,g,r,z,q⟩=>⟨by rw[<-r.length];exact z,?_⟩);have m:=g.VR.fresh (Ux _);refine⟨.ref f.heap.objs.size,bM n f.heap.objs.size (.lst xs),g.laid (λb u e=>br _ e) (Ux _) ?_,rfl,q _ m⟩;exact⟨z,j,0,r,cj _ rfl⟩
end
abbrev Sp:=bb V->Hp->VK->XK->Prop
abbrev xT:=bb Env->Hp->Ur->XK->Uj->Ur->Prop
structure Env0(P:US)(w:Vb)(K:Ld)(mg:Str->bg Uj)(base:Heap)(A:U4)(outer:bb Env)(s:Ur)(H:Hp):Prop where
 frames:A.frames=lD outer
 mod:Mod K mg base
 bs:∀b o,base.get? b=lD o->s.heap.get? b=lD o/\H b=Uh
 bsz:base.objs.size<=s.heap.objs.size
 ZA:s.heap.FunFrames base outer
 frf:∀b∈yP outer,H b=Uh
 VR:Y9 P w H s.heap
 bare:AllBare s.gens
def CE(outer:bb Env)(P:US)(w:Vb)(H:Hp)(s:Ur)(Q:VK)(u:Uj)(a:Ur):Prop:=
 ∃v H',a.os=s.os/\AllBare a.gens/\Un (yP outer) [] H H' s.heap a.heap/\Y9 P w H' a.heap/\RelV v u/\Q v H'
def CR(b:xT)(outer:bb Env)(P:US)(w:Vb)(H:Hp)(s:Ur)(Q:VK)(E:XK)(r:abb)(a:Ur):Prop:=
 match r with
 |.ok (.ret u)=>CE outer P w H s Q u a
 |.ok _=>False
 |.error e=>b outer H s E e a
structure FnOk(P:US)(w:Vb)(K:Ld)(mg:Str->bg Uj)(base:Heap)(CX:xT)(k:Nat)(f:Uq)(fd:Vz)(ps:bb Str)(sp:Sp):Prop where
 len:∀vs H Q E,sp vs H Q E->vs.length=ps.length
 run:∀(A:U4) (outer:bb Env) (s:Ur) (H:Hp) (args:Args) (us:bb Uj) (vs:bb V) (Q:VK) (E:XK),Wt k A->Env0 P w K mg base A outer s H->Zn s fd args (ps.zip us)->Vals vs us->sp vs H Q E->
  codeAny (model P w) A (.call (.ref f) args) (CR CX outer P w H s Q E) s
theorem FnOk.imp{P:US}{w:Vb}{K:Ld}{mg:Str->bg Uj}{base:Heap}{g:xT}{k:Nat}{f:Uq}{fd:Vz}{ps:bb Str}{sp b:Sp}(F:FnOk P w K mg base g k f fd ps sp)
  (h:∀vs H Q E,b vs H Q E->sp vs H Q E):FnOk P w K mg base g k f fd ps b:=
 ⟨λvs H Q E q=>F.len vs H Q E (h _ _ _ _ q),λA a s H e i vs Q E m n o j l=>F.run A a s H e i vs Q E m n o j (h _ _ _ _ l)⟩
theorem Env0.make{K:Ld}(e:Env0 P w K mg base A outer s H)(C:Uq)(us:bb Uj)(a:bb (Str×Uj)):
  Env0 P w K mg base (A.under (.builtin "type.__call__" ⟨.ref C::us,a⟩)) outer s H:=⟨by first|exact e.frames|(simpa [U4.under,acd.envs,acd.isFrame,pushEnvs]using e.frames),e.mod,e.bs,e.bsz,e.ZA,e.frf,e.VR,e.bare⟩
section
variable{X:Cx}{Z:bb (Uq×Obj)}{Y:St}{H:Hp}{s U:Ur}
theorem Inv.afv(I:Inv X Z Y H s):Env0 X.prog X.w X.K X.mg X.base X.A X.stack s H:=
 ⟨I.ok.frames,I.ok.mod,I.bs,Va I.ok.bsz I.sz,I.stack,I.ZY,I.VR,I.bare⟩
theorem Inv.after{Q:VK}{u:Uj}(I:Inv X Z Y H s)(h:CE X.stack X.prog X.w H s Q u U):EP X Z Y Q u U:=by obtain⟨v,j,f,a,un,VR,r,q⟩:=h;obtain⟨i,g,d,t,e⟩:=U;obtain rfl:e=s.os:=f;exact⟨v,j,I.call (h':=i) (g':=g) (d':=d) (t':=t) (ch:=[]) un VR a (λb z=>a5 z (by simp)),r,q⟩
end
def lj(sp:Sp)(dvs:bb V)(E:XK)(t:TA):TE:=λa H Q=>t a H λvs b=>sp (vs++dvs) b Q E
def wR(C:Uq)(m:Str)(sp:Sp)(dvs:bb V)(E:XK)(f:TE)(t:TA):TE:=λb H Q=>f b H λx e=>∃a dx fs,x=.ref a/\e a=lD (.ins C dx fs)/\fs.lookup m=Uh/\
 t b e λvs g=>sp (x::(vs++dvs)) g Q E
def Aj(C:Uq)(sp:Sp)(dvs:bb V)(E:XK)(t:TA):TE:=λb H Q=>t b H λvs a=>∀x dx,a x=Uh->a dx=Uh->dx≠x->
 sp (.ref x::(vs++dvs)) (bM (bM a dx (.own x)) x (.ins C dx [])) (λv e=>v=.WA/\Q (.ref x) e) E
def Binds(K:Ld)(fd:Vz)(ps:bb Str)(ds:bb Uj):Prop:=
 ∀(s:Ur) (a:bb Uj),K.In s.heap->(a++ds).length=ps.length->Zn s fd ⟨a,[]⟩ (ps.zip (a++ds))
theorem Binds.all{K:Ld}{fd:Vz}{ps:bb Str}(h:∀us:bb Uj,us.length=ps.length->bindArgs fd ⟨us,[]⟩=pure (ps.zip us)):Binds K fd ps []:=λs us _ a=>by rw[UT]at a⊢;exact .of_eq (h us a)
def fW(g:xT)(X:Cx)(E:XK):Prop:=∀(a:bb (Uq×Obj)) (f:St) (H:Hp) (s:Ur) (e:Uj) (b:Ur),Inv X a f H s->g X.stack H s E e b->X.xe e b
section
variable{X:Cx}{Y:xT}{k:Nat}{f C:Uq}{fd:Vz}{ps:bb Str}{sp:Sp}{dvs:bb V}{ds:bb Uj}{E:XK}{x m:Str}{p pos Z:Pos}{e o:Vq}{es:bb Vq}{U:TE}{t:TA}
theorem BL{a:bb (Uq×Obj)}{g:St}{H:Hp}{s:Ur}{Q:VK}{us:bb Uj}{vs:bb V}(F:FnOk X.prog X.w X.K X.mg X.base Y k f fd ps sp)(n:Wt k X.A)(v:Binds X.K fd ps ds)(hd:Vals dvs ds)(l:fW Y X E)
  (I:Inv X a g H s) (r:Vals vs us) (h:sp (vs++dvs) H Q E):wpAny (model X.prog X.w) X.A (call (.ref f) us) (EP X a g Q) X.xe s:=by
 have i:Vals (vs++dvs) (us++ds):=r.append hd;have q:(us++ds).length=ps.length:=by rw[<-i.length];exact F.len _ _ _ _ h
 refine Zo (Zp (F.run X.A X.stack s H ⟨us,[]⟩ (us++ds) (vs++dvs) Q E n I.afv (v s us I.Zv q) i h) λr j b=>?_);cases r with
 |error e=>exact l a g H s e j I b
 |ok y=>
  cases y with
  |ret u=>exact I.after b
  |next=>exact False.elim b
  |brk=>exact False.elim b
  |cont=>exact False.elim b
theorem DG(F:FnOk X.prog X.w X.K X.mg X.base Y k f fd ps sp)(n:Wt k X.A)(v:Gl X x)(hm:X.mg x=lD (.ref f))(u:V8 X.K (.ref f)=Um)(z:Binds X.K fd ps ds)(hd:Vals dvs ds)(l:fW Y X E)
  (ha:PA X (e::es) t) (g:(x==("__debug__":Str))=Uw:=by decide) (y:U1 (e::es) X.env=(Uw,eval e X.env)::U1 es X.env:=by rfl) (b:(backTo pos (U1 es X.env)).any (·.1)=Uw:=by rfl):
  PE X (.Call (.Name x p) (e::es) [] pos) (lj sp dvs E t):=by
 intro a s j H Q I h;refine XB (my I v hm ?_ g);refine Zq I.ok.mod.kin u (cQ (ha pos a s j H _ I h) λB G ⟨vs,J,i,r,q⟩=>⟨i.Zv,?_⟩) y b;exact BL F n z hd l i r q
theorem Lf{pl:Sem Bool}(L:PE X o U)(c:Cls X.K C)(hm:Meth X.K C m f)(F:FnOk X.prog X.w X.K X.mg X.base Y k f fd ps sp)(J:Wt k X.A)(M:Binds X.K fd ps ds)(hd:Vals dvs ds)(B:fW Y X E)(ha:PA X (e::es) t)
  (d5:U1 (e::es) X.env=(Uw,eval e X.env)::U1 es X.env:=by rfl) (g:(backTo pos (U1 es X.env)).any (·.1)=Uw:=by rfl)
  (G:eval (.Call (.Attribute o m Z) (e::es) [] pos) X.env=(do
   let ov<-eval o X.env
   standAt Z.atName
   let(f,first)<-holding [ov] (getMethod ov m pl)
   callWith pos f first (backTo pos (U1 (e::es) X.env)) (backToKw pos (keywordEach [] X.env))):=by rfl):
  PE X (.Call (.Attribute o m Z) (e::es) [] pos) (wR C m sp dvs E U t):=by
 intro b s i H Q I h;refine YN (pl:=pl) (cQ (L b s i H _ I h) λu v ⟨x,P,n,y,a,dx,fs,N,O,l,q⟩=>?_) G;subst N;obtain rfl:u=Uj.ref a:=y;refine tN n O c hm l ?_;refine Zq (first:=[.ref a]) (h₀:=X.base) I.ok.mod.kin hm.kp (cQ (ha pos b v i P _ n q) λus R ⟨vs,S,j,r,z⟩=>⟨j.Zv,?_⟩) d5 g;exact BL (us:=.ref a::us) (vs:=.ref a::vs) F J M hd B j (.cons rfl r) z
theorem JN{pl:Sem Bool}(y:PE X o U)(c:Cls X.K C)(hm:Meth X.K C m f)(F:FnOk X.prog X.w X.K X.mg X.base Y k f fd ps sp)(v:Wt k X.A)(z:Binds X.K fd ps ds)(hd:Vals dvs ds)(n:fW Y X E)
  (r:eval (.Call (.Attribute o m Z) [] [] pos) X.env=(do
   let ov<-eval o X.env
   standAt Z.atName
   let(f,first)<-holding [ov] (getMethod ov m pl)
   callWith pos f first (backTo pos (U1 [] X.env)) (backToKw pos (keywordEach [] X.env))):=by rfl):
  PE X (.Call (.Attribute o m Z) [] [] pos) (wR C m sp dvs E U ng):=by
 intro b s i H Q I h;refine YN (pl:=pl) (cQ (y b s i H _ I h) λu J ⟨x,L,g,j,a,dx,fs,B,G,l,q⟩=>?_) r;subst B;obtain rfl:u=Uj.ref a:=j;refine tN g G c hm l ?_;exact PySem.W.callWith_K0 (first:=[.ref a]) g.Zv hm.kp (BL (us:=[.ref a]) (vs:=[.ref a]) F v z hd n g (.cons rfl .nil) q)
structure Mk(K:Ld)(C f:Uq):Prop where
 makes:aaq K C=Um
 init:Vi K (.ref C) "__init__"=lD (lD (.ref f))
 fn:W0 K (.ref f)=Um
 kp:V8 K (.ref C)=Um
theorem Ig(M:Mk X.K C f)(F:FnOk X.prog X.w X.K X.mg X.base Y k f fd ps sp)(q:Wt (k+1) X.A)(z:Binds X.K fd ps ds)(hd:Vals dvs ds)
  (n:fW Y X E) (I:Inv X pins σ H s) (r:Vals vs us)
  (h:∀x dx,H x=Uh->H dx=Uh->dx≠x->sp (.ref x::(vs++dvs)) (bM (bM H dx (.own x)) x (.ins C dx [])) (λv H2=>v=.WA/\Q (.ref x) H2) E):
  wpAny (model X.prog X.w) X.A (call (.ref C) us) (EP X pins σ Q) X.xe s:=by
 have i:=h (s.heap.objs.size+1) s.heap.objs.size (I.VR.fresh (aaS _)) (I.VR.fresh (Ux _)) (UX (XW _));have b:=Inv.made (C:=C) I;have g:Vals (V.ref (s.heap.objs.size+1)::(vs++dvs)) (Uj.ref (s.heap.objs.size+1)::(us++ds)):=.cons rfl (r.append hd);have y:(Uj.ref (s.heap.objs.size+1)::us++ds).length=ps.length:=by have e:=g.length;rw[F.len _ _ _ _ i]at e;exact e.symm
 refine Zo (HX I.Zv M.makes M.init (beq_iff_eq.mp M.fn) (Zp (F.run _ X.stack _ _ ⟨Uj.ref (s.heap.objs.size+1)::us,[]⟩ (Uj.ref (s.heap.objs.size+1)::(us++ds)) _ _ E (q.make C us [])
  (b.afv.make C us []) (z _ (Uj.ref (s.heap.objs.size+1)::us) b.Zv y) g i) λr j a=>?_))
 cases r with
 |error e=>exact n pins σ _ _ e j b a
 |ok B=>
  cases B with
  |ret u=>obtain⟨v,J,G,rv,ev,l⟩:=b.after a;subst ev;exact⟨rv,⟨V.ref (s.heap.objs.size+1),J,G,rfl,l⟩⟩
  |next=>exact False.elim a
  |brk=>exact False.elim a
  |cont=>exact False.elim a
theorem NC(M:Mk X.K C f)(F:FnOk X.prog X.w X.K X.mg X.base Y k f fd ps sp)(n:Wt (k+1) X.A)(u:Gl X x)(hm:X.mg x=lD (.ref C))(y:Binds X.K fd ps ds)(hd:Vals dvs ds)(l:fW Y X E)
  (ha:PA X (e::es) t) (g:(x==("__debug__":Str))=Uw:=by decide) (v:U1 (e::es) X.env=(Uw,eval e X.env)::U1 es X.env:=by rfl) (b:(backTo pos (U1 es X.env)).any (·.1)=Uw:=by rfl):
  PE X (.Call (.Name x p) (e::es) [] pos) (Aj C sp dvs E t):=by
 intro a s j H Q I h;refine XB (my I u hm ?_ g);refine Zq I.ok.mod.kin M.kp (cQ (ha pos a s j H _ I h) λz B ⟨vs,G,i,r,q⟩=>⟨i.Zv,?_⟩) v b;exact Ig M F n y hd l i r q
end
section
variable{X:Cx}{CX:xT}{k:Nat}{f C:Uq}{fd:Vz}{ps ks:bb Str}{sp:Sp}{E:XK}{x m:Str}{p pos apos amk:Pos}{e o:Vq}{es:bb Vq}{kws:bb aaU}{te ta:TE}{t tk:TA}{nm:bg Str}
structure ajN(K:Ld)(fd:Vz)(ps ks:bb Str)(g:bb Uj->bb Uj->bb Uj)(gV:bb V->bb V->bb V):Prop where
 to:∀(s:Ur) (us ws:bb Uj),K.In s.heap->(g us ws).length=ps.length->Zn s fd ⟨us,ks.zip ws⟩ (ps.zip (g us ws))
 rel:∀{vs:bb V} {us:bb Uj} {zs:bb V} {ws:bb Uj},Vals vs us->Vals zs ws->Vals (gV vs zs) (g us ws)
variable{g:bb Uj->bb Uj->bb Uj}{gV:bb V->bb V->bb V}
end
structure WL(N P:bb Str)(sc:Xg):Prop where
 kind:sc.kind=.function
 co:sc.isCoroutine=Uw
 gen:sc.isGenerator=Uw
 nd:N.Nodup
 pre:N.take P.length=P
 par:∀x∈P,sc.names.lookup x=lD .local\/sc.names.lookup x=lD .cell
 afB:∀y∈sc.names,y.2≠.free
theorem wz{a:Str->bg U5}:∀{binds:bb (Str×Uj)} {m:Str->bg Uj},(∀v,(x,v)∉binds)->bindL a binds m x=m x
 |[],_,_=>rfl
 |(n,v)::r,m,h=>by
  unfold bindL;rw[wz λw b=>h w (UC _ b)];split
  .have:x≠n:=by rintro rfl;exact h v UE
   simp[this]
  .rfl
theorem wI{a:Str->bg U5}:∀{binds:bb (Str×Uj)} {m:Str->bg Uj},(∀v,(x,v)∉binds)->bindC a binds m x=m x
 |[],_,_=>rfl
 |(n,v)::r,m,h=>by
  unfold bindC;rw[wI λw b=>h w (UC _ b)];split
  .rfl
  .have:x≠n:=by rintro rfl;exact h v UE
   simp[this]
theorem wG{kindOf:Str->bg U5}:∀{P:bb Str} {vs:bb Uj} {i:Nat} {m:Str->bg Uj},P.Nodup->P[i]?=lD x->vs[i]?=lD v->kindOf x=lD .local->
  bindL kindOf (P.zip vs) m x=lD v
 |[],_,_,_,_,h,_,_=>by simp at h
 |_::_,[],_,_,_,_,h,_=>by simp at h
 |p::P,w::vs,0,m,nd,h1,h2,hk=>by simp at h1 h2;subst h1;subst h2;show bindL kindOf ((p,w)::P.zip vs) m p=_;unfold bindL;rw[wz λv hv=>(Wb.mp nd).1 (X5 hv).1,av hk];simp
 |p::P,w::vs,i+1,m,nd,h1,h2,hk=>by unfold bindL;exact wG (Wb.mp nd).2 (by simpa using h1) (by simpa using h2) hk
theorem wP{kindOf:Str->bg U5}:∀{P:bb Str} {vs:bb Uj} {i:Nat} {m:Str->bg Uj},P.Nodup->P[i]?=lD x->vs[i]?=lD v->kindOf x≠lD .local->
  bindC kindOf (P.zip vs) m x=lD v
 |[],_,_,_,_,h,_,_=>by simp at h
 |_::_,[],_,_,_,_,h,_=>by simp at h
 |p::P,w::vs,0,m,nd,h1,h2,hk=>by simp at h1 h2;subst h1;subst h2;show bindC kindOf ((p,w)::P.zip vs) m p=_;unfold bindC;rw[wI λv hv=>(Wb.mp nd).1 (X5 hv).1,ax hk];simp
 |p::P,w::vs,i+1,m,nd,h1,h2,hk=>by unfold bindC;exact wP (Wb.mp nd).2 (by simpa using h1) (by simpa using h2) hk
def start(N:bb Str)(vs:bb V):St:=vs.map lD++Uz (N.length - vs.length) Uh
def gb(i:xT)(P:US)(w:Vb)(K:Ld)(mg:Str->bg Uj)(base:Heap)(N:bb Str)(b:Str)(a:Xg)(f:Uq)(h:Uj)(A:U4)(outer:bb Env)(s:Ur)(H:Hp)(E:XK):Cx where
 prog:=P
 w:=w
 K:=K
 mg:=mg
 base:=base
 A:=A.deeper (envOfC b a s.heap.objs.size f h)
 N:=N
 s₀:=s
 H₀:=H
 env:=envOfC b a s.heap.objs.size f h
 outer:=outer
 stack:=envOfC b a s.heap.objs.size f h::outer
 ex:=[]
 calm:=Um
 fn:=λ_=>Um
 pn:=[]
 xe:=λe j=>wpAny (model P w) (A.deeper (envOfC b a s.heap.objs.size f h)) (leaving (envOfC b a s.heap.objs.size f h) e) (λ_ g=>i outer H s E e g) (λl g=>i outer H s E l g) j
theorem Ax{a:Xg}(h:a.names.lookup x=lD .cell):∃c,(Wl n a.names []).lookup x=lD c:=by have q:=Xt a.names n [] (.inl h);exact aa4.mp q
theorem E3{K:Ld}
  (S:WL N ps scope) (hd:A.handled=Uh) (e0:Env0 P w K mg base A outer s H) (G:vs.length=ps.length) (r:Vals vs us)
  (x:InCallC s s.heap.objs.size (bindL (envOfC qual scope s.heap.objs.size f cd).kindOf (ps.zip us) λ_=>Uh) (Wl (s.heap.objs.size+1) scope.names []) (bindC (envOfC qual scope s.heap.objs.size f cd).kindOf (ps.zip us) λ_=>Uh) s1):
  Inv (gb CX P w K mg base N qual scope f cd A outer s H E) [] (start N vs) H s1:=by
 have C:ps.length<=N.length:=by have:=d3 Ze S.pre;rw[Vs]at this;ext
 obtain⟨o,F,rfl,B⟩:=x.done;have j:∀b:Uq,b∉(gb CX P w K mg base N qual scope f cd A outer s H E).ex:=λb z=>a5 (show b∈([]:bb Uq)from z) (by simp);refine⟨⟨e0.mod,S.kind,rfl,rfl,Ux _,λy z c o g=>?_,λy l=>?_,λy c _ h=>?_,λ_=>hd,U4.frames_deeper e0.frames,.inr ⟨rfl,rfl⟩,λb z=>a5 z (j b),e0.bs,e0.bsz,λb _ _=>j b,λb z=>a5 z (j b),e0.ZA,e0.frf⟩,
  rfl,e0.bare,Un.kept B,⟨_,x.toInCall.ns,λi y v o g I=>?_⟩,λy c h=>⟨_,x.cell y c h⟩,e0.VR.fresh (Ux _),λy c h=>?_,λp n=>a5 (show p∈([]:bb (Uq×Obj))from n) (by simp),e0.VR.kept B,?_⟩
 .exact name_of_addr x.apart (Wc o) (Wc g)
 .have l:=l
  rcases l with l|l
  .exact Ax l
  .exact a5 rfl (S.afB _ (Wc l))
 .exact Yb (x.above y c (Wc h))
 .have hi:i<vs.length:=by
   unfold start at g;by_cases hi:i<vs.length
   .exact hi
   .rw[U6 (by simpa using hi)]at g;rw[WB]at g;split at g<;>cases g
  have ha:vs[i]?=lD v:=by
   unfold start at g;rw[Uy (by simpa using hi),Uu]at g;cases e:vs[i]? with
   |none=>rw[e]at g;cases g
   |some a=>rw[e]at g;cases g;rfl
  obtain⟨u,t,rv⟩:=r.get ha;have n:ps[i]?=lD y:=by rw[<-S.pre,List.getElem?_take_of_lt (by ext)];exact o
  have m:ps.Nodup:=by rw[<-S.pre];exact S.nd.sublist (List.take_sublist _ _)
  refine⟨u,rv,?_⟩;rcases S.par y (UL n)with k|k
  .exact .inl ⟨k,wG m n t k⟩
  .obtain⟨c,e⟩:=Ax k;refine .inr ⟨.inl k,c,e,?_⟩;have q:=x.cell y c e;rw[wP m n t (by show scope.names.lookup y≠_;rw[k];decide)]at q;exact q
 .exact e0.VR.fresh (Yb (x.above y c (Wc h)))
 .unfold start;show _=N.length;rw[Uo,Ui,U9];ext
theorem Kc{CX:xT}{P:US}{w:Vb}{K:Ld}{mg:Str->bg Uj}{base:Heap}{k:Nat}{f:Uq}{name qual:Str}{params:Arguments}{body:bb Ws}{scope:Xg}{dV kV doc pm VV ct oc:Uj}{an od:bg Uq}
  {osl:Array (bg Uj)} {N ps:bb Str} {sp:Sp} (lk:K.lookup f=lD ⟨oc,od,.func (VY name qual params body scope dV kV doc pm an VV ct),osl⟩) (hcd:X7 K VV qual=Um) (S:WL N ps scope)
  (len:∀vs H Q E,sp vs H Q E->vs.length=ps.length)
  (Xa:∀(A:U4) (outer:bb Env) (s:Ur) (H:Hp) (vs:bb V) (Q:VK) (E:XK),Wt k (A.deeper (envOfC qual scope s.heap.objs.size f VV))->sp vs H Q E->
   ∃t,PSs (gb CX P w K mg base N qual scope f VV A outer s H E) body t/\t {nx:=λ_ H'=>Q .WA H',rt:=Q} (start N vs) H):
  FnOk P w K mg base CX (k+1) f (VY name qual params body scope dV kV doc pm an VV ct) ps sp:=by
 refine⟨len,λA outer s H args us vs Q E hr e0 hb r hsp=>?_⟩;have hl:=len _ _ _ _ hsp;have KX:K.In s.heap:=e0.mod.kin.keeps λb o e=>(e0.bs b o e).1;have lim:s.heap.NoLimit:=e0.mod.nolimit.keeps λb o e=>(e0.bs b o e).1;have XT:∀y∈ps.zip us,scope.names.lookup y.1=lD .local\/(scope.names.lookup y.1=lD .cell/\((Wl (s.heap.objs.size+1) scope.names []).lookup y.1).isSome=Um):=λ⟨n,v⟩ hy=>by
  rcases S.par n (X5 hy).1 with q|q
  .exact .inl q
  .exact .inr ⟨q,Xt _ _ _ (.inl q)⟩
 refine codeAny_call_function hr.depth (KX _ _ lk) rfl S.co S.gen rfl (PySem.W.codeRec_of KX hcd) (hb _ _ _ _ ?_);refine wpAny_newFunctionEnv_cells S.kind XT λenv he s1 x=>?_;subst he;refine⟨lim.keeps x.toInCall.keep,codeAny_func ?_⟩;obtain⟨t,ht,hq⟩:=Xa A outer s H vs Q E (hr.deeper _) hsp;have I:Inv (gb CX P w K mg base N qual scope f VV A outer s H E) [] (start N vs) H s1:=E3 S hr.hd e0 hl r x;refine wpAny_mono (ht [] s1 (start N vs) H _ I hq) (λfl s' hs=>?_) λe s' hs=>hs
 have fin:∀{σ':St} {H':Hp} {v:V} {u:Uj},Inv (gb CX P w K mg base N qual scope f VV A outer s H E) [] σ' H' s'->RelV v u->Q v H'->CE outer P w H s Q u s':=
  λ{σ' H' v u} J rv q=>⟨v,H',J.os,J.bare,J.base,J.VR,rv,q⟩
 cases fl with
 |ret u=>obtain⟨v,σ',H',J,rv,q⟩:=hs;exact fin J rv q
 |next=>obtain⟨σ',H',J,q⟩:=hs;exact fin (v:=V.WA) (u:=Uj.none) J rfl q
 |brk=>obtain⟨_,_,_,q⟩:=hs;exact False.elim q
 |cont=>obtain⟨_,_,_,q⟩:=hs;exact False.elim q
section
variable{X:Cx}{x:Str}{p pos:Pos}{e:Vq}{es:bb Vq}{t:TA}{id T:String}{r:bb V->Hp->VK->Prop}
def KF(r:bb V->Hp->VK->Prop)(t:TA):TE:=λa H Q=>t a H λvs b=>r vs b Q
theorem bG(u:Xd X (.builtin id) r)(o:Gl X x)(hm:X.mg x=Uh)(n:VD x=lD (.builtin id))(ha:PA X (e::es) t)(hn:x≠ "__name__":=by decide)(f:(x==("__debug__":Str))=Uw:=by decide)
  (q:U1 (e::es) X.env=(Uw,eval e X.env)::U1 es X.env:=by rfl) (b:(backTo pos (U1 es X.env)).any (·.1)=Uw:=by rfl):PE X (.Call (.Name x p) (e::es) [] pos) (KF r t):=by
 intro a s g H Q I h;refine XB (pY I o hm n ?_ hn f);exact ahu (cQ (ha pos a s g H _ I h) λi j ⟨vs,w,v,l,m⟩=>u a j g w vs i Q v l m) q b
theorem cU(u:Xd X (.type T) r)(o:Gl X x)(hm:X.mg x=Uh)(n:VD x=lD (.type T))(ha:PA X (e::es) t)(hn:x≠ "__name__":=by decide)(f:(x==("__debug__":Str))=Uw:=by decide)
  (q:U1 (e::es) X.env=(Uw,eval e X.env)::U1 es X.env:=by rfl) (b:(backTo pos (U1 es X.env)).any (·.1)=Uw:=by rfl):PE X (.Call (.Name x p) (e::es) [] pos) (KF r t):=by
 intro a s g H Q I h;refine XB (pY I o hm n ?_ hn f);exact XJ (cQ (ha pos a s g H _ I h) λi j ⟨vs,w,v,l,m⟩=>u a j g w vs i Q v l m) q b
end
end L2
namespace HT
open PySem PyProof.Rows
section
open PySem.SeqAt
open PySem.AutoSeq1 (wpAny_loadPart')
open PySem.MeetsSeq PySem.MeetsSeq2 PySem.MeetsSeq3
end
section
variable{prog:US}{w:Vb}{A:U4}{E:Uj->Ur->Prop}{s:Ur}
theorem cat_tup{t b:Uq}{vs ws:bb Uj}{Q:Uj->Ur->Prop}(v:IsTup s.heap t vs.toArray)(y:IsTup s.heap b ws.toArray)(q:vs≠[])
  (B:ws=[]->Q (.ref t) s) (z:ws≠[]->Q (.ref s.heap.objs.size) {s with heap:=s.heap.push {cls:=.type "tuple",data:=.seq (vs++ws).toArray}})
  (hsz:vs.length+ws.length<=UB):wpAny (model prog w) A (Wi .Add (.ref t) (.ref b)) Q E s:=by
 obtain⟨⟨cls,dd,data,o⟩,l,u,n,r⟩:=id v;obtain⟨⟨C,i,m,f⟩,a,h,p,g⟩:=id y;simp only at u r h g;subst u r h g;have e:vs.toArray++ws.toArray=(vs++ws).toArray:=by simp
 by_cases j:ws=[]
 .exact concat_meets ⟨_,l,rfl⟩ ⟨_,a,rfl⟩ agp akF abc aa5 (aaV _ _)
   (tuple_addW1 t b vs.toArray ws.toArray n p dd i o f (by simpa using q) (by simp[j])) ⟨l,a,B j⟩
 .refine concat_meets ⟨_,l,rfl⟩ ⟨_,a,rfl⟩ agp akF abc aa5 (aaV _ _)
   (tuple_addW2 t b vs.toArray ws.toArray n p dd i o f (by simpa using q) (by simpa using j) (by rw[UG,UG];exact hsz)) ⟨l,a,?_⟩
  rw[e];exact z j
def sIx(n d:Nat):bg Int->Nat
 |none=>d
 |some v=>if v<0 then(v+(n:Int)).toNat else min v.toNat n
theorem Po(n d:Nat)(hd:d<=n)(o:bg Int):sIx n d o<=n:=by
 cases o with
 |none=>exact hd
 |some v=>
  show(if v<0 then(v+(n:Int)).toNat else min v.toNat n)<=n;by_cases a:v<0
  .rw[av a];ext
  .rw[ax a];exact aaD _ _
theorem DU(v:Int)(n d:Nat):(if v<0 then max (v+(n:Int)) 0 else min v (n:Int))=((sIx n d (lD v):Nat):Int):=by
 show(if v<0 then max (v+(n:Int)) 0 else min v (n:Int))=(((if v<0 then(v+(n:Int)).toNat else min v.toNat n):Nat):Int);by_cases a:v<0
 .simp only[av a];ext
 .simp only[ax a];ext
theorem BO(lo hi:bg Int)(n:Nat):Vf.Slice.sliceAdjust lo hi 1 (n:Int)=(((sIx n 0 lo:Nat):Int),((sIx n n hi:Nat):Int)):=by
 have a:¬((1:Int)<0):=by ext
 unfold Vf.Slice.sliceAdjust;simp only[a,if_false];refine Prod.ext ?_ ?_
 .cases lo with
  |none=>rfl
  |some v=>exact DU v n 0
 .cases hi with
  |none=>rfl
  |some v=>exact DU v n n
theorem BP(i j:Nat):Vf.Slice.slicePlaces (i:Int) (j:Int) 1=j - i:=by
 unfold Vf.Slice.slicePlaces;have a:(1:Int)>0:=by ext
 simp only[a,if_true,Int.ediv_one];split<;>ext
theorem tG(p:abd v o)(h:Q o s):wpAny (model prog w) A (Vf.Slice.slicePartIndex v) Q E s:=by
 cases p with
 |none=>exact slicePart_none h
 |int i t=>exact slicePart_int h
theorem p7{lo hi:bg Int}{Q:Int×Int×Nat->Ur->Prop}(f:s.heap.IsSliceOf sl vl vu .none)(pl:abd vl lo)(e:abd vu hi)
  (h:Q (((sIx n 0 lo:Nat):Int),1,sIx n n hi - sIx n 0 lo) s):wpAny (model prog w) A (Vf.Slice.sliceApplied (.ref sl) (pure (n:Int))) Q E s:=by
 obtain⟨i,a,g,b⟩:=id f;unfold Vf.Slice.sliceApplied Vf.Slice.sliceFields;refine Ug (Ug (U7 a b rfl (Ug (U7 a b rfl (Ug (U7 a b rfl (Ut ?_)))))));refine Ug (slicePart_none ?_);rw[ax (by decide)];refine Ug (tG pl (Ug (tG e (Ug (Ut ?_)))));show wpAny _ _ (match Vf.Slice.sliceAdjust lo hi 1 (n:Int)with|(lo,hi)=>pure (lo,(1:Int),Vf.Slice.slicePlaces lo hi 1)) _ _ s;rw[BO lo hi n];show wpAny _ _ (pure (((sIx n 0 lo:Nat):Int),(1:Int),Vf.Slice.slicePlaces ((sIx n 0 lo:Nat):Int) ((sIx n n hi:Nat):Int) 1)) _ _ s;rw[BP];exact Ut h
theorem JG(xs:Array Uj)(i k:Nat):((Ul k).filterMap λ(m:Nat)=>xs[((i:Int)+(m:Int)*1).toNat]?).toArray=((xs.toList.drop i).take k).toArray:=by
 have e:(λ(m:Nat)=>xs[((i:Int)+(m:Int)*1).toNat]?)=λm=>xs[i+m]? :=by
  funext m;have:((i:Int)+(m:Int)*1).toNat=i+m:=by ext
  rw[this]
 rw[e];have:=pick_run xs i k;rw[List.filterMap_map]at this;have a:((λx=>xs[x]?)∘λx=>i+x)=λm=>xs[i+m]? :=rfl;rw[a]at this;rw[this]
theorem getItem_tuple_cut{lo hi:bg Int}(b:IsTup s.heap t items)(j:s.heap.IsSliceOf sl vl vu .none)(pl:abd vl lo)(l:abd vu hi)
  (n:¬(sIx items.size 0 lo=0/\sIx items.size items.size hi=items.size))
  (h:Q (.ref s.heap.objs.size) {s with heap:=s.heap.push {cls:=.type "tuple",data:=.seq ((items.toList.drop (sIx items.size 0 lo)).take (sIx items.size items.size hi - sIx items.size 0 lo)).toArray}})
  (hsz:items.size<=UB):wpAny (model prog w) A (getItem (.ref t) (.ref sl)) Q E s:=by
 have a:sizeOk (.seq ((items.toList.drop (sIx items.size 0 lo)).take (sIx items.size items.size hi - sIx items.size 0 lo)).toArray):=by show((items.toList.drop (sIx items.size 0 lo)).take (sIx items.size items.size hi - sIx items.size 0 lo)).toArray.size<=UB;rw[UG,Vs,aaz,Vv];ext
 have u:sIx items.size items.size hi<=items.size:=Po _ _ (Ux _) hi;obtain⟨m,e,g,o⟩:=id j;have i:s.TypeIs (.ref sl) "slice":=⟨m,e,g⟩;unfold getItem
 try specialize V1 ?_
 first|refine Ug (Ut ?_)|skip
 refine Ug (wpAny_sequenceKey b.typeIs (by decide) ?_);refine Ug (Wg b.typeIs Xk
  (WJ Xk b.typeIs entry_tuple_getitem ?_ (args_tuple_getitem _ _)))
 show wpAny _ _ (Vf.Tuple.tupleItemsOf (.ref t)>>=_) _ _ s;refine Ug (tupleItemsOf_ b ?_);refine Ug (aaW i ?_);rw[av (by decide)];refine Ug (p7 j pl l ?_);have f:¬((((sIx items.size 0 lo:Nat):Int)==0&&(1:Int)==1&&(sIx items.size items.size hi - sIx items.size 0 lo)==items.size)=Um):=by intro q;rw[UW,UW]at q;have r:=eq_of_beq q.1.1;have p:=eq_of_beq q.2;exact n ⟨by ext,by ext⟩
 show wpAny _ _ (if(((sIx items.size 0 lo:Nat):Int)==0&&(1:Int)==1&&(sIx items.size items.size hi - sIx items.size 0 lo)==items.size)=Um then _ else _) _ _ s;rw[ax f,JG]
 first
  |exact Ug (VF (Ut ⟨_,rfl,Ut h⟩) a)
  |exact Ug (VF (Ug (Ut (Ut ⟨_,rfl,Ut h⟩))) a)
  |exact Ug (Ug (VF (Ut (Ut ⟨_,rfl,Ut h⟩)) a))
  |exact Ug (Ug (VF (Ut ⟨_,rfl,Ut h⟩) a))
end
end HT
namespace L2
open PySem PySem.Spec PyProof.Rows
abbrev TO:=St->Hp->(bg Int->Hp->Prop)->Prop
def PO(X:Cx)(e:bg Vq)(t:TO):Prop:=
 ∀(a:bb (Uq×Obj)) (s:Ur) (b:St) (H:Hp) (Q:bg Int->Hp->Prop),Inv X a b H s->t b H Q->
  wpAny (model X.prog X.w) X.A (evalPart e X.env) (λu f=>∃o H',Inv X a b H' f/\abd u o/\Q o H') X.xe s
def Oc(t:TE):TO:=λa H Q=>t a H λx b=>∃i,x=.int i/\Q (lD i) b
theorem ku:∀{us:bb Uj},Vals (ns.map V.int) us->IntsAre us ns:=by
 induction ns with
 |nil=>intro us r;rw[W4]at r;cases r;exact .nil
 |cons n ns f=>
  intro us r;rw[UJ]at r;cases r with
  |cons b a=>obtain⟨t,e⟩:=b;subst e;exact .cons n t (f a)
section
variable{X:Cx}{e:Vq}{U:TE}{Z Y:bg Vq}{S R:TO}{pos P:Pos}
theorem xj(h:PE X e U):PO X (lD e) (Oc U):=by intro a s b H Q I j;rw[evalPart_some];refine cQ (h a s b H _ I j) λu n ⟨x,m,l,f,g⟩=>?_;obtain⟨i,rfl,q⟩:=g;obtain⟨t,rfl⟩:=f;exact⟨lD i,m,l,.int i t,q⟩
def ST(X:Cx)(r:V->bg Int->bg Int->Hp->VK->Prop):Prop:=
 ∀(a:bb (Uq×Obj)) (s:Ur) (b:St) (H:Hp) (x:V) (v g f:Uj) (Z Y:bg Int) (h:Uq) (Q:VK),Inv X a b H s->RelV x v->s.heap.IsSliceOf h g f .none->abd g Z->abd f Y->r x Z Y H Q->
  ∃T id,typeLookup (.type T) "__getitem__"=pure (lD (.builtin id))/\s.TypeIs v T/\wpAny (model X.prog X.w) X.A (getItem v (.ref h)) (EP X a b Q) X.xe s
def TB(r:V->bg Int->bg Int->Hp->VK->Prop)(U:TE)(S R:TO):TE:=λa H Q=>U a H λx g=>S a g λl f=>R a f λu b=>r x l u b Q
theorem Ay{r:V->bg Int->bg Int->Hp->VK->Prop}(F:ST X r)(K:PE X e U)(G:PO X Z S)(C:PO X Y R):PE X (.Subscript e (.Slice Z Y Uh P) pos) (TB r U S R):=by intro a s g H Q I h;refine Subscript_ (cQ (K a s g H _ I h) λv o ⟨x,H1,I1,p,z⟩=>?_);refine wpAny_Slice (cQ (G a o g H1 _ I1 z) λj n ⟨l,H2,O,pl,y⟩=>cQ (C a n g H2 _ O y) λi f ⟨u,m,N,B,t⟩=>?_);rw[evalPart_none];refine Ut ?_;have M:Inv X a g m {f with heap:=f.heap.push {cls:=.type "slice",data:=.fields #[j,i,.none]}}:=N.kept (t':=f.toks) λb ob q=>br _ q;obtain⟨T,id,L,E,J⟩:=F a {f with heap:=f.heap.push {cls:=.type "slice",data:=.fields #[j,i,.none]}} g m x v j i l u f.heap.objs.size Q M p (Heap.IsSliceOf.new ..) pl B t;show wpAny (model X.prog X.w) X.A (subscriptTail e (.Slice Z Y Uh P) v (.ref f.heap.objs.size)) (EP X a g Q) X.xe {f with heap:=f.heap.push {cls:=.type "slice",data:=.fields #[j,i,.none]}};exact tail_any (ops:=[.ref f.heap.objs.size,v]) E L J (by with_unfolding_all rfl)
def E8(xs:bb V)(Z Y:bg Int):bb V:=(xs.drop (HT.sIx xs.length 0 Z)).take (HT.sIx xs.length xs.length Y - HT.sIx xs.length 0 Z)
theorem rD(xs:bb V)(Z Y:bg Int):(E8 xs Z Y).length<=xs.length:=by unfold E8;rw[Vs,aaz];ext
def Rs(K:Ld):V->bg Int->bg Int->Hp->VK->Prop:=λx Z Y H Q=>∃a xs,x=.ref a/\YA K H a xs/\
 ¬(HT.sIx xs.length 0 Z=0/\HT.sIx xs.length xs.length Y=xs.length)/\∀p,H p=Uh->Q (.ref p) (bM H p (.tup (E8 xs Z Y)))
theorem Q5:ST X (Rs X.K):=by
 intro g s u H x v y w Z Y z Q I l p pl m h;obtain⟨a,xs,rfl,n,o,q⟩:=h;cases l;obtain⟨t,r,j,i⟩:=I.tuple n;have f:t.toArray.size=xs.length:=by rw[UG];exact r.length.symm
 refine⟨"tuple",_,Xk.lookup,j.typeIs,?_⟩;refine HT.getItem_tuple_cut j p pl m (by rw[f];exact o) ?_ (by rw[f];exact i);rw[f];refine⟨.ref s.heap.objs.size,_,I.laid (λb A q=>br _ q) (Ux _) ?_,rfl,q _ (I.VR.fresh (Ux _))⟩;exact⟨Va (rD xs Z Y) i,_,(r.drop (HT.sIx xs.length 0 Z)).take (HT.sIx xs.length xs.length Y - HT.sIx xs.length 0 Z),aax.new _ _⟩
def N3(K:Ld):R2:=λx y H Q=>∃a b xs ys,x=.ref a/\y=.ref b/\YA K H a xs/\YA K H b ys/\xs≠[]/\xs.length+ys.length<=UB/\
 (ys=[]->Q (.ref a) H)/\(ys≠[]->∀p,H p=Uh->Q (.ref p) (bM H p (.tup (xs++ys))))
theorem Vals.abm(r:Vals xs us):us=[]↔xs=[]:=by
 cases r with
 |nil=>simp
 |cons _ _=>simp
theorem Ml:OpR X (Wi .Add) (N3 X.K):=by intro i s B H x y v u Q I m l h;obtain⟨a,b,xs,C,rfl,rfl,ha,t,r,j,o,n⟩:=h;cases m;cases l;obtain⟨F,g,p,_⟩:=I.tuple ha;obtain⟨A,f,P,_⟩:=I.tuple t;refine HT.cat_tup p P (λz=>r (g.abm.mp z)) (λz=>⟨.ref a,H,I,rfl,o (f.abm.mp z)⟩) (λz=>?_) (by rw[<-g.length,<-f.length];exact j);refine⟨.ref s.heap.objs.size,_,I.laid (λb E q=>br _ q) (Ux _) ?_,rfl,n (λw=>z (f.abm.mpr w)) _ (I.VR.fresh (Ux _))⟩;exact⟨by rw[Uo];exact j,_,g.append f,aax.new _ _⟩
end
def KG(n:Nat)(i:Int):bg Nat:=if 0<=i then(if i<n then lD i.toNat else Uh)else if -(n:Int)<=i then lD (i+n).toNat else Uh
def nc(xs:bb α)(i:Int):bg α:=(KG xs.length i).bind λj=>xs[j]?
theorem LX(h:KG n i=lD j):seqIndex? i n=lD j/\j<n/\ -(n:Int)<=i/\i<n:=by
 unfold KG at h;by_cases b:0<=i
 .rw[av b]at h
  by_cases a:i<n
  .rw[av a]at h;have e:=UH h;exact⟨by rw[seqIndex_of b a,e],by ext,by ext,a⟩
  .rw[ax a]at h;cases h
 .rw[ax b]at h
  by_cases a: -(n:Int)<=i
  .rw[av a]at h;have e:=UH h;exact⟨by rw[seqIndex_neg (by ext) a,e],by ext,a,by ext⟩
  .rw[ax a]at h;cases h
theorem xU(h:nc xs i=lD v):∃j,seqIndex? i xs.length=lD j/\xs[j]?=lD v/\j<xs.length/\ -(xs.length:Int)<=i/\i<xs.length:=by
 unfold nc at h;cases e:KG xs.length i with
 |none=>rw[e]at h;cases h
 |some j=>rw[e]at h;obtain⟨g,f,b,a⟩:=LX e;exact⟨j,g,h,f,b,a⟩
theorem EL{j:Nat}(h:xs[j]?=lD v):nc xs (j:Int)=lD v:=by
 have a:=(Uk.mp h).1;have e:KG xs.length (j:Int)=lD j:=by unfold KG;rw[av (by ext),av (by ext)];simp
 unfold nc;rw[e];exact h
theorem pw(xs:bb α)(v:α):nc (xs++[v]) (-1)=lD v:=by
 have a:(xs++[v]).length=xs.length+1:=by simp
 have e:KG (xs++[v]).length (-1)=lD xs.length:=by unfold KG;rw[a,ax (by decide),av (by ext)];congr 1;ext
 unfold nc;rw[e];simp
def Ls(b:Vq):Prop:=∀o i,subscripted b Uw o i=operate [o,i] (getItem o i)
def IxR(X:Cx)(r:R2):Prop:=
 ∀(e a:Vq) (b:bb (Uq×Obj)) (s:Ur) (f:St) (H:Hp) (x y:V) (v u:Uj) (Q:VK),Inv X b f H s->RelV x v->RelV y u->r x y H Q->
  subscripted a Uw v u=operate [v,u] (getItem v u)->wpAny (model X.prog X.w) X.A (subscriptTail e a v u) (EP X b f Q) X.xe s
def SJ(X:Cx)(f:String)(r:V->bb V->Hp->VK->Prop):Prop:=
 ∀(a:bb (Uq×Obj)) (s:Ur) (b:St) (H:Hp) (x:V) (xs:bb V) (v:Uj) (e:bb Uj) (Q:VK),Inv X a b H s->RelV x v->Vals xs e->r x xs H Q->
  wpAny (model X.prog X.w) X.A (call (.builtin f) (v::e)) (EP X a b Q) X.xe s
section
variable{X:Cx}{a b:Vq}{ta tb:TE}{pos:Pos}
theorem IxR.or(h:IxR X r)(h':IxR X r'):IxR X (λx y H Q=>r x y H Q\/r' x y H Q):=by
 intro e f g s i H x y v u Q I l j q m;rcases q with q|q
 .exact h e f g s i H x y v u Q I l j q m
 .exact h' e f g s i H x y v u Q I l j q m
theorem bV{r:R2}(m:IxR X r)(ha:PE X a ta)(n:PE X b tb)(l:Ls b):PE X (.Subscript a b pos) (Qv r ta tb):=by intro e s f H Q I h;exact Subscript_ (Pm ha n I h λv u g x y p o j i q=>m a b e g f p x y v u Q o j i q (l _ _))
def RT(K:Ld):R2:=λx y H Q=>∃p xs i v,x=.ref p/\y=.int i/\YL K H p xs/\nc xs i=lD v/\Q v H
def Ru(K:Ld):R2:=λx y H Q=>∃p xs i v,x=.ref p/\y=.int i/\YA K H p xs/\nc xs i=lD v/\Q v H
def Sd:R2:=λx y H Q=>∃z i c,x=.str z/\y=.int i/\z.length<=UB/\nc z.cps.toList i=lD c/\Q (.str ⟨#[c]⟩) H
theorem MS:IxR X (RT X.K):=by
 intro l m e s E H x y v u Q I G F h A;obtain⟨p,xs,i,z,rfl,rfl,J,M,q⟩:=h;cases G;obtain⟨t,rfl⟩:=F;obtain⟨R,r,pl,S⟩:=I.list J;obtain⟨j,g,P,T,O,N⟩:=xU M;obtain⟨w,C,n⟩:=r.get P;have L:=r.length;have hn:=xb;have f:EP X e E Q w s:=⟨z,H,I,n,q⟩;by_cases B:0<=i
 .have o:i.toNat=j:=by
   rw[seqIndex_of B N]at g;exact UH g
  exact item_listR pl.isList B (by ext) (by rw[o];simpa using C) f A
 .have o:(i+(R.toArray.size:Int)).toNat=j:=by
   rw[seqIndex_neg (by ext) O]at g;rw[UG,<-L];exact UH g
  exact subscriptTail_builtinR pl.isList.typeIs afO.lookup
   (wpAny_getItem_list_neg pl.isList (by ext) (by rw[UG]<;>ext) (by ext) (by rw[o];simpa using C) ⟨rfl,f⟩) A
theorem Pf:IxR X (Ru X.K):=by
 intro f g e s n H x y v u Q I A o h B;obtain⟨p,xs,i,z,rfl,rfl,C,F,q⟩:=h;cases A;obtain⟨t,rfl⟩:=o;obtain⟨R,r,pl,M⟩:=I.tuple C;obtain⟨j,J,G,P,O,N⟩:=xU F;obtain⟨w,L,l⟩:=r.get G;have E:=r.length;have hn:=xb;have m:EP X e n Q w s:=⟨z,H,I,l,q⟩;exact subscriptTail_builtinR pl.typeIs slot_tuple_getitem.lookup
  (getItem_tuple pl (by ext) (by ext) (by rw[UG,<-E];exact J) (by simpa using L) ⟨rfl,m⟩) B
theorem Qk:IxR X Sd:=by
 intro e f g s F H x y v u Q I n m h o;obtain⟨z,i,c,rfl,rfl,J,r,q⟩:=h;obtain⟨t,rfl⟩:=n;obtain⟨G,rfl⟩:=m;obtain⟨j,l,B,K,A,w⟩:=xU r;have p:z.cps.toList.length=z.length:=by simp[Str.length]
 rw[p]at l A w;have hn:=xb;exact tail_any (typeIs_str s z t) slot_str_getitem.lookup (getItem_str (by have E:decide (i< -(2^63:Int))=Uw:=aP (by ext);have C:decide (i≥2^63)=Uw:=aP (by ext);rw[E,C,afa]) (by rw[l];simpa using B) ⟨.str ⟨#[c]⟩,H,I.tok _,⟨_,rfl⟩,q⟩) o
def SR(K:Ld):R2:=λx y H Q=>RT K x y H Q\/Ru K x y H Q\/Sd x y H Q
theorem bC:IxR X (SR X.K):=MS.or (Pf.or Qk)
theorem xx(lo hi:bg Int)(n:Nat):(sliceBounds lo hi Uh n).1=((HT.sIx n 0 lo:Nat):Int)/\(sliceBounds lo hi Uh n).2.1=((HT.sIx n n hi:Nat):Int)/\(sliceBounds lo hi Uh n).2.2=1:=by
 refine⟨?_,?_,rfl⟩
 .cases lo with
  |none=>simp[sliceBounds,HT.sIx]
  |some i=>
   simp only[sliceBounds,HT.sIx,adh,show(1:Int)>0 by decide,if_true];by_cases h:i<0
   .simp only[h,if_true]<;>ext
   .simp only[h,if_false]<;>ext
 .cases hi with
  |none=>simp[sliceBounds,HT.sIx]
  |some i=>
   simp only[sliceBounds,HT.sIx,adh,show(1:Int)>0 by decide,if_true];by_cases h:i<0
   .simp only[h,if_true]<;>ext
   .simp only[h,if_false]<;>ext
theorem vA(e:bb Uj)(lo hi:bg Int):slicePick e.toArray lo hi Uh=((e.drop (HT.sIx e.length 0 lo)).take (HT.sIx e.length e.length hi - HT.sIx e.length 0 lo)).toArray:=by obtain⟨h,g,f⟩:=xx lo hi e.toArray.size;unfold slicePick;rw[h,g,f];simp only[sliceRange_one,pick_run,UG]<;>rfl
def RI(K:Ld):V->bg Int->bg Int->Hp->VK->Prop:=λx lo hi H Q=>∃a xs,x=.ref a/\YL K H a xs/\∀p,H p=Uh->Q (.ref p) (bM H p (.lst (E8 xs lo hi)))
theorem Nm:ST X (RI X.K):=by intro f s o H x v t p lo hi u Q I i n pl j h;obtain⟨a,xs,rfl,m,q⟩:=h;cases i;obtain⟨y,r,g,l⟩:=I.list m;have e:=r.length;refine⟨"list",_,afO.lookup,g.isList.typeIs,?_⟩;refine wpAny_getItem_list_slice g.isList n pl j .none (by simp) ?_ (by rw[UG]<;>ext);rw[vA,<-e];refine⟨.ref s.heap.objs.size,_,I.laid (λb w q=>br _ q) (Ux _) ?_,rfl,q _ (I.VR.fresh (Ux _))⟩;exact⟨Va (rD xs lo hi) l,_,0,(r.drop (HT.sIx xs.length 0 lo)).take (HT.sIx xs.length xs.length hi - HT.sIx xs.length 0 lo),cj _ rfl⟩
theorem Xd.or(h:Xd X f r)(h':Xd X f r'):Xd X f (λxs H Q=>r xs H Q\/r' xs H Q):=by
 intro e s g H xs i Q I j q;rcases q with q|q
 .exact h e s g H xs i Q I j q
 .exact h' e s g H xs i Q I j q
theorem yq:Xd X (.type "list") (λxs H Q=>∃p ys,xs=[.ref p]/\(YL X.K H p ys\/YA X.K H p ys)/\∀l,H l=Uh->Q (.ref l) (bM H l (.lst ys))):=by
 intro m s F H xs J Q I r h;obtain⟨p,ys,rfl,y,q⟩:=h;obtain⟨u,rfl,G⟩:=k8 r;cases G
 have A:∀(g:bb Uj),Vals ys g->ys.length<=UB->∀(f:Heap) (j:Nat),(∀b o',s.heap.get? b=lD o'->f.get? b=lD o')->
   f.get? s.heap.objs.size=lD {cls:=.type "list",dict:=Uh,data:=.seq g.toArray j,slots:= #[]}->EP X m F Q (.ref s.heap.objs.size) {s with heap:=f}:=λg i v f j t e=>
  ⟨.ref s.heap.objs.size,_,I.laid t (Ux _) (show ObjOk X.prog X.w _ f _ (.lst ys)from⟨v,g,j,i,e⟩),rfl,q _ (I.VR.fresh (Ux _))⟩
 rcases y with y|y
 .obtain⟨g,i,pl,v⟩:=I.list y;have z:=i.length;obtain⟨o,B,E,n,C⟩:=pl.isList;exact akG p (.inl rfl) B E C (λf j t e=>A g i v f j t e) (by simp only[UG]<;>ext)
 .obtain⟨g,i,pl,v⟩:=I.tuple y;have z:=i.length;obtain⟨o,B,E,n,C⟩:=pl;exact akG p (.inr rfl) B E C (λf j t e=>A g i v f j t e) (by simp only[UG]<;>ext)
theorem bO:Xd X (.type "tuple") (λxs H Q=>∃p ys,xs=[.ref p]/\((YL X.K H p ys/\∀l,H l=Uh->Q (.ref l) (bM H l (.tup ys)))\/(YA X.K H p ys/\Q (.ref p) H))):=by
 intro i s B H xs C Q I r h;obtain⟨p,ys,rfl,h⟩:=h;obtain⟨u,rfl,v⟩:=k8 r;cases v;rcases h with⟨g,q⟩|⟨g,q⟩
 .obtain⟨n,f,pl,j⟩:=I.list g
  have m:=f.length;refine call_tuple_list pl.isList (λz y=>?_) (by simp only[UG]<;>ext);have t:=I.kept (t':=s.toks) y
  have A:=
   t.laid (t':=s.toks) (λb o e=>br _ e) (Ux _) (show ObjOk X.prog X.w _ _ _ (.tup ys)from⟨j,n,f,aax.new _ _⟩)
  exact⟨.ref z.objs.size,_,A,rfl,q _ (t.VR.fresh (Ux _))⟩
 .obtain⟨n,f,pl,j⟩:=I.tuple g;exact call_tuple_same pl ⟨.ref p,H,I,rfl,q⟩
def Tk(K:Ld)(T:String)(x:V)(H:Hp):Prop:=match x with
 |.str _=>T= "str"
 |.int _=>T= "int"
 |.ref p=>(T= "list"/\∃xs,YL K H p xs)\/(T= "tuple"/\∃o,K.lookup p=lD o/\o.cls=.type "tuple"/\o.dict=Uh)\/
   (T= "dict"/\((∃UY,H p=lD (.dK UY))\/∃UY,H p=lD (.dT UY)))\/(T= "set"/\∃S n,H p=lD (.set S n))
 |_=>False
theorem Il(I:Inv X pins σ H s)(r:RelV x v)(ty:Tk X.K T x H):
  s.TypeIs v T/\∀a,v=.ref a->∃ob,s.heap.get? a=lD ob/\ob.dict=Uh:=by
 cases x with
 |str z=>obtain⟨t,rfl⟩:=r;cases(show T= "str" from ty);exact⟨typeIs_str s z t,λ_ e=>nomatch e⟩
 |int i=>obtain⟨t,rfl⟩:=r;cases(show T= "int" from ty);exact⟨aaE s i t,λ_ e=>nomatch e⟩
 |ref p=>
  cases r;rcases ty with⟨rfl,xs,l⟩|⟨rfl,o,f,m,h⟩|⟨rfl,f⟩|⟨rfl,S,n,f⟩
  .obtain⟨q,_,pl,_⟩:=I.list l;refine⟨pl.isList.typeIs,λa e=>?_⟩;cases e;obtain⟨o,n,e,c,h,_⟩:=pl;exact⟨o,e,h⟩
  .refine⟨⟨o,I.Zv p o f,m⟩,λa e=>?_⟩;cases e;exact⟨o,I.Zv _ o f,h⟩
  .have z:∃o,s.heap.get? p=lD o/\o.ExactDict:=by
    rcases f with⟨UY,f⟩|⟨UY,f⟩
    .obtain⟨_,_,_,_,o,_,_,e,g,_⟩:=I.VR p _ f;exact⟨o,e,g⟩
    .obtain⟨_,_,_,_,o,_,_,e,g,_⟩:=I.VR p _ f;exact⟨o,e,g⟩
   obtain⟨o,e,g⟩:=z;refine⟨⟨o,e,g.1⟩,λa j=>?_⟩;cases j;exact⟨o,e,g.2.1⟩
  .obtain⟨o,_,_,_,e,g,_⟩:=I.VR p _ f;refine⟨⟨o,e,g.1⟩,λa j=>?_⟩;cases j;exact⟨o,e,g.2.1⟩
 |_=>exact False.elim ty
def QR(K:Ld)(T:String)(r:V->bb V->Hp->VK->Prop)(to:TE):TE:=λf H Q=>to f H λx e=>Tk K T x e/\r x [] e Q
def SX(K:Ld)(T:String)(r:V->bb V->Hp->VK->Prop)(to:TE)(t:TA):TE:=λe H Q=>to e H λx f=>Tk K T x f/\t e f λxs g=>r x xs g Q
variable{o e:Vq}{es:bb Vq}{to:TE}{t:TA}{name:Str}{Z Y:Pos}{T U:String}{r:V->bb V->Hp->VK->Prop}
theorem Bz(pa:PlainAttrs T)(g:Slot T name U)(i:typeOf (.builtin U)=pure (.type "method_descriptor"))(hm:SJ X U r)(u:PE X o to)
  (z:attributeBase o name X.env (eval o X.env)=eval o X.env:=by rfl) (j:(Z.endLine==Y.line)=Um:=by rfl):PE X (.Call (.Attribute o name Z) [] [] Y) (QR X.K T r to):=by
 intro f s l H Q I h;refine wpAny_Call_method0_late z j (cQ (u f s l H _ I h) λv p ⟨x,A,n,m,ty,q⟩=>?_);obtain⟨y,w⟩:=Il n m ty;exact⟨T,U,pa,g,i,y,w,Calls.callWith_builtin rfl (PySem.evalArgs_none (hm f p l A x [] v [] Q n m .nil q))⟩
theorem vf(pa:PlainAttrs T)(g:Slot T name U)(j:typeOf (.builtin U)=pure (.type "method_descriptor"))(hm:SJ X U r)(F:PE X o to)(ha:PA X (e::es) t)
  (L:attributeBase o name X.env (eval o X.env)=eval o X.env:=by rfl)
  (l:((backTo Y (U1 (e::es) X.env)).all (λx=> !x.1)&&(backToKw Y (keywordEach [] X.env)).all (λx=>x.1.isSome)
   &&decide ((e::es).length+([]:bb aaU).length+(if([]:bb aaU).isEmpty then 0 else 1)<30))=Um:=by rfl)
  (m:(Z.endLine==Y.line)=Um:=by rfl) (E:U1 (e::es) X.env=(Uw,eval e X.env)::U1 es X.env:=by rfl) (n:(backTo Y (U1 es X.env)).any (·.1)=Uw:=by rfl):
  PE X (.Call (.Attribute o name Z) (e::es) [] Y) (SX X.K T r to t):=by
 intro f s i H Q I h;refine wpAny_Call_method_late L l m rfl (cQ (F f s i H _ I h) λv z ⟨x,O,u,p,ty,C⟩=>?_);obtain⟨J,G⟩:=Il u p ty;refine⟨T,U,pa,g,j,J,G,?_⟩;have q:=ha Y f z i O _ u C;rw[E]at q⊢;refine Calls.callWith_builtin (by show(Uw||(backTo Y (U1 es X.env)).any (·.1))=Uw;rw[n]<;>rfl) (Calls.evalArgs_plain ?_);exact cQ q λw y ⟨vs,N,M,A,B⟩=>hm f y i N x vs v w Q M p A B
end
def TV(X:Cx)(f:String)(r:V->bb V->Hp->VK->Prop):Prop:=
 ∀(a:bb (Uq×Obj)) (s:Ur) (b:St) (H:Hp) (x:V) (xs:bb V) (v:Uj) (e:bb Uj) (Q:VK),Inv X a b H s->RelV x v->Vals xs e->r x xs H Q->
  wpAny (model X.prog X.w) X.A (call (.builtin f) (v::e)) (EP X a b Q) X.xe s
theorem Vals.one:∀{x:V} {us:bb Uj},Vals [x] us->∃u,us=[u]/\RelV x u
 |_,_,.cons r .nil=>⟨_,rfl,r⟩
theorem Vals.zero:∀{us:bb Uj},Vals [] us->us=[]
 |_,.nil=>rfl
theorem Vals.rep(h:Vals xs us):∀k:Nat,Vals (Uz k xs).flatten (Uz k us).flatten
 |0=>.nil
 |k+1=>by rw[Vy,Vy,Wr,Wr];exact Vals.append h (Vals.rep h k)
theorem qO(b:bb Uj):∀(k:Nat) (a:bb Uj),
  YQ (λx1 x2=>x1++x2) a.toArray (Uz k b.toArray)=(a++(Uz k b).flatten).toArray
 |0,a=>by simp
 |k+1,a=>by
  have e:a.toArray++b.toArray=(a++b).toArray:=by simp
  have f:(a++b)++(Uz k b).flatten=a++(Uz (k+1) b).flatten:=by rw[Vy,Wr,UQ]
  rw[<-f,<-qO b k (a++b),<-e,Vy,YT]
section
variable{X:Cx}{Z:bb (Uq×Obj)}{Y:St}{H:Hp}{s:Ur}{l b:Uq}{xs U zs:bb V}
theorem Inv.ag1{g a:bb Uj}(I:Inv X Z Y H s)(o:H l=lD (.lst xs))
  (e:s.heap.get? l=lD {cls:=.type "list",data:=.seq g.toArray n}) (j:f g.toArray=a.toArray) (h:Vals U a) (hz:U.length<=UB):
  Inv X Z Y (bM H l (.lst U)) {s with heap:=s.heap.update l (Obj.mapSeq f),toks:=t'}:=by
 have q:=al4 e f;rw[j]at q;refine I.write (by rw[o];exact trivial) (.inl rfl) (λp u m i=>(cn s.heap (Obj.mapSeq f) (dN m)).trans i) ⟨_,q⟩ ?_;exact⟨hz,a,_,h,q⟩
theorem Inv.agZ(I:Inv X Z Y H s)(a:Vals U Vh)(hz:U.length<=UB):
  Inv X Z Y (bM H s.heap.objs.size (.lst U)) {s with heap:=s.heap.push {cls:=.type "list",data:=.seq Vh.toArray},toks:=t'}:=
 I.laid (λ_ _ q=>br _ q) (Ux _) ⟨hz,Vh,0,a,cj _ rfl⟩
theorem Inv.fresh(I:Inv X Z Y H s):H s.heap.objs.size=Uh:=I.VR.fresh (Ux _)
theorem Inv.afn(I:Inv X Z Y H s)(f:H l=lD (.lst xs)):xs.length<=UB/\∃(a:bb Uj) (n:Nat),Vals xs a/\xs.length=a.length/\s.heap.get? l=lD {cls:=.type "list",data:=.seq a.toArray n}:=by obtain⟨z,a,n,r,e⟩:=I.VR l _ f;exact⟨z,a,n,r,r.length,e⟩
theorem Jr(h:n<=UB):Vf.List.listTooLong n=Uw:=by unfold Vf.List.listTooLong;exact aP (by ext)
end
section
variable{X:Cx}
def xy:V->bb V->Hp->VK->Prop:=λx vs H Q=>∃l xs y,x=.ref l/\vs=[y]/\H l=lD (.lst xs)/\xs.length<UB/\Q .WA (bM H l (.lst (xs++[y])))
theorem gO:TV X "list.append" xy:=by intro a s j H x vs v m Q I f rv h;obtain⟨l,xs,y,rfl,rfl,b,o,q⟩:=h;cases f;obtain⟨u,rfl,g⟩:=rv.one;obtain⟨z,i,n,r,p,e⟩:=I.afn b;refine X8 F.slot_list_append ⟨_,e,rfl⟩ F.entry_list_append (F.args_list_append_2 _ _) (PySem.list_append l i.toArray n u (by rw[UG];ext)) ⟨e,?_⟩;refine⟨.WA,_,I.ag1 b e (by simp) (r.append (.cons g .nil)) ?_,rfl,q⟩;rw[Uo,Y7];ext
def IJ:V->bb V->Hp->VK->Prop:=λx vs H Q=>∃l xs,x=.ref l/\vs=[]/\H l=lD (.lst xs)/\Q .WA (bM H l (.lst []))
theorem Kd:TV X "list.clear" IJ:=by intro b s j H x vs v m Q I g rv h;obtain⟨l,xs,rfl,rfl,f,q⟩:=h;cases g;have a:=rv.zero;subst a;obtain⟨z,i,n,r,o,e⟩:=I.afn f;refine X8 F.slot_list_clear ⟨_,e,rfl⟩ F.entry_list_clear (F.args_list_clear_1 _) (AutoSeq1.list_clear_list_0 l i.toArray n (by rw[UG];ext)) ⟨e,?_⟩;exact⟨.WA,_,I.ag1 f e rfl .nil (Vl _),rfl,q⟩
theorem DC(xs:bb α)(k:Nat):(Uz k xs).flatten.length=k*xs.length:=by
 induction k with
 |zero=>simp
 |succ k a=>rw[Vy,Wr,Uo,a,agq,Yc]
end
section
variable{prog:US}{w:Vb}{A:U4}{E:Uj->Ur->Prop}{s:Ur}
set_option maxRecDepth 100000 in
end
end L2
namespace Att
open PySem PySem.W PySem.Calls PyProof.Rows
theorem rY:∀(ns:bb Int) (vs:bb Uj),WellAll P h vs (ns.map WData.int)->IntsAre vs ns:=by
 intro ns
 induction ns with
 |nil=>intro vs w;rw[W4]at w;cases w;exact .nil
 |cons n ns e=>
  intro vs w;rw[UJ]at w;cases w with
  |cons a b=>cases a;exact .cons _ _ (e _ b)
theorem EX{l:OpenLaw}(hn:l.most=lD n)
  (e:l.row.toRowW.claim.pre args=Um) (i:WellAll P h vals args):
  ∃a vs ns,vals=[Uj.ref a]/\args=[WData.list (ns.map WData.int)]/\h.get? a=lD {cls:=.type "list",data:=.seq vs.toArray}/\IntsAre vs ns/\ns.length<=n:=by
 have j:=(pre_splitW e).1;have o:l.pre.holds [] {args:=args}=Um:=(pre_splitW e).2;obtain⟨d,r,rfl,z,y⟩:=hasAllW_cons j;obtain rfl:=hasAllW_nil y;obtain⟨xs,rfl,w⟩:=hasW_list z;obtain⟨ns,rfl⟩:=items_int w;have b:ns.length<=n:=by
  unfold OpenLaw.pre at o;have g:(WTm.not (.lt (.lit (.int (n:Int))) (.len (.arg 0)))).holds [] {args:=[.list (ns.map .int)]}=Um:=by have g:=(holds_andW o).1;rw[hn]at g;exact g
  have f:=condW_of g (w_not (w_lt w_lit (w_len_list (w_arg rfl))));rw[Ui]at f;refine Nat.le_of_not_lt λq=>?_;have u:(n:Int)<((ns.length:Nat):Int):=by ext
  first
   |(rw[aE u]at f;exact a5 f (by decide))
   |(simp at f;ext)
 cases i with
 |cons t p=>
  cases p;cases t with
  |list v m=>exact⟨_,_,ns,rfl,rfl,v,rY ns _ m,b⟩
theorem FC(l:OpenLaw)(args:bb WData):l.row.toRowW.claim.post args (.bool Um) args=Um:=
 postW_of
  (show WShape.has [] (.bool Um) .bool=Um by first|rfl|decide|simp[WShape.has,WShape.arms,WShape.armsAll])
  (show(WTm.eq .res (.lit (.bool Um))).value [] {args:=args,res:=lD (.bool Um),after:=args}=lD (.bool (Um==Um))from w_eq_bool (w_res rfl) w_lit) rfl
theorem attach_call{l:OpenLaw}{n:Nat}{q:US}{e:bb Str}{H:(Str->bg Uj)->Heap->Prop}{F:Vb->Heap->Prop}{d:DefRec}
  (hn:l.most=lD n) (v:d.params.defaults=[])
  (call:∀(w:Vb) (s₀ b:Ur) (mg p:Str->bg Uj) (fa:Uq) (o:Obj) (m j h:Uj) (a:Uq) (vs:bb Uj) (ns:bb Int),
   Ground q e [] H w s₀ mg p b.heap->F w b.heap->
   b.heap.get? fa=lD o->o.data=.func (docDef d.name d.params d.body d.scope m j h)->b.heap.CodeRec j d.name->mg d.name=lD (.ref fa)->
   b.heap.get? a=lD {cls:=.type "list",data:=.seq vs.toArray}->IntsAre vs ns->ns.length<=n->b.gens= #[]->
   codeAny (model l.prog w) callerA (.call (.ref fa) ⟨[.ref a],[]⟩) (λr s'=>r=.ok (.ret (.bool Um))/\OldK b.heap s'.heap/\s'.os=b.os/\AllBare s'.gens) b):
  WalkO q e H F l.row.toRowW d [] (λf vs=>agr f vs):=by
 intro w s₀ b mg p G Y fa o m j h dV kV K N y C u M E B S A R I t L;obtain rfl:dV=.none:=Dflts.none C v;obtain rfl:kV=.none:=Dflts.noKw C;obtain⟨a,vs,ns,rfl,rfl,z,g,i⟩:=EX hn A t;refine enter_call (Zp (call w s₀ b mg p fa o m j h a vs ns G Y K (fd_plain N) y u z g i M) λr s' J=>?_);obtain⟨rfl,Q,P,O⟩:=J;exact⟨.inl ⟨.bool Um,.bool Um,[],rfl,λ_=>rfl,.bool Um,FC l _,λ_=>⟨YU,λ_ hm=>(nomatch hm)⟩⟩,Q,P,O⟩
end Att
namespace L2
open PySem PySem.Spec PyProof.Rows
theorem jX:∀{vs:bb Uj} {ns:bb Int},IntsAre vs ns->Vals (ns.map V.int) vs
 |_,_,.nil=>.nil
 |_,_,.cons n t h=>.cons ⟨t,rfl⟩ (jX h)
def SB(H:Hp):Prop:=∀b,H b=Uh\/∃o xs,H b=lD (.frz o (.lst xs))
theorem GC{P:US}{w:Vb}{K:Ld}{mg G:Str->bg Uj}{Z:xT}{k:Nat}{fa a:Uq}{fd:Vz}{x:Str}{sp:Sp}{f:Ur}{vs:bb Uj}{ns:bb Int}
  (Y:K.In f.heap) (p:f.heap.Ns UK mg) (g:f.heap.Ns builtinsNs G) (J:∀x:Str,x≠ "__name__"->G x=VD x) (Q:f.heap.NoLimit) (hg:f.gens= #[])
  (ha:f.heap.get? a=lD {cls:=.type "list",data:=.seq vs.toArray}) (hi:IntsAre vs ns) (S:ns.length<=UB) (hr:Wt k callerA)
  (F:∀base:Heap,K.In base->base.Ns UK mg->FnOk P w K mg base Z k fa fd [x] sp) (R:∀(s:Ur) (u:Uj),Zn s fd ⟨[u],[]⟩ [(x,u)])
  (I:∀H:Hp,SB H->YL K H a (ns.map V.int)->sp [.ref a] H (λv _=>v=.bl Um) λ_ _ _=>False)
  (L:∀H e s',Z [] H f (λ_ _ _=>False) e s'->False):
  codeAny (model P w) callerA (.call (.ref fa) ⟨[.ref a],[]⟩) (λr s'=>r=.ok (.ret (.bool Um))/\OldK f.heap s'.heap/\s'.os=f.os/\AllBare s'.gens) f:=by
 have rv:=jX hi;have N:=hi.length
 have j:∀H:Hp,SB H->YL K H a (ns.map V.int)->Y9 P w H f.heap->(∀b,H b≠Uh->b=a)->(H a≠Uh->K.lookup a=Uh)->
   codeAny (model P w) callerA (.call (.ref fa) ⟨[.ref a],[]⟩) (λr s'=>r=.ok (.ret (.bool Um))/\OldK f.heap s'.heap/\s'.os=f.os/\AllBare s'.gens) f:=by
  intro H T hS VR U hK;have C:∀{b:Uq} {o:Obj},f.heap.get? b=lD o->H b=Uh->(ym f.heap H).get? b=lD o:=λe n=>Kh e n;have E:∀{b:Uq} {o:Obj} {y:Array XM} {A:Nat},f.heap.get? b=lD o->o.data=.dict y A->H b=Uh:=λ{b o y A} e d=>by
   cases q:H b with
   |none=>rfl
   |some u=>have M:b=a:=U b (by rw[q];simp);subst M;rw[ha]at e;cases e;have d':Data.seq vs.toArray _=Data.dict y A:=d;cases d'
  have i:∀{b:Uq} {m:Str->bg Uj},f.heap.Ns b m->(ym f.heap H).Ns b m:=λ{b m} ⟨o,y,A,e,d,r⟩=>⟨o,y,A,C e (E e d),d,r⟩;have t:K.In (ym f.heap H):=λb o e=>C (Y b o e) (by
   cases q:H b with
   |none=>rfl
   |some u=>have M:b=a:=U b (by rw[q];simp);subst M;rw[hK (by rw[q];simp)]at e;cases e)
  have hM:Mod K mg (ym f.heap H):=⟨t,i p,⟨G,i g,J⟩,let⟨mc,h1,h2⟩:=Q;⟨mc,i h1,h2⟩⟩;have e0:Env0 P w K mg (ym f.heap H) callerA [] f H:=⟨rfl,hM,λb o e=>Ng e,W7 (FU _ _),trivial,λb g=>a5 (show b∈([]:bb Uq)from g) (by simp),VR,.of_eq hg⟩;refine Zp ((F _ t (i p)).run callerA [] f H ⟨[.ref a],[]⟩ [.ref a] [.ref a] _ _ hr e0 (R f (.ref a)) (.cons rfl .nil) (I H T hS)) λr s' h=>?_;cases r with
  |error e=>exact(L H e s' h).elim
  |ok fl=>
   cases fl with
   |next=>exact False.elim h
   |brk=>exact False.elim h
   |cont=>exact False.elim h
   |ret u=>
    obtain⟨v,H',os,B,un,O,r',q⟩:=h;have q':v=.bl Um:=q;subst q';obtain rfl:u=Uj.bool Um:=r';refine⟨rfl,OldK.of_keep λb o e=>?_,os,B⟩;cases q:H b with
    |none=>exact un.keep b o e q (by intro z;exact a5 (show b∈([]:bb Uq)from z) (by simp)) (by simp)
    |some u=>
     rcases T b with z|⟨ob,xs,z⟩
     .rw[q]at z;cases z
     .have z2:=un.aaw b ob _ z;obtain⟨X,_⟩:=VR b _ z;obtain⟨e2,_⟩:=O b _ z2;rw[e]at X;cases X;exact e2
 cases hk:K.lookup a with
 |some o=>have e:=Y a o hk;rw[ha]at e;cases e;refine j (λ_=>Uh) (λ_=>.inl rfl) (.inr ⟨_,vs.toArray,_,hk,rfl,rfl,rfl,by rw[UG,N];exact S,by simpa using rv⟩) (λb u z=>by have l:(Uh:bg HO)=lD u:=z;cases l) (λb z=>a5 rfl z) λz=>a5 rfl z
 |none=>
  refine j (λb=>if b=a then lD (.frz {cls:=.type "list",data:=.seq vs.toArray} (.lst (ns.map V.int)))else Uh) (λb=>?_) (.inl (.inr ⟨{cls:=.type "list",data:=.seq vs.toArray},av rfl⟩)) (λb u z=>?_) (λb z=>?_) λ_=>hk
  .by_cases g:b=a
   .exact .inr ⟨_,_,av g⟩
   .exact .inl (ax g)
  .by_cases g:b=a
   .have l:=(av g).symm.trans z;cases l;subst g;exact⟨ha,by rw[Ui];exact S,vs,_,rv,ha⟩
   .have l:=(ax g).symm.trans z;cases l
  .by_cases g:b=a
   .exact g
   .exact a5 (ax g) z
def bf(s:Ws)(j:Nat):Ws:=match s with
 |.ClassDef _ _ _ body _ _ _ _ _ _ _=>body.getD j (.Pass ⟨0,0,0,0⟩)
 |_=>.Pass ⟨0,0,0,0⟩
def gr(s:Ws):Arguments:=match s with
 |.FunctionDef _ a _ _ _ _ _ _ _ _=>a
 |_=>{posonlyargs:=[],args:=[],vararg:=Uh,kwonlyargs:=[],kw_defaults:=[],kwarg:=Uh,defaults:=[]}
def cC(s:Ws):bb Ws:=match s with
 |.FunctionDef _ _ b _ _ _ _ _ _ _=>b
 |_=>[]
def aB(s:Ws):Xg:=match s with
 |.FunctionDef _ _ _ _ _ _ sc _ _ _=>sc
 |_=>{kind:=.function,names:=[],isGenerator:=Uw,isCoroutine:=Uw}
abbrev d4:xT:=λ_ _ _ _ _ _=>False
abbrev E0:XK:=λ_ _ _=>False
theorem Dz:fW d4 X E0:=λ_ _ _ _ _ _ _ h=>h.elim
structure Xn(K:Ld)(x qual:Str)(st:Ws)(f:Uq)(fd:Vz):Prop where
 ex:∃(oc:Uj) (od:bg Uq) (kV doc pm:Uj) (an:bg Uq) (VV ct:Uj) (osl:Array (bg Uj)),
  fd=VY x qual (gr st) (cC st) (aB st) .none kV doc pm an VV ct/\K.lookup f=lD ⟨oc,od,.func fd,osl⟩/\X7 K VV qual=Um
 kp:V8 K (.ref f)=Um
section
variable{P:US}{w:Vb}{K:Ld}{mg:Str->bg Uj}{base:Heap}
theorem Xn.ok{x a:Str}{b:Ws}{f:Uq}{fd:Vz}{N ps:bb Str}{k:Nat}{sp:Sp}(F:Xn K x a b f fd)(S:WL N ps (aB b))(len:∀vs H Q E,sp vs H Q E->vs.length=ps.length)
  (o:∀(e:Uj) (A:U4) (outer:bb Env) (s:Ur) (H:Hp) (vs:bb V) (Q:VK) (E:XK),Wt k (A.deeper (envOfC a (aB b) s.heap.objs.size f e))->sp vs H Q E->
   ∃t,PSs (gb d4 P w K mg base N a (aB b) f e A outer s H E).nox (cC b) t/\t {nx:=λ_ H'=>Q .WA H',rt:=Q} (start N vs) H):FnOk P w K mg base d4 (k+1) f fd ps sp:=by
 obtain⟨u,r,kV,n,p,v,e,ct,j,rfl,l,i⟩:=F.ex;refine Kc l i S len λA outer s H vs Q E m g=>?_;obtain⟨t,h,q⟩:=o e A outer s H vs Q E m g;exact⟨t,h.nox,q⟩
theorem Xn.binds{x a:Str}{e:Ws}{f:Uq}{fd:Vz}{ps:bb Str}(F:Xn K x a e f fd)
  (h:∀(kV b g:Uj) (i:bg Uq) (j ct:Uj) (us:bb Uj),us.length=ps.length->bindArgs (VY x a (gr e) (cC e) (aB e) .none kV b g i j ct) ⟨us,[]⟩=pure (ps.zip us)):Binds K fd ps []:=by
 obtain⟨o,n,kV,b,g,i,j,ct,l,rfl,p,m⟩:=F.ex;exact .all (h kV b g i j ct)
theorem Jb{a:Ws}{kV b g e ct:Uj}(l:K.lookup f=lD ⟨oc,od,.func (VY x qual (gr a) (cC a) (aB a) .none kV b g an e ct),osl⟩)
  (c:X7 K e qual=Um) (k:V8 K (.ref f)=Um):Xn K x qual a f (VY x qual (gr a) (cC a) (aB a) .none kV b g an e ct):=⟨⟨oc,od,kV,b,g,an,e,ct,osl,rfl,l,c⟩,k⟩
end
theorem Eo(a:Wt k A):A.units+1<cLine:=aab (Nat.add_le_add_left (by decide:1<=64) _) a.units
section
variable{X:Cx}
theorem pv(i:Nat)(e:X.N[i]?=lD x:=by rfl)(b:Th X.env.scope x:=by first|exact a6 rfl|exact a7 (a6 rfl)|exact a7 (a7 rfl))(hd:(x==("__debug__":Str))=Uw:=by decide)
  (a:(x==("__classdict__":Str))=Uw:=by decide):PE X (.Name x pos) (zO i):=Pc e b hd a
end
def We(H H':Hp):Prop:=∀b o,H b=lD o->H' b=lD o
theorem We.refl(H:Hp):We H H:=λ_ _ h=>h
theorem We.trans(a:We H H1)(b:We H1 H2):We H H2:=λc o h=>b c o (a c o h)
theorem We.free(e:We H H')(h:H' l=Uh):H l=Uh:=by
 cases q:H l with
 |none=>rfl
 |some o=>rw[e l o q]at h;cases h
end L2
set_option maxHeartbeats 4000000
namespace L2
open PySem PySem.Spec PyProof.Rows
section
variable{X:Cx}{Z:bb (Uq×Obj)}{σ:St}{H:Hp}{s:Ur}{h':Heap}
theorem Inv.ack{ch:bb Uq}(I:Inv X Z σ H s)(i:∀b∈ch,qv X Z H b)
  (k:∀b u,b∉ch->s.heap.get? b=lD u->h'.get? b=lD u) (l:s.heap.objs.size<=p)
  (new:ObjOk X.prog X.w (bM H p o) h' p o):Inv X Z σ (bM H p o) {s with heap:=h',toks:=t'}:=by
 have hn:=I.VR.fresh l;have f:∀b u,H b=lD u->b∉ch:=λb u e z=>by rw[(i b z).1]at e;cases e
 have h:∀b u,s.heap.get? b=lD u->b≠p:=λb u e=>UX (UU (bP e) l);refine I.step (λb g=>?_) (λb u _ _ a e _=>k b u a e) (λb u _ _ a e _=>⟨u.slots,k b u a e⟩)
  (λb u _ e n=>by rw[aI (h b u e)];exact n) (λb u a e=>⟨u,k b u a e⟩) (λb xs e=>by rw[aI (b9 e hn)];exact e)
  (λb u xs e=>by rw[aI (b9 e hn)];exact e) (λb ps e=>⟨#[],by rw[aI (b9 e hn),e];simp⟩) (λm hm=>?_) (λb u e=>?_) I.bare
 .obtain⟨_,C,_,B,A,y⟩:=i b g;exact⟨B,C,A,y⟩
 .obtain⟨j,E,F,t,r⟩:=hm;exact⟨j,E,F,k _ j (λz=>(i _ z).2.1 rfl) t,r⟩
 .by_cases g:b=p
  .subst g;rw[aV]at e;cases e;exact new
  .rw[aI g]at e
   refine(I.VR b u e).Yt (λc v a q=>k c v ?_ q) (λc q=>by rw[aI (b9 q hn)];exact q) λc xs q=>by rw[aI (b9 q hn)];exact q
   rcases a with z|z
   .rw[z];exact f b u e
   .exact f c _ z
end
mutual
inductive DV(K:Ld)(H:Hp):V->Up->Prop
 |WA:DV K H .WA .none
 |bl (b:Bool):DV K H (.bl b) (.bool b)
 |int (i:Int):DV K H (.int i) (.int i)
 |str (x:Str):DV K H (.str x) (.str x)
 |tup {a:Uq} {xs:bb V} {ds:bb Up}:YA K H a xs->V9 K H xs ds->DV K H (.ref a) (.tuple ds)
 |lst {a:Uq} {xs:bb V} {ds:bb Up}:YL K H a xs->V9 K H xs ds->DV K H (.ref a) (.list ds)
inductive V9(K:Ld)(H:Hp):bb V->bb Up->Prop
 |nil:V9 K H [] []
 |cons {v:V} {vs:bb V} {d:Up} {ds:bb Up}:DV K H v d->V9 K H vs ds->V9 K H (v::vs) (d::ds)
end
section
variable{X:Cx}{Z:bb (Uq×Obj)}{σ:St}{H:Hp}{s:Ur}
mutual
theorem DV.reads(I:Inv X Z σ H s):∀{v:V} {d:Up} {u:Uj},DV X.K H v d->RelV v u->∃as,aei s.heap u d as
 |_,_,_,.WA,r=>by cases r;exact⟨_,.none⟩
 |_,_,_,.bl b,r=>by cases r;exact⟨_,.bool b⟩
 |_,_,_,.int i,r=>by obtain⟨t,rfl⟩:=r;exact⟨_,.int i t⟩
 |_,_,_,.str x,r=>by obtain⟨t,rfl⟩:=r;exact⟨_,.str x t⟩
 |_,_,_,.tup h hs,r=>by cases r;obtain⟨a,rv,⟨o,e,c,n,d⟩,_⟩:=I.tuple h;obtain⟨as,q⟩:=V9.reads I hs rv;exact⟨_,.tuple e c d (by simpa using q)⟩
 |_,_,_,.lst h hs,r=>by cases r;obtain⟨a,rv,⟨o,n,e,c,_,d⟩,_⟩:=I.list h;obtain⟨as,q⟩:=V9.reads I hs rv;exact⟨_,.list e c d (by simpa using q)⟩
theorem V9.reads(I:Inv X Z σ H s):∀{vs:bb V} {ds:bb Up} {us:bb Uj},V9 X.K H vs ds->Vals vs us->∃as,ace s.heap us ds as
 |_,_,_,.nil,r=>by cases r;exact⟨_,.nil⟩
 |_,_,_,.cons h hs,r=>by
  cases r with
  |cons b a=>obtain⟨as,q⟩:=DV.reads I h b;obtain⟨bs,e⟩:=V9.reads I hs a;exact⟨_,.cons q e⟩
end
end
def MD(K:Ld)(neg:Bool):R2:=λx y H Q=>∃dx dy,DV K H x dx/\DV K H y dy/\dx.canLay0=Um/\dy.canLay0=Um/\dx.depth<=64/\Q (.bl (if neg then !Up.eqv dx dy else Up.eqv dx dy)) H
section
variable{X:Cx}
theorem nW(o:X.A.units+64<cLine):OpR X (Wv .Eq) (MD X.K Uw):=by intro a s n H x y v u Q I e b h;obtain⟨dx,r,m,l,j,i,p,q⟩:=h;obtain⟨t,g⟩:=m.reads I e;obtain⟨bs,f⟩:=l.reads I b;exact aiD g f j i (by ext) ⟨.bl _,H,I,rfl,q⟩
theorem BK(o:X.A.units+64<cLine):OpR X (Wv .NotEq) (MD X.K Um):=by intro a s n H x y v u Q I e b h;obtain⟨dx,r,m,l,j,i,p,q⟩:=h;obtain⟨t,g⟩:=m.reads I e;obtain⟨bs,f⟩:=l.reads I b;exact aiE g f j i (by ext) ⟨.bl _,H,I,rfl,q⟩
theorem GR:OpR X (Wi .FloorDiv) (rI (λ_ j=>0<j/\j.natAbs.log2<9000) λi j=>.int (i/j)):=Rj λi j _ _ _ _ _ a q=>by have b:(0:Int)<j:=a.1;exact floordiv_int (by ext) (by rw[aba i (by ext)];exact q) (.inl (PyProof.noPylong_of_log2 a.2))
end
def jz(env:Env):bb (Str×U5)->bb (Str×Uq)->bb (Str×Uq)
 |[],acc=>acc
 |(n,k)::r,acc=>if(k==U5.free)=Um then(match env.cells.lookup n with|some c=>jz env r ((n,c)::acc)|none=>jz env r acc)else jz env r acc
theorem ou{f:Str×U5->bb (Str×Uq)->Sem (ForInStep (bb (Str×Uq)))}
  (i:∀n k a,(k==U5.free)=Uw->f (n,k) a=pure (.yield a)) (g:∀n c a,env.cells.lookup n=lD c->f (n,.free) a=pure (.yield ((n,c)::a))):
  ∀(names:bb (Str×U5)) (a:bb (Str×Uq)),(∀y∈names,y.2=.free->∃c,env.cells.lookup y.1=lD c)->forIn names a f=pure (jz env names a)
 |[],a,_=>rfl
 |(n,k)::r,a,h=>by
  have j:=λy m=>h y (UC _ m);rw[YV];cases hk:(k==U5.free)with
  |false=>rw[i n k a hk,pure_bind];show forIn r a f=_;rw[ou i g r a j];simp only[jz,hk,Xr,if_false]
  |true=>
   have e:k=.free:=by simpa using hk
   subst e;obtain⟨c,l⟩:=h _ UE rfl;rw[g n c a l,pure_bind];show forIn r ((n,c)::a) f=_;rw[ou i g r _ j];have b:=l;simp only[jz,hk,if_true,b]
theorem oA(h:∀y∈scope.names,y.2=.free->∃c,env.cells.lookup y.1=lD c):closureFor scope env=pure (jz env scope.names []):=by simp only[closureFor];rw[ou (λn k a b=>by simp only[b,Xr,if_false]) (λn c a e=>by simp only[ec,if_true,cellOf,e,pure_bind]) scope.names [] h,pure_bind]
theorem lU:∀(names:bb (Str×U5)) (a:bb (Str×Uq)),(∀x c,a.lookup x=lD c->env.cells.lookup x=lD c)->∀x c,(jz env names a).lookup x=lD c->env.cells.lookup x=lD c
 |[],_,h,x,c,e=>h x c e
 |(n,k)::r,a,h,x,c,e=>by
  unfold jz at e;split at e
  .split at e
   .rename_i g b
    refine lU r _ (λy d q=>?_) x c e;rw[UO]at q;split at q
    .rename_i f;cases q;rw[eq_of_beq f];exact b
    .exact h y d q
   .exact lU r a h x c e
  .exact lU r a h x c e
theorem mO:∀(names:bb (Str×U5)) (a:bb (Str×Uq)) (x:Str),(a.lookup x).isSome=Um->((jz env names a).lookup x).isSome=Um
 |[],_,_,h=>h
 |(n,k)::r,a,x,h=>by
  unfold jz;split
  .split
   .refine mO r _ x ?_
    rw[UO];split
    .rfl
    .exact h
   .exact mO r a x h
  .exact mO r a x h
theorem pE:∀(names:bb (Str×U5)) (a:bb (Str×Uq)) (x:Str) (c:Uq),(x,U5.free)∈names->env.cells.lookup x=lD c->((jz env names a).lookup x).isSome=Um
 |[],_,_,_,h,_=>by cases h
 |(n,k)::r,a,x,c,h,hc=>by
  rcases U2.mp h with z|h
  .cases z;simp only[jz,ec,if_true,hc];exact mO r _ _ (by simp[UO])
  .unfold jz
   split
   .split
    .exact pE r _ x c h hc
    .exact pE r a x c h hc
   .exact pE r a x c h hc
theorem AA(h:(x,U5.free)∈names)(a:env.cells.lookup x=lD c):(jz env names []).lookup x=lD c:=by
 have q:=pE names [] x c h a;cases e:(jz env names []).lookup x with
 |none=>rw[e]at q;cases q
 |some d=>have z:=lU names [] (λy d q=>by cases q) x d e;rw[a]at z;exact z.symm
theorem Ak{env:Env}{a:Xg}{x:Str}{k:U5}(h:(relabel a env).names.lookup x=lD k):∃k0,(x,k0)∈a.names/\(k=k0\/(k0=.free/\k=.cell)):=by
 obtain⟨⟨n,k0⟩,hm,e⟩:=Vc.mp (Wc h);simp only at e;split at e
 .rename_i b
  cases e;have f:(k0==U5.free)=Um:=by rw[UW,UW]at b;exact b.1.1
  exact⟨k0,hm,.inr ⟨by simpa using f,rfl⟩⟩
 .cases e;exact⟨_,hm,.inl rfl⟩
theorem kS{env:Env}:∀{names:bb (Str×U5)} {x:Str},names.lookup x=lD .free->
  (names.map λ(n,k)=>if(k==U5.free&&env.scope.kind==.function&&env.kindOf n==lD .cell)then(n,U5.cell)else(n,k)).lookup x=lD .cell\/
  (names.map λ(n,k)=>if(k==U5.free&&env.scope.kind==.function&&env.kindOf n==lD .cell)then(n,U5.cell)else(n,k)).lookup x=lD .free
 |[],_,h=>by cases h
 |(n,k)::r,x,h=>by
  rw[UO]at h;rw[UJ];dsimp only;by_cases a:(k==U5.free&&env.scope.kind==.function&&env.kindOf n==lD .cell)=Um
  .rw[av a,UO]
   cases hx:x==n with
   |true=>exact .inl rfl
   |false=>rw[hx]at h;exact kS h
  .rw[ax a,UO]
   cases hx:x==n with
   |true=>rw[hx]at h;exact .inr h
   |false=>rw[hx]at h;exact kS h
def fA(own:bb Str)(fv:bb (Str×Nat)):bb Str:=own++fv.map (·.1)
def jR(own:bb Str)(fv:bb (Str×Nat))(a:St):St:=own.map (λ_=>Uh)++fv.map λp=>(a[p.2]?).join
def abZ(X:Cx)(a:Xg):bb (Str×Nat)->Prop
 |[]=>True
 |p::r=>(X.N[p.2]?=lD p.1/\a.names.lookup p.1=lD .free/\(X.env.scope.names.lookup p.1=lD .cell\/X.env.scope.names.lookup p.1=lD .free))/\abZ X a r
theorem abZ.mem:∀{fv:bb (Str×Nat)},abZ X scope fv->∀p∈fv,X.N[p.2]?=lD p.1/\scope.names.lookup p.1=lD .free/\(X.env.scope.names.lookup p.1=lD .cell\/X.env.scope.names.lookup p.1=lD .free)
 |[],_,p,hp=>by cases hp
 |q::r,h,p,hp=>by
  rcases U2.mp hp with z|hp
  .rw[z];exact h.1
  .exact h.2.mem p hp
def yJ(X:Cx)(a:Xg)(C:Uq):bb (Str×Uq):=Wl (C+1) a.names (jz X.env a.names [])
theorem tP:∀(names:bb (Str×U5)) (n:Nat) (b:bb (Str×Uq)) (x:Str) (c:Uq),(Wl n names b).lookup x=lD c->(n<=c/\(x,U5.cell)∈names)\/b.lookup x=lD c
 |[],_,_,_,_,h=>.inr h
 |(y,k)::r,n,b,x,c,h=>by
  unfold Wl at h;by_cases f:(k==U5.cell)=Um
  .rw[av f]at h
   have e:k=.cell:=by simpa using f
   rcases tP r _ _ x c h with⟨a,g⟩|a
   .exact .inl ⟨Yw a,UC _ g⟩
   .rw[UO]at a
    split at a
    .rename_i i;cases a;exact .inl ⟨Ux _,by rw[eq_of_beq i,e];exact UE⟩
    .exact .inr a
  .rw[ax f]at h
   rcases tP r _ _ x c h with⟨a,g⟩|a
   .exact .inl ⟨a,UC _ g⟩
   .exact .inr a
theorem HE:∀(names:bb (Str×U5)) (n:Nat) (a:bb (Str×Uq)) (x:Str),(x,U5.cell)∉names->(Wl n names a).lookup x=a.lookup x
 |[],_,_,_,_=>rfl
 |(y,k)::r,n,a,x,h=>by
  have f:=λz=>h (UC _ z);unfold Wl;by_cases b:(k==U5.cell)=Um
  .have e:k=.cell:=by simpa using b
   rw[av b,HE r _ _ x f,UO];have g:(x==y)=Uw:=by refine beq_eq_false_iff_ne.mpr λz=>h ?_;rw[z,e];exact UE
   rw[g]
  .rw[ax b];exact HE r _ _ x f
theorem uR:∀(names:bb (Str×U5)) (h:Heap) (b:bb (Str×Uq)) (x:Str) (c:Uq),(Wl h.objs.size names b).lookup x=lD c->(h.objs.size<=c/\(pushCells h names).IsCell c Uh)\/b.lookup x=lD c
 |[],_,_,_,_,e=>.inr e
 |(y,k)::r,h,b,x,c,e=>by
  unfold Wl at e;unfold pushCells;by_cases f:(k==U5.cell)=Um
  .rw[av f]at e⊢
   rw[<-cN h {cls:=.type "cell",data:=.cell Uh}]at e;rcases uR r _ _ x c e with⟨a,g⟩|a
   .rw[cN]at a;exact .inl ⟨Yw a,g⟩
   .rw[UO]at a
    split at a
    .cases a;exact .inl ⟨Ux _,_,abJ _ _ _ _ (cj _ rfl),rfl⟩
    .exact .inr a
  .rw[ax f]at e⊢;exact uR r _ _ x c e
theorem Cr:∀(names:bb (Str×U5)) (n:Nat) (e:bb (Str×Uq)),(∀x c,e.lookup x=lD c->c<n)->(∀x y c,e.lookup x=lD c->e.lookup y=lD c->x=y)->∀x y c,(Wl n names e).lookup x=lD c->(Wl n names e).lookup y=lD c->x=y
 |[],_,_,_,h2,x,y,c,e1,e2=>h2 x y c e1 e2
 |(z,k)::r,n,e,h1,h2,x,y,c,e1,e2=>by
  unfold Wl at e1 e2;by_cases h:(k==U5.cell)=Um
  .rw[av h]at e1 e2
   refine Cr r (n+1) ((z,n)::e) (λa d q=>?_) (λa b d g f=>?_) x y c e1 e2
   .rw[UO]at q
    split at q
    .cases q;exact XW _
    .exact Yx (h1 a d q)
   .rw[UO]at g f
    split at g
    .rename_i ha
     split at f
     .rename_i i;rw[eq_of_beq ha,eq_of_beq i]
     .cases g;exact a5 (h1 b _ f) (VH _)
    .split at f
     .cases f;exact a5 (h1 a _ g) (VH _)
     .exact h2 a b d g f
  .rw[ax h]at e1 e2;exact Cr r n e h1 h2 x y c e1 e2
theorem A1:∀{names:bb (Str×U5)} {x:Str} {k a:U5},(names.map (·.1)).Nodup->names.lookup x=lD k->(x,a)∈names->k=a
 |[],_,_,_,_,h,_=>by cases h
 |(y,j)::r,x,k,a,hn,h,hm=>by
  rw[UJ,Wb]at hn;rw[UO]at h;rcases U2.mp hm with e|hm'
  .cases e;rw[ec]at h;exact(UH h).symm
  .cases hx:x==y with
   |true=>rw[eq_of_beq hx]at hm';exact a5 (Vc.mpr ⟨_,hm',rfl⟩) hn.1
   |false=>rw[hx]at h;exact A1 hn.2 h hm'
def cL(X:Cx)(s:Ur)(H:Hp)(a:Xg)(C:Uq)(N:bb Str)(fp:bb Uq):Cx:=
 {X with N:=N,s₀:=s,H₀:=H,env:=compEnvC a (yJ X a C) C X.env,outer:=X.stack,stack:=X.stack,ex:=fp,fn:=λx=>((jz X.env a.names []).lookup x).isNone,pn:=[],xe:=λ_ _=>False}
section
variable{X:Cx}{Z:bb (Uq×Obj)}{Y:St}{H:Hp}{s:Ur}
theorem wH{a:Xg}(I:Inv X Z Y H s)(e:(jz X.env a.names []).lookup x=lD c):X.env.cells.lookup x=lD c/\c<s.heap.objs.size:=by have h:=lU _ _ (λ_ _ q=>by cases q) x c e;obtain⟨v,o,z,_⟩:=I.cell x c h;exact⟨h,bP z⟩
theorem CO(I:Inv X Z Y H s)(M:scope.kind=.function)(n:(scope.names.map (·.1)).Nodup)
  (v:∀y∈scope.names,y.2=.free->∃c,X.env.cells.lookup y.1=lD c) (g:s.heap.objs.size<=C) (j:∀b∈fp,qv X Z H b) (f:∀b∈fp,b<s.heap.objs.size):(cL X s H scope C N fp).Ok where
 mod:=I.ok.mod
 kind:=M
 glob:=I.ok.glob
 blt:=I.ok.blt
 above:=g
 inj:=Cr _ _ _ (λx c e=>Yx (UU (wH I e).2 g)) λx y c B A=>I.ok.inj x y c (wH I B).1 (wH I A).1
 has:=λx G=>by
  have m:∃k,(relabel scope X.env).names.lookup x=lD k/\(k=.cell\/k=.free):=by
   rcases G with z|z
   .exact⟨_,z,.inl rfl⟩
   .exact⟨_,z,.inr rfl⟩
  obtain⟨k,K,t⟩:=m;obtain⟨E,hm,u⟩:=Ak K;have e:E=.free\/E=.cell:=by
   rcases u with z|⟨z,_⟩
   .subst z
    rcases t with z|z
    .exact .inr z
    .exact .inl z
   .exact .inl z
  have q:((yJ X scope C).lookup x).isSome=Um:=by
   rcases e with e|e
   .subst e;obtain⟨c,L⟩:=v _ hm rfl;exact Xt _ _ _ (.inr (by rw[AA hm L];rfl))
   .subst e
    refine Xt _ _ _ (.inl ?_);cases z:scope.names.lookup x with
    |none=>exact a5 hm (λhm=>by
      have:∀{l:bb (Str×U5)},l.lookup x=Uh->(x,U5.cell)∉l:=λ{l}=>by
       induction l with
       |nil=>exact λ_=>by simp
       |cons p r F=>
        intro h q;rw[UO]at h;rcases U2.mp q with q|q
        .rw[<-q,ec]at h;cases h
        .split at h
         .cases h
         .exact F h q
      exact this z hm)
    |some O=>rw[A1 n z hm]
  exact aa4.mp q
 cab:=λx c B A=>by
  have i:((jz X.env scope.names []).lookup x).isNone=Um:=B;have w:=A;rcases tP _ _ _ x c w with⟨z,_⟩|z
  .exact Va g (Yw z)
  .rw[z]at i;cases i
 hd:=I.ok.hd
 frames:=I.ok.frames
 stk:=.inl rfl
 exf:=λb a=>⟨UX (UU (f b a) g),λx c e=>by
  rcases tP _ _ _ x c e with⟨z,_⟩|z
  .exact VN (UU (UU (f b a) g) (Yw z))
  .exact(j b a).2.2.2.2.1 x c (wH I z).1⟩
 bs:=I.bs
 bsz:=Va I.ok.bsz I.sz
 abS:=λb o e a=>by
  rcases(j b a).2.2.2.1 with z|z
  .exact I.ok.abS b o e z
  .exact a5 (UU (bP e) (Va I.ok.bsz z)) (VH _)
 abP:=λb a J=>by
  rcases U2.mp (I.ZD b J)with z|z
  .exact(j b a).2.1 z
  .exact(j b a).2.2.1 z
 ZA:=I.stack
 frf:=I.ZY
theorem Gv(I:Inv X Z Y H s)(XT:scope.kind=.function)(hnd:(scope.names.map (·.1)).Nodup)
  (hfr:∀y∈scope.names,y.2=.free->∃c,X.env.cells.lookup y.1=lD c) (hfv:abZ X scope fv) (hD:s.heap.objs.size<=D) (hDC:D<C) (hC:s.heap.objs.size<=C) (hf:∀b∈fp,qv X Z H b) (hfl:∀b∈fp,b<s.heap.objs.size)
  (hns:h1.Ns C m) (hoc:∀x c,(yJ X scope C).lookup x=lD c->C<c->∃v,h1.IsCell c v) (hk:∀b o,s.heap.get? b=lD o->h1.get? b=lD o) (hd:∃n,h1.get? D=lD {cls:=.type "list",data:=.seq #[] n}):
  Inv (cL X s H scope C (fA own fv) fp) [] (jR own fv Y) (bM H D (.lst [])) {s with heap:=h1,toks:=t1}:=by
 have hn:=I.VR.fresh hD;obtain⟨n,hd⟩:=hd;have hCD:=VN hDC;have hcs:∀x c,(yJ X scope C).lookup x=lD c->C<c\/(X.env.cells.lookup x=lD c/\c<s.heap.objs.size):=λx c e=>by
  rcases tP _ _ _ x c e with⟨z,_⟩|z
  .exact .inl z
  .exact .inr (wH I z)
 refine⟨CO I XT hnd hfr hC hf hfl,rfl,I.bare,Un.laid hk hD hn,⟨m,hns,λi x v e1 e2 e3=>?_⟩,λx c e=>?_,?_,λx c e=>?_,λp hp=>a5 (show p∈([]:bb (Uq×Obj))from hp) (by simp),?_,?_⟩
 .
  have e1':(own++fv.map (·.1))[i]?=lD x:=e1;have e2':(own.map (λ_=>(Uh:bg V))++fv.map λp=>(Y[p.2]?).join)[i]?=lD (lD v):=e2;have hi:own.length<=i:=by
   by_cases hi:i<own.length
   .rw[Uy (by simpa using hi),Uu]at e2'
    cases q:own[i]? with
    |none=>rw[q]at e2';cases e2'
    |some _=>rw[q]at e2';cases e2'
   .omega
  rw[U6 hi,Uu]at e1';rw[U6 (by simpa using hi),Uu,Ui]at e2';cases q:fv[i - own.length]? with
  |none=>rw[q]at e1';cases e1'
  |some p=>
   rw[q]at e1' e2';have ex:=UH e1';subst ex;have ev:(Y[p.2]?).join=lD v:=UH e2';obtain⟨g1,g2,g3⟩:=hfv.mem p (UL q);have ev2:Y[p.2]?=lD (lD v):=by
    cases z:Y[p.2]? with
    |none=>rw[z]at ev;cases ev
    |some y=>rw[z]at ev;exact d3 lD ev
   obtain⟨m0,_,hl⟩:=I.loc;obtain⟨u,r,l⟩:=hl p.2 p.1 v g1 ev2 (.inr g3);refine⟨u,r,?_⟩;have l2:∃c,X.env.cells.lookup p.1=lD c/\s.heap.IsCell c (lD u):=by
    rcases l with⟨k,_⟩|⟨_,c,e,z⟩
    .have k':X.env.scope.names.lookup p.1=lD .local:=k
     rcases g3 with z|z
     .rw[z]at k';cases k'
     .rw[z]at k';cases k'
    .exact⟨c,e,z⟩
   obtain⟨c,e,o,ho,hdc⟩:=l2;refine .inr ⟨?_,c,?_,o,hk c o ho,hdc⟩
   .exact kS g2
   .show(yJ X scope C).lookup p.1=lD c;unfold yJ;rw[HE _ _ _ _ λz=>by cases A1 hnd g2 z];exact AA (Wc g2) e
 .rcases hcs x c e with z|⟨z,_⟩
  .exact hoc x c e z
  .obtain⟨v,o,ho,hdc⟩:=I.cell x c z;exact⟨v,o,hk c o ho,hdc⟩
 .show bM H D (.lst []) C=Uh;rw[aI hCD];exact I.VR.fresh hC
 .show bM H D (.lst []) c=Uh
  rcases hcs x c e with z|⟨z1,z2⟩
  .rw[aI (VN (XD hDC z))];exact I.VR.fresh (Va hC (Yb z))
  .rw[aI (UX (UU z2 hD))];exact I.X2 x c z1
 .exact I.VR.laid hk hD ⟨by show 0<=UB;exact Vl _,[],n,.nil,hd⟩
 .show(own.map (λ_=>(Uh:bg V))++fv.map λp=>(Y[p.2]?).join).length=(own++fv.map (·.1)).length;simp
end
def FK(X:Cx)(e:bb Vq)(t:TT):Prop:=
 ∀(a:bb (Uq×Obj)) (s:Ur) (b:St) (H:Hp) (Q:Bool->Hp->Prop),Inv X a b H s->t b H Q->
  wpAny (model X.prog X.w) X.A (forIn e Um λc r=>if r=Um then do let ok<-isTrue c X.env (eval c X.env);pure (ForInStep.yield ok)else pure (ForInStep.yield r)) (TP X a b Q) X.xe s
def JW:TT:=λ_ H Q=>Q Um H
theorem bU:FK X [] JW:=λ_ _ _ H _ I h=>wpAny_tests_nil ⟨H,I,h⟩
theorem ui(h:PT X c tc):FK X [c] tc:=λa s b H Q I e=>wpAny_tests_one (h a s b H Q I e)
def G8(J:It)(D:Uq)(e:St)(g:TG)(l:TT)(j:TE)(o:Hp)(Fin:Hp->Prop):Prop:=
 ∃W:Nat->Nat->St->Hp->Prop,(∃m,W 0 m e (bM o D (.lst [])))/\∀i m σ H,W i m σ H->
  (J.stop i H/\Fin H)\/(J.go i H/\∃N:St->Hp->Prop,(∀σ' H',N σ' H'->∃m',m'<m/\W (i+1) m' σ' H')/\
   ∀x H',J.yld i H x H'->g x σ H' λa n=>l a n λb h=>if b=Um then j a h λy f=>∃ys,f D=lD (.lst ys)/\ys.length<UB/\N a (bM f D (.lst (ys++[y])))else N a h)
section
variable{prog:US}{w:Vb}{A:U4}{s:Ur}
theorem F9{i p f:Vq}{g:bb Vq}{b:Xg}{l:Pos}{q j:Uj}{env:Env}{R:abb->Ur->Prop}{XE:Uj->Ur->Prop}(F:∀x s1,XE x s1->notedBy (model prog w) A env (λe s2=>R (.error e) s2) x s1)(I:Nat->Ur->Prop)
  (turn:∀n s,I n s->wpAny (model prog w) A (pyNext q) (λr s1=>match r with
   |none=>R (.ok .next) s1
   |some v=>wpAny (model prog w) A (letOwnedTupleGo p q v) (λ_ s2=>wpAny (model prog w) A (assign p env v) (λ_ s3=>
     wpAny (model prog w) A (forIn g Um λc r=>if r=Um then do let ok<-isTrue c env (eval c env);pure (ForInStep.yield ok)else pure (ForInStep.yield r)) (λok s4=>
      if ok=Um then wpAny (model prog w) A (eval i env) (λx s5=>
       wpAny (model prog w) A (call (.builtin "list.append") [j,x]) (λ_ s6=>∃m,m<n/\I m s6) (λ_ _=>False) s5) XE s4
      else∃m,m<n/\I m s4) (λ_ _=>False) s3) (λ_ _=>False) s2) (λ_ _=>False) s1) (λ_ _=>False) s)
  (n:Nat) (h:I n s):codeAny (model prog w) A (.compLoop (.ListComp i [⟨p,f,g,0⟩] b l) 0 q j env) R s:=by
 refine codeAny_loop rfl I (λn s G=>?_) n h;show wpAny _ A (Sem.onRaise (compTurn (.ListComp i [⟨p,f,g,0⟩] b l) 0 q j env) (λx=>do noteFrame x env;theTreesLotGoes x)) _ _ s;refine wpAny_noted ?_;rw[compTurn_list]
 have o:∀{α:Type} {t:Sem α} {Q C:α->Ur->Prop} {E:Uj->Ur->Prop} {s:Ur},wpAny (model prog w) A t Q (λ_ _=>False) s->(∀a s',Q a s'->C a s')->wpAny (model prog w) A t C E s:=
  λu y=>wpAny_mono u y λ_ _ z=>False.elim z
 refine Ug (WE (Ug (o (turn n s G) λr s1 u=>?_)));cases r with
 |none=>exact Ut u
 |some v=>
  refine Ug (o u λ_ s2 y=>Ug (o y λ_ s3 K=>Ug (o K λok s4 B=>?_)));cases ok with
  |false=>exact Ut ⟨rfl,B⟩
  |true=>exact Ug (Ug (wpAny_mono B (λx s5 J=>Ug (o J λ_ s6 H=>Ut (Ut ⟨rfl,H⟩))) F))
end
section
variable{X:Cx}{Z:bb (Uq×Obj)}{Y:St}{H:Hp}{s:Ur}
theorem wY
  (h:Q (newEnv scope s.heap.objs.size globals (Wl (s.heap.objs.size+1) scope.names closure) qual Uh .none (lD env) builtinsNs) {s with heap:=pushCells (s.heap.push {cls:=.type "dict",data:=.dict #[]}) scope.names}):
  wpAny M A (newFunctionEnv scope globals closure [] qual Uh .none (lD env)) Q E s:=by
 simp only[newFunctionEnv,acM,if_true];refine Ug (wpAny_alloc ?_);refine Ug (wpAny_layCells _ (λe a b=>by cases hkc:a==U5.cell<;>simp[hkc]) _ _ _ _ ?_);rw[show({s with heap:=s.heap.push {cls:=.type "dict",data:=.dict #[]}}:Ur).heap.objs.size=s.heap.objs.size+1 from cN ..];rw[aa6];exact Ug (Ut (Ut h))
theorem oo{O tg l:Vq}{B:bb Vq}{scope:Xg}{pos:Pos}{own:bb Str}{fv:bb (Str×Nat)}{g:TG}{tc:TT}{te:TE}{E:Uj->Ur->Prop}{it:Uq}{fp:bb Uq}{U:Nat->Heap->Prop}{J:It}{Fin:Uq->Hp->Prop}
  {RR:Uj->Uq->abb->Ur->Prop} (I:Inv X Z Y H s) (hc:X.calm=Um) (XT:scope.kind=.function) (hnd:(scope.names.map (·.1)).Nodup) (hfr:∀y∈scope.names,y.2=.free->∃c,X.env.cells.lookup y.1=lD c) (hfv:abZ X scope fv)
  (T:Turn X.prog X.w X.K tg J fp it U) (st:U 0 s.heap) (G:∀b∈fp,qv X Z H b)
  (hg:∀C,PG (cL X s H scope C (fA own fv) fp) tg g) (ht:∀C,FK (cL X s H scope C (fA own fv) fp) B tc) {W:Uq->Uj->Ur->Prop} (he:∀C,PE ((cL X s H scope C (fA own fv) fp).Y6 (W C)) O te) (hEE:∀D C x s1,s.heap.objs.size<=C->W C x s1->notedBy (model X.prog X.w) X.A (compEnvC scope (yJ X scope C) C X.env) (λe s2=>RR (.ref D) C (.error e) s2) x s1)
  (hR:∀D,H D=Uh->G8 J D (jR own fv Y) g tc te H (Fin D))
  (hRR:∀D C H' s',Inv X Z Y H' s'->Fin D H'->(∃m,s'.heap.Ns C m)->s.heap.objs.size<=C->H' C=Uh->RR (.ref D) C (.ok .next) s'):
  wpAny (model X.prog X.w) X.A (newList []) (λacc s3=>wpAny (model X.prog X.w) X.A (newFunctionEnv scope X.env.globals (jz X.env scope.names []) [] X.env.qual Uh .none (lD X.env)) (λacE s4=>
   codeAny (model X.prog X.w) X.A (.compStart (.ListComp O [⟨tg,l,B,0⟩] scope pos) 0 (.ref it) acc {acE with scope:=relabel scope X.env}) (RR acc acE.locals) s4) E s3) E s:=by
 refine VF ?_;generalize hH2:s.heap.push {cls:=.type "list",dict:=Uh,data:=.seq ([]:bb Uj).toArray}=h2;have hz:h2.objs.size=s.heap.objs.size+1:=by rw[<-hH2,cN]
 refine wY (s:={s with heap:=h2}) ?_;have L:s.heap.objs.size<h2.objs.size:=by rw[hz];exact XW _
 have hC:s.heap.objs.size<=h2.objs.size:=Yb L;generalize hH1:pushCells (h2.push {cls:=.type "dict",data:=.dict #[]}) scope.names=h1;have kp2:∀b o,h2.get? b=lD o->h1.get? b=lD o:=λb o e=>by rw[<-hH1];exact abJ _ _ b o (br _ e)
 have kp:∀b o,s.heap.get? b=lD o->h1.get? b=lD o:=λb o e=>kp2 b o (by rw[<-hH2];exact br _ e);have hns:h1.Ns h2.objs.size (λ_=>Uh):=by rw[<-hH1];exact(Heap.Ns.new h2 (.type "dict")).keeps (abJ _ _)
 have hoc:∀x c,(yJ X scope h2.objs.size).lookup x=lD c->h2.objs.size<c->∃v,h1.IsCell c v:=λx c e Yp=>by
  have e':(Wl (h2.push {cls:=.type "dict",data:=.dict #[]}).objs.size scope.names (jz X.env scope.names [])).lookup x=lD c:=by rw[cN];exact e
  rcases uR _ _ _ x c e' with⟨_,z⟩|z
  .exact⟨Uh,by rw[<-hH1];exact z⟩
  .exact a5 (XD (wH I z).2 (XD L Yp)) (VH _)
 have hd:∃n,h1.get? s.heap.objs.size=lD {cls:=.type "list",data:=.seq #[] n}:=⟨0,kp2 _ _ (by rw[<-hH2];exact cj _ rfl)⟩;have F:∀b∈fp,b<s.heap.objs.size:=λb f=>by obtain⟨o,e,_⟩:=T.obj 0 _ st b f;exact bP e
 have hn:H s.heap.objs.size=Uh:=I.VR.fresh (Ux _);obtain⟨W,⟨m0,w0⟩,turn⟩:=hR s.heap.objs.size hn;have M:∀{pl:bb (Uq×Obj)} {H':Hp},(∀b∈fp,H' b=Uh)->(∀p∈pl,p.1∉fp)->∀b∈fp,qv (cL X s H scope h2.objs.size (fA own fv) fp) pl H' b:=λ{pl H'} hn' hpl b f=>by have ok:=CO (C:=h2.objs.size) (N:=fA own fv) I XT hnd hfr hC G F;exact⟨hn' b f,(ok.exf b f).1,ok.abP b f,.inl f,(ok.exf b f).2,λp hp=>by have hp':p∈([]:bb (Uq×Obj))++pl:=hp;intro z;exact hpl p (by simpa using hp') (by rw[z];exact f)⟩
 have j:∀s4:Ur,s4={s with heap:=h1}->
   codeAny (model X.prog X.w) X.A (.compLoop (.ListComp O [⟨tg,l,B,0⟩] scope pos) 0 (.ref it) (.ref s.heap.objs.size) (compEnvC scope (yJ X scope h2.objs.size) h2.objs.size X.env)) (RR (.ref s.heap.objs.size) h2.objs.size) s4:=by
  rintro s4 rfl
  have I0:Inv (cL X s H scope h2.objs.size (fA own fv) fp) [] (jR own fv Y) (bM H s.heap.objs.size (.lst [])) {s with heap:=h1}:=
   Gv I XT hnd hfr hfv (Ux _) L hC G F hns hoc kp hd
  have st0:U 0 h1:=T.keep 0 _ _ st λb _ o e=>kp b o e;have fr0:∀b∈fp,(bM H s.heap.objs.size (.lst [])) b=Uh:=λb f=>by rw[aI (UX (F b f))];exact(G b f).1
  refine F9 (λx s1 z=>hEE _ _ x s1 hC z) (λn s'=>∃i σ' H',Inv (cL X s H scope h2.objs.size (fA own fv) fp) [] σ' H' s'/\U i s'.heap/\(∀b∈fp,H' b=Uh)/\W i n σ' H') ?_ m0 ⟨0,_,_,I0,st0,fr0,w0⟩;rintro n s5 ⟨i,h,H5,I5,st5,fr5,w5⟩;rcases turn i n h H5 w5 with⟨stop,fin⟩|⟨go,N,hN,step⟩
  .refine cQ (T.done (cL X s H scope h2.objs.size (fA own fv) fp) rfl rfl rfl hc i [] s5 h H5 (λ_ _=>False) I5 (M fr5 (by simp)) st5 stop) λr s6 ⟨hr,R⟩=>?_;subst hr;obtain⟨mm,hm,_⟩:=R.loc;refine hRR _ _ H5 s6 ?_ fin ⟨mm,hm⟩ hC R.free;exact I.abW (ch:=fp) R.os R.base R.VR R.bare λb f=>⟨(G b f).2.2.2.1,(G b f).2.1,(G b f).2.2.2.2.1,(G b f).2.2.2.2.2⟩
  .refine cQ (T.item (cL X s H scope h2.objs.size (fA own fv) fp) rfl rfl rfl hc i [] s5 h H5 (λ_ _=>False) I5 (M fr5 (by simp)) st5 go) λr s6 ⟨u,hr,h6⟩=>?_
   subst hr;refine cQ h6 λ_ s7 ⟨x,H7,I7,r7,y7,t,fr7⟩=>?_;have I7':=I7.pinned (fp:=fp) (M fr7 (by simp)) (T.obj _ _ t);have q:∀{a:St} {P:Hp} {Q:Ur},Inv (cL X s H scope h2.objs.size (fA own fv) fp) ([]++uM fp s7.heap) a P Q->N a P->∃m,m<n/\∃i σ' H',Inv (cL X s H scope h2.objs.size (fA own fv) fp) [] σ' H' Q/\U i Q.heap/\(∀b∈fp,H' b=Uh)/\W i m σ' H':=λ{a P Q} I8 n8=>by obtain⟨m',hm,w8⟩:=hN a P n8;refine⟨m',hm,i+1,a,P,I8.ZU,T.keep _ _ _ t λb f o e=>(I8.pin (b,o) (Vw _ (Vw _ (kT f e)))).1,λb f=>?_,w8⟩;obtain⟨o,e,d⟩:=T.obj _ _ t b f;exact(I8.pin (b,o) (Vw _ (Vw _ (kT f e)))).2.1
   refine cQ (hg _ _ s7 h H7 x u _ I7' r7 (step x H7 y7)) λ_ Q ⟨a,P,I8,q8⟩=>?_;refine cQ (ht _ _ Q a P _ I8 q8) λok s9 ⟨H9,I9,q9⟩=>?_;cases ok with
   |false=>rw[ax UM]at q9⊢;exact q I9 q9
   |true=>rw[av rfl]at q9⊢;refine cQ (he _ _ s9 a H9 _ (I9.Y6 _) q9) λy s10 ⟨S,H10,akm,r10,ys,hy,hl,q10⟩=>?_;have I10:=akm.XZ;refine cQ (gO _ s10 a H10 (.ref s.heap.objs.size) [S] (.ref s.heap.objs.size) [y] (λ_ H11=>N a H11) I10 rfl (.cons r10 .nil) ⟨_,ys,S,rfl,rfl,hy,hl,q10⟩) λ_ s11 ⟨v11,H11,I11,_,q11⟩=>?_;exact q I11 q11
 exact codeAny_compStart_list (j _ rfl) (T.self _ 0 _ _ _ (T.keep 0 _ _ st λb _ o e=>kp b o e) (j _ rfl))
def uW(own:bb Str)(fv:bb (Str×Nat))(b:TI)(g:TG)(f:TT)(e:TE):TE:=λY H Q=>b Y H λJ a=>∀D,a D=Uh->G8 J D (jR own fv Y) g f e a λh=>Q (.ref D) h
theorem mM{a:Xg}(ok:X.Ok)(h:∀y∈a.names,y.2=.free->(X.env.scope.names.lookup y.1=lD .cell\/X.env.scope.names.lookup y.1=lD .free)):∀y∈a.names,y.2=.free->∃c,X.env.cells.lookup y.1=lD c:=
 λy b e=>ok.has y.1 (h y b e)
theorem G5{a b:Xg}(h:(a.names.all λy=> !(y.2==U5.free)||(b.names.lookup y.1==lD U5.cell)||(b.names.lookup y.1==lD U5.free))=Um):
  ∀y∈a.names,y.2=.free->(b.names.lookup y.1=lD .cell\/b.names.lookup y.1=lD .free):=λy f e=>by
 have q:=WC.mp h y f;rw[e]at q
 simpa using q
theorem c8{elt tg iter:Vq}{ifs:bb Vq}{scope:Xg}{pos:Pos}(own:bb Str)(fv:bb (Str×Nat)){wi:TI}{g:TG}{tc:TT}{te:TE}(hc:X.calm=Um)(hi:PI X tg iter wi)
  (hg:∀s H C fp,PG (cL X s H scope C (fA own fv) fp) tg g) (ht:∀s H C fp,FK (cL X s H scope C (fA own fv) fp) ifs tc) (he:∀s H C fp,PE (cL X s H scope C (fA own fv) fp) elt te) (hfv:abZ X scope fv)
  (adM:(scope.names.all λy=> !(y.2==U5.free)||(X.env.scope.names.lookup y.1==lD U5.cell)||(X.env.scope.names.lookup y.1==lD U5.free))=Um)
  (XT:scope.kind=.function:=by rfl) (hnd:(scope.names.map (·.1)).Nodup:=by left)
  (aaL:∀y∈scope.names,y.2=.local->scope.names.lookup y.1=lD .local:=by left) (hs:∀x,foldedSetIterable iter X.env x=pure x:=by intro _;rfl):
  PE X (.ListComp elt [⟨tg,iter,ifs,0⟩] scope pos) (uW own fv wi g tc te):=by
 intro Z s Y H Q I h;have hfr:=G5 adM;rw[akH];refine YW (use:=Uh) rfl hs (oA (mM I.ok hfr)) XT aaL (cQ (hi Z s Y H _ I h) λxv s1 h1=>cQ h1 λitv s2 h2=>?_);obtain⟨it,fp,tn,J,H2,e,I2,T,st2,f2,R⟩:=h2;subst e;refine oo I2 hc XT hnd (mM I.ok hfr) hfv T st2 f2 (λC=>hg _ _ C _) (λC=>ht _ _ C _) (W:=λ_ _ _=>False) (λC=>he _ _ C _) (λ_ _ _ _ _ z=>z.elim) (Fin:=λD H'=>Q (.ref D) H') R ?_;intro D C H' s' I' fin hm hC hn;obtain⟨m,hm⟩:=hm;refine⟨m,hm,λh' hs'=>⟨.ref D,H',?_,rfl,fin⟩⟩;obtain⟨f0,f1,_,f3,f4,f5⟩:=I2.abi hC hn;exact I'.turned (t':=s'.toks) (λb o hb q=>(hs'.2 b hb).trans q) f0 f1 f3 f4 f5
theorem mH{elt tg iter:Vq}{ifs:bb Vq}{scope:Xg}{pos ahd py:Pos}{i:Nat}{x:Str}(own:bb Str)(fv:bb (Str×Nat)){wi:TI}{g:TG}{tc:TT}{te:TE}(hN:X.N.Nodup)(hi':X.N[i]?=lD x)(hx:X.env.scope.names.lookup x=lD .local)
  (hc:X.calm=Um) (hi:PI X tg iter wi)
  (hg:∀s H C fp,PG (cL X s H scope C (fA own fv) fp) tg g) (ht:∀s H C fp,FK (cL X s H scope C (fA own fv) fp) ifs tc) (he:∀s H C fp,PE (cL X s H scope C (fA own fv) fp) elt te) (hfv:abZ X scope fv)
  (adM:(scope.names.all λy=> !(y.2==U5.free)||(X.env.scope.names.lookup y.1==lD U5.cell)||(X.env.scope.names.lookup y.1==lD U5.free))=Um)
  (hsw:V3 (.ListComp elt [⟨tg,iter,ifs,0⟩] scope pos) (lD (.Name x py)) ahd.line X.env=pure Um:=by rfl)
  (XT:scope.kind=.function:=by rfl) (hnd:(scope.names.map (·.1)).Nodup:=by left)
  (aaL:∀y∈scope.names,y.2=.local->scope.names.lookup y.1=lD .local:=by left) (hs:∀x,foldedSetIterable iter X.env x=pure x:=by intro _;rfl):
  PS X (.Assign [.Name x py] (.ListComp elt [⟨tg,iter,ifs,0⟩] scope pos) ahd) (Fv (uW own fv wi g tc te) (wB i)):=by
 intro Z s Y H D I h;have hfr:=G5 adM;rw[exec_Assign_Name_used _ _ _ _ hsw];refine Ug (WE (Ug ?_));show wpAny _ _ (do let _<-comprehension (.ListComp elt [⟨tg,iter,ifs,0⟩] scope pos) scope X.env _ (newList []) Uw (eval iter X.env) (lD (assign (.Name x py) X.env))) _ _ s;refine Ug (cQ (YW (use:=lD (assign (.Name x py) X.env)) (Q:=λ_ s'=>SP X Z D .next s') rfl hs (oA (mM I.ok hfr)) XT aaL
  (cQ (hi Z s Y H _ I h) λxv s1 h1=>cQ h1 λitv s2 h2=>?_)) λ_ s' q=>Ut (Ut q))
 obtain⟨it,fp,tn,J,H2,e,I2,T,st2,f2,R⟩:=h2;subst e;refine oo I2 hc XT hnd (mM I.ok hfr) hfv T st2 f2 (λC=>hg _ _ C _) (λC=>ht _ _ C _) (W:=λ_ _ _=>False) (λC=>he _ _ C _) (λ_ _ _ _ _ z=>z.elim) (Fin:=λL H'=>D.nx (Y.set i (lD (.ref L))) H') R ?_;intro L C H' s' I' fin hm hC hn;obtain⟨m,hm⟩:=hm;obtain⟨f0,f1,f2',f3,f4,f5⟩:=I2.abi hC hn;show wpAny _ _ (assign (.Name x py) X.env (.ref L)) _ _ s';refine afN (wm I' hN hi' (.inl hx) (v:=.ref L) rfl (λs'' I'' ⟨a,sb,ha⟩=>?_) (.inr hx));have hCa:C≠a:=by
  rcases ha with z|z
  .rw[z];exact f1
  .exact λq=>f4 x a z q.symm
 refine⟨m,hm.sameBut sb hCa,λh' hs'=>⟨_,H',?_,fin⟩⟩;exact I''.turned (t':=s''.toks) (λb o hb q=>(hs'.2 b hb).trans q) f0 f1 f3 f4 f5
end
def z8(P:US)(w:Vb)(K:Ld)(mg:Str->bg Uj)(base:Heap)(k:Nat)(x:Str)(ps:bb Str)(sp:Sp):Prop:=
 ∃(f:Uq) (a:Vz),FnOk P w K mg base d4 k f a ps sp/\Binds K a ps []/\V8 K (.ref f)=Um/\mg x=lD (.ref f)
theorem gQ(C:z8 X.prog X.w X.K X.mg X.base k x ps sp)(l:Wt j X.A)(ha:PA X (e::es) t)(g:k<=j:=by decide)(n:Gl X x:=by rfl)
  (h:(x==("__debug__":Str))=Uw:=by decide) (o:U1 (e::es) X.env=(Uw,eval e X.env)::U1 es X.env:=by rfl) (a:(backTo pos (U1 es X.env)).any (·.1)=Uw:=by rfl):
  PE X (.Call (.Name x p) (e::es) [] pos) (lj sp [] E0 t):=by
 obtain⟨f,q,F,b,i,m⟩:=C;exact DG F (l.mono g) n m i b .nil Dz ha h o a
section
variable{Z:St}{H:Hp}{Q:VK}{D:Ends}
theorem Qz(h:t {D with nx:=u D} Z H):MZ t u D Z H:=h
theorem OT(h:te Z H λx H1=>g x Z H1 D.nx):Fv te g D Z H:=h
theorem Li{Q:St->Hp->Prop}(h:Q (Z.set i (lD v)) H):wB i v Z H Q:=h
theorem S7(h:Q v H):tC v Z H Q:=h
theorem L5(h:te Z H λ_ H1=>D.nx Z H1):Dr te D Z H:=h
end
theorem Q2{α:Type}{xs:bb α}{i:Int}{v:α}(a:0<=i)(h:xs[i.toNat]?=lD v):nc xs i=lD v:=by have q:=EL h;rwa [ZL a]at q
theorem We.tup{K:Ld}(e:We H H')(h:YA K H a xs):YA K H' a xs:=by
 rcases h with(h|⟨o,h⟩)|h
 .exact .inl (.inl (e _ _ h))
 .exact .inl (.inr ⟨o,e _ _ h⟩)
 .exact .inr h
theorem cD(h:H p=Uh)(o:HO):We H (bM H p o):=λb u q=>by rw[aI (b9 q h)];exact q
theorem Aw:VD "max"=lD (.builtin "max"):=by left
theorem k6:VD "isinstance"=lD (.builtin "isinstance"):=by left
theorem ju:VD "len"=lD (.builtin "len"):=by left
theorem Ap:VD "sorted"=lD (.builtin "sorted"):=by left
theorem CN:VD "all"=lD (.builtin "all"):=by left
theorem Oi:VD "int"=lD (.type "int"):=by left
theorem P6:VD "bool"=lD (.type "bool"):=by left
theorem HN:VD "list"=lD (.type "list"):=by left
theorem fK:VD "tuple"=lD (.type "tuple"):=by left
section
variable{X:Cx}
theorem Ae:Xd X (.builtin "sorted") (λxs H Q=>∃(p:Uq) (ns:bb Int),xs=[.ref p]/\YL X.K H p (ns.map V.int)/\ns.length<64/\∀(l:Uq) (a:bb Int),H l=Uh->a.Perm ns->a.Pairwise (·<=·)->Q (.ref l) (bM H l (.lst (a.map V.int)))):=by
 intro i s C H xs E Q I r h;obtain⟨p,ns,rfl,t,y,q⟩:=h;obtain⟨u,rfl,m⟩:=k8 r;cases m;obtain⟨B,rv,pl,G⟩:=I.list t;have v:=rv.length;rw[Ui]at v;refine sorted_ints pl.isList (ku rv) (by ext) λf a hi j n=>?_;obtain⟨e,w⟩:=sortedAll_at s.heap B f;have g:a.length=ns.length:=j.length_eq;have A:f.toList.length=a.length:=hi.length;refine⟨.ref (s.heap.objs.size+1),_,I.laid (t':=s.toks) (o:=.lst (a.map V.int)) (λb F z=>sortedAll_old z) (aaS _) ?_,rfl,q _ a (I.VR.fresh (aaS _)) j n⟩;refine⟨?_,f.toList,e,jX hi,w⟩;rw[Ui,g];have:(64:Nat)<=UB:=by decide
 ext
end
end L2
namespace L3
open PySem L2
abbrev D:=Up
inductive PV where
 |fz (d:D)
 |ow (ds:bb D)
 |pl (i:Nat)
abbrev bw:=bb (bg PV)
structure Xc where
 cls:Str
 fs:bb (Str×D)
inductive Res(α:Type) where
 |ok (a:α)
 |er (x:Xc)
 |bad
namespace Res
def bind(r:Res α)(f:α->Res β):Res β:=match r with
 |.ok a=>f a
 |.er x=>.er x
 |.bad=>.bad
def Vm:bg α->Res α
 |some a=>.ok a
 |none=>.bad
theorem bind_ok(a:α)(f:α->Res β):(Res.ok a).bind f=f a:=rfl
end Res
abbrev eg:=@Res.bind_ok
abbrev cz:=Uq->Prop
def dz(O:cz)(p:Uq):cz:=λb=>O b\/b=p
def GW(O:cz)(p:Uq):cz:=λb=>O b/\b≠p
def noO:cz:=λ_=>False
def Ev(O:cz)(H:Hp)(a:cz)(H':Hp):Prop:=∀b o,H b=lD o->¬O b->H' b=lD o/\¬a b
theorem Ev.refl:Ev O H O H:=λ_ _ h n=>⟨h,n⟩
theorem Ev.trans(a:Ev O H O1 H1)(b:Ev O1 H1 O2 H2):Ev O H O2 H2:=λp o h n=>let⟨h1,n1⟩:=a p o h n;b p o h1 n1
theorem Ev.grow(s:We H H'):Ev O H O H':=λb o h n=>⟨s b o h,n⟩
theorem Ev.add(s:We H H')(a:H p=Uh):Ev O H (dz O p) H':=λb o h n=>⟨s b o h,λz=>z.elim n λe=>by subst e;rw[h]at a;cases a⟩
theorem Ev.sub(h:∀b,O' b->O b):Ev O H O' H:=λb o e n=>⟨e,λz=>n (h b z)⟩
theorem Ev.mut(a:O p)(u:HO):Ev O H O (bM H p u):=λb o h n=>⟨by rw[aI (λe=>n (by rw[e];exact a))];exact h,n⟩
def X9(K:Ld)(H:Hp)(a:Uq)(xs:bb V):Prop:=Rd H a (.lst xs)\/∃(b:bb Uj) (n:Nat),K.lookup a=lD {cls:=.type "list",data:=.seq b.toArray n}/\xs.length<=UB/\Vals xs b
theorem X9.sq(h:X9 K H a xs):YL K H a xs:=by
 rcases h with h|⟨Vh,n,h1,h2,h3⟩
 .exact .inl h
 .exact .inr ⟨_,Vh.toArray,n,h1,rfl,rfl,rfl,by rw[UG,<-h3.length];exact h2,by simpa using h3⟩
theorem X9.of(h:H a=lD (.lst xs)):X9 K H a xs:=.inl (.inl h)
theorem X9.same(e:We H H')(h:X9 K H a xs):X9 K H' a xs:=by
 rcases h with(h|⟨o,h⟩)|h
 .exact .inl (.inl (e _ _ h))
 .exact .inl (.inr ⟨o,e _ _ h⟩)
 .exact .inr h
theorem mI(H:Hp):We (λ_=>Uh) H:=λ_ _ h=>by cases h
def aay(O:cz)(K:Ld)(H:Hp)(a:Uq)(xs:bb V):Prop:=X9 K H a xs/\(O a->X9 K (λ_=>Uh) a xs)
def Y5(O:cz)(K:Ld)(H:Hp)(a:Uq)(xs:bb V):Prop:=YA K H a xs/\(O a->YA K (λ_=>Uh) a xs)
section
variable{O Z:cz}{K:Ld}{H H':Hp}{a:Uq}{xs:bb V}
theorem aay.ev(h:aay O K H a xs)(e:Ev O H Z H'):aay Z K H' a xs:=by
 obtain⟨h,k⟩:=h;by_cases z:O a
 .exact⟨X9.same (mI H') (k z),λ_=>k z⟩
 .rcases h with(h|⟨o,h⟩)|h
  .obtain⟨f,b⟩:=e a _ h z;exact⟨.inl (.inl f),λy=>a5 y b⟩
  .obtain⟨f,b⟩:=e a _ h z;exact⟨.inl (.inr ⟨o,f⟩),λy=>a5 y b⟩
  .exact⟨.inr h,λ_=>.inr h⟩
theorem Y5.ev(h:Y5 O K H a xs)(e:Ev O H Z H'):Y5 Z K H' a xs:=by
 obtain⟨h,k⟩:=h;by_cases z:O a
 .exact⟨(mI H').tup (k z),λ_=>k z⟩
 .rcases h with(h|⟨o,h⟩)|h
  .obtain⟨f,b⟩:=e a _ h z;exact⟨.inl (.inl f),λy=>a5 y b⟩
  .obtain⟨f,b⟩:=e a _ h z;exact⟨.inl (.inr ⟨o,f⟩),λy=>a5 y b⟩
  .exact⟨.inr h,λ_=>.inr h⟩
end
mutual
inductive DV(O:cz)(K:Ld)(H:Hp):V->D->Prop
 |WA:DV O K H .WA .none
 |bl (b:Bool):DV O K H (.bl b) (.bool b)
 |int (i:Int):DV O K H (.int i) (.int i)
 |str (x:Str):DV O K H (.str x) (.str x)
 |tup {a:Uq} {xs:bb V} {ds:bb D}:Y5 O K H a xs->V9 O K H xs ds->DV O K H (.ref a) (.tuple ds)
 |lst {a:Uq} {xs:bb V} {ds:bb D}:aay O K H a xs->V9 O K H xs ds->DV O K H (.ref a) (.list ds)
inductive V9(O:cz)(K:Ld)(H:Hp):bb V->bb D->Prop
 |nil:V9 O K H [] []
 |cons {v:V} {vs:bb V} {d:D} {ds:bb D}:DV O K H v d->V9 O K H vs ds->V9 O K H (v::vs) (d::ds)
end
section
variable{O Z:cz}{K:Ld}{H H':Hp}
mutual
theorem DV.ev(e:Ev O H Z H'):∀{v:V} {d:D},DV O K H v d->DV Z K H' v d
 |_,_,.WA=>.WA
 |_,_,.bl b=>.bl b
 |_,_,.int i=>.int i
 |_,_,.str x=>.str x
 |_,_,.tup h hs=>.tup (h.ev e) (V9.ev e hs)
 |_,_,.lst h hs=>.lst (h.ev e) (V9.ev e hs)
theorem V9.ev(e:Ev O H Z H'):∀{vs:bb V} {ds:bb D},V9 O K H vs ds->V9 Z K H' vs ds
 |_,_,.nil=>.nil
 |_,_,.cons h hs=>.cons (DV.ev e h) (V9.ev e hs)
end
theorem V9.length:∀{vs:bb V} {ds:bb D},V9 O K H vs ds->vs.length=ds.length
 |_,_,.nil=>rfl
 |_,_,.cons _ t=>by rw[UD,UD,t.length]
theorem V9.get:∀{vs:bb V} {ds:bb D} {i:Nat} {d:D},V9 O K H vs ds->ds[i]?=lD d->∃v,vs[i]?=lD v/\DV O K H v d
 |_,_,_,_,.nil,e=>by simp at e
 |_,_,0,_,.cons h _,e=>by simp at e;subst e;exact⟨_,rfl,h⟩
 |_,_,i+1,d,.cons _ t,e=>by obtain⟨v,b,a⟩:=V9.get t (by simpa using e);exact⟨v,by simpa using b,a⟩
theorem V9.afL:∀{vs:bb V} {ds:bb D} {i:Nat} {v:V},V9 O K H vs ds->vs[i]?=lD v->∃d,ds[i]?=lD d/\DV O K H v d
 |_,_,_,_,.nil,e=>by simp at e
 |_,_,0,_,.cons h _,e=>by simp at e;subst e;exact⟨_,rfl,h⟩
 |_,_,i+1,v,.cons _ t,e=>by obtain⟨d,b,a⟩:=V9.afL t (by simpa using e);exact⟨d,by simpa using b,a⟩
theorem V9.append:∀{vs ws:bb V} {ds es:bb D},V9 O K H vs ds->V9 O K H ws es->V9 O K H (vs++ws) (ds++es)
 |_,_,_,_,.nil,h=>h
 |_,_,_,_,.cons h t,g=>.cons h (V9.append t g)
theorem V9.take:∀{vs:bb V} {ds:bb D} (n:Nat),V9 O K H vs ds->V9 O K H (vs.take n) (ds.take n)
 |_,_,0,_=>.nil
 |_,_,_+1,.nil=>.nil
 |_,_,n+1,.cons h t=>.cons h (V9.take n t)
theorem V9.drop:∀{vs:bb V} {ds:bb D} (n:Nat),V9 O K H vs ds->V9 O K H (vs.drop n) (ds.drop n)
 |_,_,0,h=>h
 |_,_,_+1,.nil=>.nil
 |_,_,n+1,.cons _ t=>V9.drop n t
theorem V9.flat(h:V9 O K H vs ds):∀n:Nat,V9 O K H (Uz n vs).flatten (Uz n ds).flatten
 |0=>.nil
 |n+1=>by rw[Vy,Vy,Wr,Wr];exact h.append (V9.flat h n)
mutual
theorem DV.plain:∀{v:V} {d:D},DV O K H v d->L2.DV K H v d
 |_,_,.WA=>.WA
 |_,_,.bl b=>.bl b
 |_,_,.int i=>.int i
 |_,_,.str x=>.str x
 |_,_,.tup h hs=>.tup h.1 (V9.plain hs)
 |_,_,.lst h hs=>.lst h.1.sq (V9.plain hs)
theorem V9.plain:∀{vs:bb V} {ds:bb D},V9 O K H vs ds->L2.V9 K H vs ds
 |_,_,.nil=>.nil
 |_,_,.cons h hs=>.cons (DV.plain h) (V9.plain hs)
end
end
def DX(O:cz)(K:Ld)(H:Hp)(v:V):D->Prop
 |.list ds=>∃a xs,v=.ref a/\X9 K H a xs/\V9 O K H xs ds
 |d=>DV O K H v d
theorem DV.x(h:DV O K H v d):DX O K H v d:=by
 cases h with
 |lst h a=>exact⟨_,_,rfl,h.1,a⟩
 |WA=>exact .WA
 |bl b=>exact .bl b
 |int i=>exact .int i
 |str x=>exact .str x
 |tup h a=>exact .tup h a
theorem DX.plain(h:DX O K H v d):L2.DV K H v d:=by
 cases d with
 |list ds=>obtain⟨a,xs,rfl,f,e⟩:=h;exact .lst f.sq e.plain
 |none=>exact DV.plain h
 |bool b=>exact DV.plain h
 |int i=>exact DV.plain h
 |str x=>exact DV.plain h
 |tuple ds=>exact DV.plain h
 |dict UY=>exact DV.plain h
def abg(K:Ld)(b:Hp)(O:cz)(H:Hp)(v:V):PV->Prop
 |.fz d=>DV O K H v d
 |.ow ds=>∃a vs,v=.ref a/\O a/\b a=Uh/\H a=lD (.lst vs)/\V9 O K H vs ds
 |.pl _=>False
structure Rl(K:Ld)(B:cz)(H0:Hp)(O:cz)(σ:St)(H:Hp)(ρ:bw):Prop where
 same:We H0 H
 bo:∀a,B a->O a
 bd:∀a,B a->H0 a≠Uh
 od:∀a,H a=Uh->¬O a
 len:σ.length=ρ.length
 slot:∀(i:Nat) (x:PV),ρ[i]?=lD (lD x)->∃v,σ[i]?=lD (lD v)/\abg K H0 O H v x
 one:∀(i j:Nat) (ds es:bb D) (v:V),ρ[i]?=lD (lD (.ow ds))->ρ[j]?=lD (lD (.ow es))->σ[i]?=lD (lD v)->σ[j]?=lD (lD v)->i=j
def Y1(K:Ld)(f:Hp)(O:cz)(b:St)(H:Hp)(ρ:bw)(v:V):PV->Prop
 |.fz d=>DV O K H v d
 |.ow ds=>∃a vs,v=.ref a/\O a/\f a=Uh/\H a=lD (.lst vs)/\V9 O K H vs ds/\∀(i:Nat) (e:bb D),ρ[i]?=lD (lD (.ow e))->b[i]?≠lD (lD (.ref a))
 |.pl i=>b[i]?=lD (lD v)
def mP:PV->Prop
 |.ow _=>False
 |_=>True
def ei:PV->PV
 |.ow ds=>.fz (.list ds)
 |p=>p
section
variable{K:Ld}{B O X:cz}{Z H H':Hp}{Y:St}{ρ ρ':bw}{v:V}
theorem abg.grow(s:We H H')(h:abg K Z O H v x):abg K Z O H' v x:=by
 cases x with
 |fz d=>exact DV.ev (Ev.grow s) h
 |ow ds=>obtain⟨a,vs,e,j,g,f,b⟩:=h;exact⟨a,vs,e,j,g,s _ _ f,b.ev (Ev.grow s)⟩
 |pl i=>exact h
theorem Rl.grow(R:Rl K B Z O Y H ρ)(s:We H H'):Rl K B Z O Y H' ρ:=
 ⟨R.same.trans s,R.bo,R.bd,λa h=>R.od a (s.free h),R.len,λi x h=>let⟨v,h1,h2⟩:=R.slot i x h;⟨v,h1,h2.grow s⟩,R.one⟩
theorem Rl.aeU(R:Rl K B Z O Y H ρ)(h:H p=Uh):Z p=Uh:=R.same.free h
theorem Rl.add(R:Rl K B Z O Y H ρ)(s:We H H')(f:H p=Uh)(g:H' p≠Uh):Rl K B Z (dz O p) Y H' ρ:=by
 refine⟨R.same.trans s,λa h=>.inl (R.bo a h),R.bd,λa h z=>z.elim (R.od a (s.free h)) λe=>g (by rw[<-e];exact h),R.len,λi x h=>?_,R.one⟩;obtain⟨v,j,b⟩:=R.slot i x h;refine⟨v,j,?_⟩;cases x with
 |fz d=>exact DV.ev (Ev.add s f) b
 |ow ds=>obtain⟨a,vs,e,o,n,m,l⟩:=b;exact⟨a,vs,e,.inl o,n,s _ _ m,l.ev (Ev.add s f)⟩
 |pl i=>exact b
theorem Rl.aex(R:Rl K B Z O Y H ρ)(h:Z a=Uh):¬B a:=λz=>R.bd a z h
theorem Rl.sub(R:Rl K B Z O Y H ρ){a:Uq}(m:Z a=Uh)(h:∀(i:Nat) (es:bb D),ρ[i]?=lD (lD (.ow es))->Y[i]?≠lD (lD (.ref a))):Rl K B Z (GW O a) Y H ρ:=by
 refine⟨R.same,λb f=>⟨R.bo b f,λe=>R.aex m (e▸f)⟩,R.bd,λb f z=>R.od b f z.1,R.len,λi x j=>?_,R.one⟩;obtain⟨v,l,g⟩:=R.slot i x j;refine⟨v,l,?_⟩;cases x with
 |fz d=>exact DV.ev (Ev.sub λb z=>z.1) g
 |ow ds=>obtain⟨b,vs,e,q,p,o,n⟩:=g;subst e;exact⟨b,vs,rfl,⟨q,λe=>h i ds j (by rw[l,e])⟩,p,o,n.ev (Ev.sub λb z=>z.1)⟩
 |pl i=>exact g
theorem x9(h:H a=lD (.lst vs))(n:¬O a)(hd:V9 O K H vs ds):DV O K H (.ref a) (.list ds):=.lst ⟨X9.of h,λz=>a5 z n⟩ hd
theorem j9{pv:PV}(R:Rl K B Z O Y H ρ)(h:Y1 K Z O Y H ρ v pv):∃X,Ev O H X H/\Rl K B Z X Y H ρ/\Y1 K Z X Y H ρ v (ei pv):=by
 cases pv with
 |fz d=>exact⟨O,.refl,R,h⟩
 |pl i=>exact⟨O,.refl,R,h⟩
 |ow ds=>obtain⟨a,vs,rfl,l,j,g,f,e⟩:=h;exact⟨GW O a,Ev.sub λb z=>z.1,R.sub j e,x9 g (λz=>z.2 rfl) (f.ev (Ev.sub λb z=>z.1))⟩
theorem sG(pv:PV):mP (ei pv):=by cases pv<;>trivial
theorem Y1.keep{pv:PV}(a:mP pv)(e:Ev O H X H')(h:Y1 K Z O Y H ρ v pv):Y1 K Z X Y H' ρ' v pv:=by
 cases pv with
 |fz d=>exact DV.ev e h
 |pl i=>exact h
 |ow ds=>exact a.elim
def TR:bg (bg PV)->bg D
 |some (lD (.fz d))=>lD d
 |some (lD (.ow ds))=>lD (.list ds)
 |_=>Uh
def xl(ρ:bw):PV->bg D
 |.fz d=>lD d
 |.ow ds=>lD (.list ds)
 |.pl i=>TR ρ[i]?
theorem nQ{pv:PV}(R:Rl K B Z O Y H ρ)(h:Y1 K Z O Y H ρ v pv)(e:xl ρ pv=lD d):DX O K H v d:=by
 cases pv with
 |fz t=>cases e;exact DV.x h
 |ow ds=>cases e;obtain⟨a,vs,rfl,C,A,p,n,z⟩:=h;exact⟨a,vs,rfl,X9.of p,n⟩
 |pl i=>
  have b:TR ρ[i]?=lD d:=e;have r:=h;cases q:ρ[i]? with
  |none=>rw[q]at b;cases b
  |some o=>
   cases o with
   |none=>rw[q]at b;cases b
   |some x=>
    obtain⟨u,g,f⟩:=R.slot i x q;rw[r]at g;cases g;rw[q]at b;cases x with
    |fz t=>cases b;exact DV.x f
    |ow ds=>cases b;obtain⟨a,vs,rfl,y,w,m,l⟩:=f;exact⟨a,vs,rfl,X9.of m,l⟩
    |pl j=>exact f.elim
def Tj(ρ:bw)(i:Nat):bg (bg PV)->bg (D×bw)
 |some (lD (.fz d))=>lD (d,ρ)
 |some (lD (.ow ds))=>lD (.list ds,ρ.set i (lD (.fz (.list ds))))
 |_=>Uh
def zu(ρ:bw):PV->bg (D×bw)
 |.fz d=>lD (d,ρ)
 |.ow ds=>lD (.list ds,ρ)
 |.pl i=>Tj ρ i ρ[i]?
theorem cG{l:bb α}(h:(l.set i x)[j]?=lD y):(j=i/\y=x)\/(j≠i/\l[j]?=lD y):=by
 rw[VI]at h;by_cases e:i=j
 .rw[av e]at h
  split at h
  .cases h;exact .inl ⟨e.symm,rfl⟩
  .cases h
 .rw[ax e]at h;exact .inr ⟨λz=>e z.symm,h⟩
theorem vY{pv:PV}(R:Rl K B Z O Y H ρ)(h:Y1 K Z O Y H ρ v pv)(e:zu ρ pv=lD (d,ρ')):∃X,Ev O H X H/\Rl K B Z X Y H ρ'/\DV X K H v d:=by
 cases pv with
 |fz d'=>cases e;exact⟨O,.refl,R,h⟩
 |ow ds=>cases e;obtain⟨a,vs,rfl,h1,h2,h3,U,T⟩:=h;exact⟨GW O a,Ev.sub λb z=>z.1,R.sub h2 T,x9 h3 (λz=>z.2 rfl) (U.ev (Ev.sub λb z=>z.1))⟩
 |pl i=>
  have f:Tj ρ i ρ[i]?=lD (d,ρ'):=e;have y:=h;cases q:ρ[i]? with
  |none=>rw[q]at f;cases f
  |some o=>
   cases o with
   |none=>rw[q]at f;cases f
   |some x=>
    obtain⟨u,E,A⟩:=R.slot i x q;rw[y]at E;cases E;rw[q]at f;cases x with
    |fz d'=>cases f;exact⟨O,.refl,R,A⟩
    |pl j=>exact A.elim
    |ow ds=>
     cases f;obtain⟨a,vs,rfl,k1,S,Q,P⟩:=A;have n:Ev O H (GW O a) H:=Ev.sub λb z=>z.1;have F:=x9 Q (λz=>z.2 rfl) (P.ev n);refine⟨GW O a,n,⟨R.same,λb m=>⟨R.bo b m,λe=>R.aex S (e▸m)⟩,R.bd,λb m z=>R.od b m z.1,by rw[VG];exact R.len,λj x l=>?_,λj k xs G w t r=>?_⟩,F⟩
     .rcases cG l with⟨rfl,g⟩|⟨ZV,l⟩
      .cases g;exact⟨_,y,F⟩
      .obtain⟨u,C,p⟩:=R.slot j x l
       refine⟨u,C,?_⟩;cases x with
       |fz d=>exact DV.ev n p
       |pl i=>exact p
       |ow xs=>obtain⟨b,I,rfl,N,M,L,J⟩:=p;exact⟨b,I,rfl,⟨N,λz=>ZV (R.one j i xs ds (.ref a) l q (by rw[C,z]) y)⟩,M,L,J.ev n⟩
     .rcases cG t with⟨rfl,g⟩|⟨_,t⟩
      .cases g
      .rcases cG r with⟨rfl,g⟩|⟨_,r⟩
       .cases g
       .exact R.one j k xs G w t r
end
def XOk(K:Ld)(B:cz)(H:Hp)(c:Uj)(dx:bg Uq)(x:Xc):Prop:=
 (∃a,c=.ref a/\UP K UK x.cls=lD (lD (.ref a)))/\∃fs,(∀p,dx=lD p->H p=lD (.xd fs))/\∀f d,x.fs.lookup f=lD d->dx≠Uh/\∃v,fs.lookup f=lD v/\DV B K H v d
def XE(K:Ld)(B:cz)(a:Hp)(E:XK)(x:Xc):Prop:=∀c dx H',We a H'->XOk K B H' c dx x->E c dx H'
def WR(K:Ld)(E:XK)(B:cz)(b:Hp)(P:α->Prop):Res α->Prop
 |.ok a=>P a
 |.er x=>XE K B b E x
 |.bad=>False
section
variable{K:Ld}{E:XK}{B:cz}{Z:Hp}
theorem WR.bind(h:WR K E B Z P (r.bind k)):WR K E B Z (λa=>WR K E B Z P (k a)) r:=by cases r<;>exact h
theorem WR.Vm(h:WR K E B Z P ((Res.Vm o).bind k)):∃a,o=lD a/\WR K E B Z P (k a):=by
 cases o with
 |none=>exact h.elim
 |some a=>exact⟨a,rfl,h⟩
theorem WR.imp(h:WR K E B Z P r)(g:∀a,P a->P' a):WR K E B Z P' r:=by
 cases r with
 |ok a=>exact g a h
 |er x=>exact h
 |bad=>exact h
end
abbrev FE:=bw->Res (PV×bw)
abbrev FT:=bw->Res (Bool×bw)
abbrev FA:=bw->Res (bb PV×bw)
def EO(K:Ld)(E:XK)(t:TE)(f:FE):Prop:=
 ∀(B:cz) (b:Hp) (O:cz) (a:St) (H:Hp) (ρ:bw) (Q:VK),Rl K B b O a H ρ->WR K E B b (λr=>∀O' v H',Ev O H O' H'->Rl K B b O' a H' r.2->Y1 K b O' a H' r.2 v r.1->Q v H') (f ρ)->t a H Q
def TTO(K:Ld)(E:XK)(t:TT)(f:FT):Prop:=
 ∀(B:cz) (b:Hp) (O:cz) (a:St) (H:Hp) (ρ:bw) (Q:Bool->Hp->Prop),Rl K B b O a H ρ->WR K E B b (λr=>∀O' H',Ev O H O' H'->Rl K B b O' a H' r.2->Q r.1 H') (f ρ)->t a H Q
def AO(K:Ld)(E:XK)(t:TA)(f:FA):Prop:=
 ∀(B:cz) (b:Hp) (O:cz) (a:St) (H:Hp) (ρ:bw) (Q:bb V->Hp->Prop),Rl K B b O a H ρ->WR K E B b (λr=>∀O' vs H',Ev O H O' H'->Rl K B b O' a H' r.2->Paired (λv pv=>Y1 K b O' a H' r.2 v pv/\mP pv) vs r.1->Q vs H') (f ρ)->t a H Q
inductive RV where
 |fz (d:D)
 |ow (ds:bb D)
def RV.pv:RV->PV
 |.fz d=>.fz d
 |.ow ds=>.ow ds
def Fin(O:cz)(K:Ld)(H:Hp)(Q:VK):RV->Prop
 |.fz d=>∀v H',We H H'->DV O K H' v d->Q v H'
 |.ow ds=>∀p vs H',We H H'->H p=Uh->H' p=lD (.lst vs)->V9 (dz O p) K H' vs ds->Q (.ref p) H'
def oU(O:cz)(H:Hp):Prop:=∀a,H a=Uh->¬O a
section
variable{K:Ld}{E:XK}{B O X:cz}{Y H H':Hp}{Z:St}{ρ ρ':bw}{v:V}
theorem on(R:Rl K B Y O Z H ρ)(h:∀X v H',Ev O H X H'->Rl K B Y X Z H' ρ->Y1 K Y X Z H' ρ v rv.pv->Q v H'):Fin O K H Q rv:=by
 cases rv with
 |fz d=>exact λv H' s f=>h O v H' (Ev.grow s) (R.grow s) f
 |ow ds=>intro p vs H' s b e f;refine h (dz O p) (.ref p) H' (Ev.add s b) (R.add s b (by rw[e];simp)) ⟨p,vs,rfl,.inr rfl,R.aeU b,e,f,λi r hi z=>?_⟩;obtain⟨u,g,a,m,l,q,o,j,n⟩:=R.slot i _ hi;rw[z]at g;cases g;cases l;rw[b]at j;cases j
theorem Fin.new(hd:V9 O K H vs ds)(h:Fin O K H Q (.ow ds)):∀p,H p=Uh->Q (.ref p) (bM H p (.lst vs)):=λp a=>
 h p vs _ (cD a _) a aV (hd.ev (Ev.add (cD a _) a))
theorem Fin.adA(hd:V9 O K H vs ds)(b:oU O H)(h:Fin O K H Q (.fz (.tuple ds))):∀p,H p=Uh->Q (.ref p) (bM H p (.tup vs)):=λp a=>
 h (.ref p) _ (cD a _) (.tup ⟨YA.of aV,λz=>a5 z (b p a)⟩ (hd.ev (Ev.grow (cD a _))))
theorem Fin.at(h:Fin O K H Q (.fz d))(a:DV O K H v d):Q v H:=h v H (We.refl H) a
def Eu(ρ:bw)(i:Nat):bg (bg PV)->Res (PV×bw)
 |some (lD (.fz d))=>.ok (.fz d,ρ)
 |some (lD (.ow _))=>.ok (.pl i,ρ)
 |_=>.bad
def aa(i:Nat):FE:=λρ=>Eu ρ i ρ[i]?
theorem ar:EO K E (zO i) (aa i):=by
 intro B Y O Z H ρ Q R w;unfold aa at w;cases q:ρ[i]? with
 |none=>rw[q]at w;exact w.elim
 |some o=>
  cases o with
  |none=>rw[q]at w;exact w.elim
  |some x=>
   rw[q]at w;obtain⟨v,a,b⟩:=R.slot i x q;cases x with
   |fz d=>exact⟨v,a,w O v H .refl R b⟩
   |ow ds=>exact⟨v,a,w O v H .refl R a⟩
   |pl j=>exact w.elim
def pC(d:D):FE:=λρ=>.ok (.fz d,ρ)
theorem Cv(h:∀O H,DV O K H v d):EO K E (tC v) (pC d):=λB Y O Z H ρ Q R w=>w O v H .refl R (h O H)
theorem bv:EO K E (tC (.int i)) (pC (.int i)):=Cv λ_ _=>.int i
theorem N8:EO K E (tC (.bl b)) (pC (.bool b)):=Cv λ_ _=>.bl b
theorem qV:EO K E (tC (.str x)) (pC (.str x)):=Cv λ_ _=>.str x
theorem tE:EO K E (tC .WA) (pC .none):=Cv λ_ _=>.WA
def qD(K:Ld)(r:R2)(f:D->D->bg RV):Prop:=∀(O:cz) (H:Hp) (x y:V) (dx a:D) (rv:RV) (Q:VK),oU O H->DX O K H x dx->DX O K H y a->f dx a=lD rv->Fin O K H Q rv->r x y H Q
def aR(f:D->D->bg RV)(fa fb:FE):FE:=λρ=>(fa ρ).bind λa=>(fb a.2).bind λb=>(Res.Vm (xl b.2 (ei a.1))).bind λdx=>(Res.Vm (xl b.2 b.1)).bind λe=>(Res.Vm (f dx e)).bind λrv=>.ok (rv.pv,b.2)
theorem ck(u:qD K r f)(ha:EO K E ta fa)(z:EO K E tb fb):EO K E (Qv r ta tb) (aR f fa fb):=by intro B Y O Z H ρ Q R w;refine ha B Y O Z H ρ _ R (w.bind.imp λa j U x T F J t=>?_);obtain⟨N,C,R2,q⟩:=j9 J t;refine z B Y N Z T a.2 _ R2 (j.bind.imp λb e M y S i g p=>?_);have h:=q.keep (sG a.1) i (ρ':=b.2);obtain⟨dx,m,e⟩:=e.Vm;obtain⟨G,l,e⟩:=e.Vm;obtain⟨rv,n,e⟩:=e.Vm;refine u M S x y dx G rv Q g.od (nQ g h m) (nQ g p l) n (on g λL v P A I o=>?_);exact e L v P (F.trans (C.trans (i.trans A))) I o
def TK(K:Ld)(r:V->Hp->VK->Prop)(f:D->bg RV):Prop:=∀(O:cz) (H:Hp) (x:V) (dx:D) (rv:RV) (Q:VK),oU O H->DX O K H x dx->f dx=lD rv->Fin O K H Q rv->r x H Q
def DM(f:D->bg RV)(fa:FE):FE:=λρ=>(fa ρ).bind λa=>(Res.Vm (xl a.2 a.1)).bind λdx=>(Res.Vm (f dx)).bind λrv=>.ok (rv.pv,a.2)
theorem D9(l:TK K r f)(ha:EO K E ta fa):EO K E (TF r ta) (DM f fa):=by intro B Y O Z H ρ Q R w;refine ha B Y O Z H ρ _ R (w.bind.imp λa b q x u n e j=>?_);obtain⟨dx,g,b⟩:=b.Vm;obtain⟨rv,h,b⟩:=b.Vm;exact l q u x dx rv Q e.od (nQ e j g) h (on e λp v t m o i=>b p v t (n.trans m) o i)
def Tc:D->bg Bool
 |.bool b=>lD b
 |_=>Uh
theorem Qy(h:DX O K H x d)(e:Tc d=lD b):x=.bl b:=by cases d<;>cases e;cases h;rfl
def aY(fa:FE):bw->Res (Bool×bw):=λρ=>(fa ρ).bind λa=>(Res.Vm (xl a.2 a.1)).bind λd=>(Res.Vm (Tc d)).bind λb=>.ok (b,a.2)
theorem jW(ha:EO K E ta fa):TTO K E (Hc ta) (aY fa):=by intro B Y O Z H ρ Q R w;refine ha B Y O Z H ρ _ R (w.bind.imp λa e l x m j f i=>?_);obtain⟨d,g,e⟩:=e.Vm;obtain⟨b,h,e⟩:=e.Vm;exact⟨b,Qy (nQ f i g) h,e l m j f⟩
theorem OB(ha:EO K E ta fa):TTO K E (tB ta) (aY fa):=jW ha
def Bw(fa fb:FT):FT:=λρ=>(fa ρ).bind λa=>if a.1=Um then fb a.2 else .ok (Uw,a.2)
def JX(fa fb:FT):FT:=λρ=>(fa ρ).bind λa=>if a.1=Um then .ok (Um,a.2)else fb a.2
def Fz(fa:FT):FT:=λρ=>(fa ρ).bind λa=>.ok (!a.1,a.2)
theorem TTO.next(h:TTO K E t f)(R:Rl K B Y O1 Z H1 ρ)(a:Ev O H O1 H1)(w:WR K E B Y (λr=>∀X H',Ev O H X H'->Rl K B Y X Z H' r.2->Q r.1 H') (f ρ)):t Z H1 Q:=
 h B Y O1 Z H1 ρ Q R (w.imp λr q X H' b e=>q X H' (a.trans b) e)
theorem EO.next(h:EO K E t f)(R:Rl K B Y O1 Z H1 ρ)(b:Ev O H O1 H1)(w:WR K E B Y (λr=>∀X v H',Ev O H X H'->Rl K B Y X Z H' r.2->Y1 K Y X Z H' r.2 v r.1->Q v H') (f ρ)):t Z H1 Q:=
 h B Y O1 Z H1 ρ Q R (w.imp λr q X v H' e g a=>q X v H' (b.trans e) g a)
theorem LF(m:TTO K E t f)(l:TTO K E u g):TTO K E (QM t u) (Bw f g):=by
 intro B Y O Z H ρ Q R w;refine m B Y O Z H ρ _ R (w.bind.imp λa e n o h i=>?_);obtain⟨b,j⟩:=a;cases b with
 |true=>exact l.next i h e
 |false=>exact e n o h i
theorem Qx(m:TTO K E t f)(l:TTO K E u g):TTO K E (To t u) (JX f g):=by
 intro B Y O Z H ρ Q R w;refine m B Y O Z H ρ _ R (w.bind.imp λa e n o h i=>?_);obtain⟨b,j⟩:=a;cases b with
 |true=>exact e n o h i
 |false=>exact l.next i h e
theorem Nu(e:TTO K E t f):TTO K E (P0 t) (Fz f):=by intro B Y O Z H ρ Q R w;exact e B Y O Z H ρ _ R (w.bind.imp λa b i j g h=>b i j g h)
def dc:FT:=λρ=>.ok (Um,ρ)
theorem dX:TTO K E JW dc:=λB Y O Z H ρ Q R w=>w O H .refl R
def Bl(fa fb:FE):FE:=λρ=>(aY fa ρ).bind λa=>if a.1=Um then fb a.2 else .ok (.fz (.bool Uw),a.2)
def MH(fa:FE):FE:=λρ=>(aY fa ρ).bind λa=>.ok (.fz (.bool (!a.1)),a.2)
theorem A2(ha:EO K E ta fa)(j:EO K E tb fb):EO K E (Kr ta tb) (Bl fa fb):=by
 intro B Y O Z H ρ Q R w;refine jW ha B Y O Z H ρ (λc e=>if c=Um then tb Z e Q else Q (.bl Uw) e) R (w.bind.imp λa f l e g h=>?_);obtain⟨b,i⟩:=a;cases b with
 |true=>exact j.next h g f
 |false=>exact f l _ e g h (.bl Uw)
theorem II(ha:EO K E ta fa):EO K E (Og ta) (MH fa):=by intro B Y O Z H ρ Q R w;exact jW ha B Y O Z H ρ (λc b=>Q (.bl (!c)) b) R (w.bind.imp λa e h b f g=>e h _ b f g (.bl _))
def az:FA:=λρ=>.ok ([],ρ)
def ag(fa:FE)(e:FA):FA:=λρ=>(fa ρ).bind λa=>(e a.2).bind λb=>.ok (ei a.1::b.1,b.2)
theorem bc:AO K E ng az:=λB Y O Z H ρ Q R w=>w O [] H .refl R .nil
theorem aD(ha:EO K E ta fa)(m:AO K E tr fr):AO K E (iH ta tr) (ag fa fr):=by intro B Y O Z H ρ Q R w;refine ha B Y O Z H ρ _ R (w.bind.imp λa h z x y o q l=>?_);obtain⟨t,n,R2,j⟩:=j9 q l;refine m B Y t Z y a.2 _ R2 (h.bind.imp λb g r f u e p i=>?_);exact g r (x::f) u (o.trans (n.trans e)) p (.cons ⟨j.keep (sG a.1) e,sG a.1⟩ i)
def zp(ρ:bw):bb PV->bg (bb D)
 |[]=>lD []
 |p::r=>match xl ρ p with
  |some d=>(match zp ρ r with
   |some ds=>lD (d::ds)
   |none=>Uh)
  |none=>Uh
theorem CC(R:Rl K B Y O Z H ρ):∀{vs:bb V} {ps:bb PV} {ds:bb D},Paired (λv pv=>Y1 K Y O Z H ρ v pv/\mP pv) vs ps->zp ρ ps=lD ds->Paired (DX O K H) vs ds
 |_,_,_,.nil,e=>by cases e;exact .nil
 |_,_,_,.cons (l₂:=ps) (b:=p) h t,e=>by
  unfold zp at e;cases q:xl ρ p with
  |none=>rw[q]at e;cases e
  |some d=>
   rw[q]at e;dsimp only at e;cases q2:zp ρ ps with
   |none=>rw[q2]at e;cases e
   |some a=>rw[q2]at e;cases e;exact .cons (nQ R h.1 q) (CC R t q2)
def rZ(ρ:bw):bb PV->bg (bb D×bw)
 |[]=>lD ([],ρ)
 |p::r=>match zu ρ p with
  |some (d,ρ1)=>(match rZ ρ1 r with
   |some (ds,ρ2)=>lD (d::ds,ρ2)
   |none=>Uh)
  |none=>Uh
theorem vk:∀{vs:bb V} {ps:bb PV} {ds:bb D} {O:cz} {ρ ρ':bw},Rl K B Y O Z H ρ->Paired (λv pv=>Y1 K Y O Z H ρ v pv/\mP pv) vs ps->rZ ρ ps=lD (ds,ρ')->∃X,Ev O H X H/\Rl K B Y X Z H ρ'/\V9 X K H vs ds
 |_,_,_,O,_,_,R,.nil,e=>by cases e;exact⟨O,.refl,R,.nil⟩
 |_,_,_,O,ρ,ρ',R,.cons (l₁:=vs) (l₂:=ps) (b:=p) h t,e=>by
  unfold rZ at e;cases q:zu ρ p with
  |none=>rw[q]at e;cases e
  |some r=>
   obtain⟨d,a⟩:=r;rw[q]at e;dsimp only at e;cases q2:rZ a ps with
   |none=>rw[q2]at e;cases e
   |some m=>obtain⟨o,j⟩:=m;rw[q2]at e;cases e;obtain⟨A,i,y,w⟩:=vY R h.1 q;have l:Paired (λv pv=>Y1 K Y A Z H a v pv/\mP pv) vs ps:=Paired.Yv t λv pv ⟨n,f⟩=>⟨n.keep f i,f⟩;obtain⟨z,g,R2,u⟩:=vk y l q2;exact⟨z,i.trans g,R2,.cons (w.ev g) u⟩
abbrev FN:=bb D->Res RV
def pT(K:Ld)(n:Nat)(F:FN):Sp:=λvs H Q E=>vs.length=n/\∃(B:cz) (ds:bb D),(∀a,B a->H a≠Uh)/\V9 B K H vs ds/\WR K E B H (Fin B K H Q) (F ds)
def cP(fa:FA):FE:=λρ=>(fa ρ).bind λa=>(Res.Vm (rZ a.2 a.1)).bind λb=>if b.1.length<=1000 then .ok (.fz (.tuple b.1),b.2)else .bad
def cY(fa:FA):FE:=λρ=>(fa ρ).bind λa=>(Res.Vm (rZ a.2 a.1)).bind λb=>if b.1.length<=1000 then .ok (.ow b.1,b.2)else .bad
theorem Ch(h:n<=1000):n<=UB:=Va h (by decide)
theorem yg(ha:AO K E ta fa):EO K E (Qb ta) (cP fa):=by
 intro B Y O Z H ρ Q R w;refine ha B Y O Z H ρ _ R (w.bind.imp λa g u vs y m o i=>?_);obtain⟨⟨ds,f⟩,q,b⟩:=g.Vm;obtain⟨t,l,R2,e⟩:=vk o i q;dsimp only at b;by_cases hn:ds.length<=1000
 .rw[av hn]at b;refine⟨by rw[e.length];exact Ch hn,Fin.adA e R2.od (on R2 λp v r j n h=>b p v r (m.trans (l.trans j)) n h)⟩
 .rw[ax hn]at b;exact b.elim
theorem kL(ha:AO K E ta fa):EO K E (Sj ta) (cY fa):=by
 intro B Y O Z H ρ Q R w;refine ha B Y O Z H ρ _ R (w.bind.imp λa g u vs y m o i=>?_);obtain⟨⟨ds,f⟩,q,b⟩:=g.Vm;obtain⟨t,l,R2,e⟩:=vk o i q;dsimp only at b;by_cases hn:ds.length<=1000
 .rw[av hn]at b;refine⟨by rw[e.length];exact Ch hn,Fin.new e (on R2 λp v r j n h=>b p v r (m.trans (l.trans j)) n h)⟩
 .rw[ax hn]at b;exact b.elim
def Ks(K:Ld)(r:bb V->Hp->VK->Prop)(f:bb D->bg RV):Prop:=∀(O:cz) (H:Hp) (xs:bb V) (ds:bb D) (rv:RV) (Q:VK),oU O H->Paired (DX O K H) xs ds->f ds=lD rv->Fin O K H Q rv->r xs H Q
def fM(f:bb D->bg RV)(fa:FA):FE:=λρ=>(fa ρ).bind λa=>(Res.Vm (zp a.2 a.1)).bind λds=>(Res.Vm (f ds)).bind λrv=>.ok (rv.pv,a.2)
theorem gK(l:Ks K r f)(ha:AO K E ta fa):EO K E (KF r ta) (fM f fa):=by intro B Y O Z H ρ Q R w;refine ha B Y O Z H ρ _ R (w.bind.imp λa g t vs y n e j=>?_);obtain⟨ds,q,b⟩:=g.Vm;obtain⟨rv,h,b⟩:=b.Vm;exact l t y vs ds rv Q e.od (CC e j q) h (on e λp v u m o i=>b p v u (n.trans m) o i)
def Ti:D->bg Int
 |.int i=>lD i
 |_=>Uh
theorem Pr(h:DX O K H x d)(e:Ti d=lD i):x=.int i:=by cases d<;>cases e;cases h;rfl
abbrev FO:=bw->Res (bg Int×bw)
def Td(K:Ld)(E:XK)(t:TO)(f:FO):Prop:=
 ∀(B:cz) (Y:Hp) (O:cz) (Z:St) (H:Hp) (ρ:bw) (Q:bg Int->Hp->Prop),Rl K B Y O Z H ρ->WR K E B Y (λr=>∀X H',Ev O H X H'->Rl K B Y X Z H' r.2->Q r.1 H') (f ρ)->t Z H Q
def wK(fa:FE):FO:=λρ=>(fa ρ).bind λa=>(Res.Vm (xl a.2 a.1)).bind λd=>(Res.Vm (Ti d)).bind λi=>.ok (lD i,a.2)
theorem uO(ha:EO K E ta fa):Td K E (Oc ta) (wK fa):=by intro B Y O Z H ρ Q R w;refine ha B Y O Z H ρ _ R (w.bind.imp λa f l x m j e h=>?_);obtain⟨d,q,b⟩:=f.Vm;obtain⟨i,g,b⟩:=b.Vm;exact⟨i,Pr (nQ e h q) g,b l m j e⟩
def Tx(K:Ld)(r:V->bg Int->bg Int->Hp->VK->Prop)(f:D->bg Int->bg Int->bg RV):Prop:=∀(O:cz) (H:Hp) (x:V) (lo hi:bg Int) (dx:D) (rv:RV) (Q:VK),oU O H->DX O K H x dx->f dx lo hi=lD rv->Fin O K H Q rv->r x lo hi H Q
def Sg(f:D->bg Int->bg Int->bg RV)(fa:FE)(b e:FO):FE:=λρ=>(fa ρ).bind λa=>(b a.2).bind λl=>(e l.2).bind λh=>(Res.Vm (xl h.2 (ei a.1))).bind λdx=>(Res.Vm (f dx l.1 h.1)).bind λrv=>.ok (rv.pv,h.2)
theorem Ox(u:Tx K r f)(ha:EO K E ta fa)(y:Td K E tl fl)(z:Td K E th fh):EO K E (TB r ta tl th) (Sg f fa fl fh):=by intro B Y O Z H ρ Q R w;refine ha B Y O Z H ρ _ R (w.bind.imp λa m O1 x H1 F J t=>?_);obtain⟨P,C,R2,q⟩:=j9 J t;refine y B Y P Z H1 a.2 _ R2 (m.bind.imp λl j N U i I=>?_);refine z B Y N Z U l.2 _ I (j.bind.imp λh b M T g e=>?_);obtain⟨dx,n,b⟩:=b.Vm;obtain⟨rv,o,b⟩:=b.Vm;exact u M T x l.1 h.1 dx rv Q e.od (nQ e (q.keep (sG a.1) (i.trans g)) n) o (on e λL v S A G p=>b L v S (F.trans (C.trans (i.trans (g.trans A)))) G p)
end
theorem yk{l:bb α}(h:(l.set i x)[i]?=lD y):i<l.length:=by
 rw[VI]at h;rw[av rfl]at h;split at h
 .assumption
 .cases h
section
variable{K:Ld}{E:XK}{B O U:cz}{Z H H':Hp}{Y:St}{ρ ρ':bw}{v:V}
theorem Rl.mut{i:Nat}{ds g:bb D}{a:Uq}{f:bb V}(R:Rl K B Z O Y H ρ)(hi:ρ[i]?=lD (lD (.ow ds)))(I:Y[i]?=lD (lD (.ref a)))(J:O a)(L:Z a=Uh)(hd:V9 O K H f g):
  Rl K B Z O Y (bM H a (.lst f)) (ρ.set i (lD (.ow g))):=by
 have ev:Ev O H O (bM H a (.lst f)):=Ev.mut J _;refine⟨λb o e=>by rw[aI (b9 e L)];exact R.same b o e,R.bo,R.bd,λb m=>?_,by rw[VG];exact R.len,λj x l=>?_,λj k xs F w X T y r=>?_⟩
 .by_cases e:b=a
  .rw[e,aV]at m;cases m
  .rw[aI e]at m;exact R.od b m
 .rcases cG l with⟨rfl,ee⟩|⟨ZV,l⟩
  .cases ee;exact⟨_,I,a,f,rfl,J,L,aV,hd.ev ev⟩
  .obtain⟨u,G,q⟩:=R.slot j x l
   refine⟨u,G,?_⟩;cases x with
   |fz d=>exact DV.ev ev q
   |pl i=>exact q
   |ow xs=>obtain⟨b,M,rfl,S,Q,P,N⟩:=q;have C:b≠a:=λz=>ZV (R.one j i xs ds (.ref a) l hi (by rw[G,z]) I);exact⟨b,M,rfl,S,Q,by rw[aI C];exact P,N.ev ev⟩
 .have own:∀{j:Nat} {xs:bb D},(ρ.set i (lD (.ow g)))[j]?=lD (lD (.ow xs))->∃F,ρ[j]?=lD (lD (.ow F)):=λ{j xs} h=>by
   rcases cG h with⟨rfl,_⟩|⟨_,h⟩
   .exact⟨_,hi⟩
   .exact⟨_,h⟩
  obtain⟨p,A⟩:=own X;obtain⟨n,t⟩:=own T;exact R.one j k p n w A t y r
theorem uU(h:n<1000000):n<UB:=UU h (by decide)
def Js:bg (bg PV)->bg (bb D)
 |some (lD (.ow ds))=>lD ds
 |_=>Uh
theorem Er(h:Js o=lD ds):o=lD (lD (.ow ds)):=by
 unfold Js at h;split at h
 .cases h;rfl
 .cases h
def Ce(i:Nat)(fe:FE):FE:=λρ=>(Res.Vm (Js ρ[i]?)).bind λ_=>(fe ρ).bind λa=>(Res.Vm (zu a.2 a.1)).bind λb=>(Res.Vm (Js b.2[i]?)).bind λds=>
 if ds.length<1000000 then .ok (.fz .none,b.2.set i (lD (.ow (ds++[b.1]))))else .bad
theorem HY(z:EO K E te fe):EO K E (SX K "list" xy (zO i) (iH te ng)) (Ce i fe):=by
 intro B Z O Y H ρ Q R w;obtain⟨J,q,w⟩:=w.Vm;obtain⟨v,j,a,vs,rfl,T,S,A,P⟩:=R.slot i _ (Er q);refine⟨_,j,.inl ⟨rfl,_,YL.of A⟩,?_⟩;refine z B Z O Y H ρ _ R (w.bind.imp λb e O1 y H1 F L r=>?_);obtain⟨⟨d,o⟩,p,e⟩:=e.Vm;obtain⟨M,C,R2,I⟩:=vY L r p;obtain⟨ds,f,e⟩:=e.Vm;have f:=Er f;obtain⟨N,n,X,g,G,m,u,t,l⟩:=R2.slot i _ f;subst G;rw[j]at n;cases n;dsimp only at e;by_cases h:ds.length<1000000
 .rw[av h]at e;refine⟨a,g,y,rfl,rfl,t,uU (by rw[l.length];exact h),?_⟩;exact e M .WA _ (F.trans (C.trans (Ev.mut m _))) (R2.mut f j m u (l.append (.cons I .nil))) .WA
 .rw[ax h]at e;exact e.elim
abbrev FG:=PV->bw->Res bw
abbrev Ry:=bb D->bw->Res bw
def GO(K:Ld)(E:XK)(g:TG)(f:FG):Prop:=
 ∀(B:cz) (Z:Hp) (O:cz) (Y:St) (H:Hp) (ρ:bw) (v:V) (pv:PV) (Q:St->Hp->Prop),Rl K B Z O Y H ρ->Y1 K Z O Y H ρ v pv->WR K E B Z (λρ'=>∀U σ' H',Ev O H U H'->Rl K B Z U σ' H' ρ'->Q σ' H') (f pv ρ)->g v Y H Q
def S0(K:Ld)(E:XK)(g:Pd)(f:Ry):Prop:=
 ∀(B:cz) (Z:Hp) (O:cz) (Y:St) (H:Hp) (ρ:bw) (vs:bb V) (ds:bb D) (Q:St->Hp->Prop),Rl K B Z O Y H ρ->V9 O K H vs ds->WR K E B Z (λρ'=>∀U σ' H',Ev O H U H'->Rl K B Z U σ' H' ρ'->Q σ' H') (f ds ρ)->g vs Y H Q
theorem Rl.agI(R:Rl K B Z O Y H ρ)(h:DV O K H v d):Rl K B Z O (Y.set i (lD v)) H (ρ.set i (lD (.fz d))):=by
 refine⟨R.same,R.bo,R.bd,R.od,by rw[VG,VG];exact R.len,λj x f=>?_,λj k xs n w l g b a=>?_⟩
 .rcases cG f with⟨rfl,e⟩|⟨t,f⟩
  .cases e;have:=yk f;exact⟨v,by rw[VI,av rfl,av (by rw[R.len];exact this)],h⟩
  .obtain⟨u,r,q⟩:=R.slot j x f;exact⟨u,by rw[VI,ax (λz=>t z.symm)];exact r,q⟩
 .rcases cG l with⟨rfl,m⟩|⟨p,l⟩
  .cases m
  .rcases cG g with⟨rfl,m⟩|⟨o,g⟩
   .cases m
   .rw[VI,ax (λz=>p z.symm)]at b;rw[VI,ax (λz=>o z.symm)]at a;exact R.one j k xs n w l g b a
theorem Rl.ai2(R:Rl K B Z O Y H ρ)(h:Y1 K Z O Y H ρ v (.ow ds)):Rl K B Z O (Y.set i (lD v)) H (ρ.set i (lD (.ow ds))):=by
 obtain⟨a,vs,rfl,I,G,F,C,p⟩:=h;refine⟨R.same,R.bo,R.bd,R.od,by rw[VG,VG];exact R.len,λj x m=>?_,λj k xs o w A l f b=>?_⟩
 .rcases cG m with⟨rfl,e⟩|⟨M,m⟩
  .cases e;have:=yk m;exact⟨.ref a,by rw[VI,av rfl,av (by rw[R.len];exact this)],a,vs,rfl,I,G,F,C⟩
  .obtain⟨u,t,r⟩:=R.slot j x m;exact⟨u,by rw[VI,ax (λz=>M z.symm)];exact t,r⟩
 .rcases cG A with⟨rfl,L⟩|⟨q,g⟩
  .rcases cG l with⟨rfl,J⟩|⟨n,l⟩
   .rfl
   .rw[VI,ax (λz=>n z.symm)]at b
    rcases cG f with⟨_,e⟩|⟨z,_⟩
    .cases e;exact a5 b (p k o l)
    .exact a5 rfl z
  .have y:=g
   rw[VI,ax (λz=>q z.symm)]at f;rcases cG l with⟨rfl,L⟩|⟨n,l⟩
   .rcases cG b with⟨_,e⟩|⟨z,_⟩
    .cases e;exact a5 f (p j xs g)
    .exact a5 rfl z
   .rw[VI,ax (λz=>n z.symm)]at b;exact R.one j k xs o w g l f b
def gN(i:Nat):FG:=λpv ρ=>match pv with
 |.ow ds=>.ok (ρ.set i (lD (.ow ds)))
 |.fz d=>.ok (ρ.set i (lD (.fz d)))
 |.pl j=>(Res.Vm (zu ρ (.pl j))).bind λb=>.ok (b.2.set i (lD (.fz b.1)))
theorem bZ:GO K E (wB i) (gN i):=by
 intro B Z O Y H ρ v pv Q R p w;cases pv with
 |ow ds=>exact w O _ H .refl (R.ai2 p)
 |fz d=>exact w O _ H .refl (R.agI p)
 |pl j=>obtain⟨⟨d,a⟩,q,w⟩:=WR.Vm (show WR K E B Z _ ((Res.Vm (zu ρ (.pl j))).bind λb=>.ok (b.2.set i (lD (.fz b.1))))from w);obtain⟨g,e,R2,f⟩:=vY R p q;exact w g _ H e (R2.agI f)
def S4:Ry:=λds ρ=>match ds with
 |[]=>.ok ρ
 |_=>.bad
def Ra(f:FG)(g:Ry):Ry:=λds ρ=>match ds with
 |[]=>.bad
 |d::r=>(f (.fz d) ρ).bind λa=>g r a
theorem J9:S0 K E QY S4:=by
 intro B Z O Y H ρ vs ds Q R a w;cases a with
 |nil=>exact⟨rfl,w O Y H .refl R⟩
 |cons _ _=>exact w.elim
theorem yy(o:GO K E t f)(n:S0 K E u g):S0 K E (GY t u) (Ra f g):=by
 intro B Z O Y H ρ vs ds Q R r w;cases r with
 |nil=>exact w.elim
 |cons m l=>rename_i v vs d ds;refine⟨_,_,rfl,o B Z O Y H ρ _ (.fz d) _ R m (WR.imp (WR.bind w) λe j A b F h y=>?_)⟩;exact n B Z A b F e _ _ Q y (l.ev h) (j.imp λi q z a C p R2=>q z a C (h.trans p) R2)
def TC:D->bg (bb D)
 |.tuple ds=>lD ds
 |_=>Uh
theorem IH(h:DX O K H x d)(e:TC d=lD ds):∃a xs,x=.ref a/\Y5 O K H a xs/\V9 O K H xs ds:=by
 cases d<;>cases e;cases h with
 |tup h b=>exact⟨_,_,rfl,h,b⟩
def gT(n:Nat)(f:Ry):FG:=λpv ρ=>(Res.Vm (xl ρ pv)).bind λd=>(Res.Vm (TC d)).bind λds=>if ds.length=n then f ds ρ else .bad
theorem Gx(h:S0 K E t f):GO K E (Q4 K n t) (gT n f):=by
 intro B Z O Y H ρ v pv Q R p w;obtain⟨d,g,w⟩:=w.Vm;obtain⟨ds,e,w⟩:=w.Vm;obtain⟨a,xs,rfl,i,b⟩:=IH (nQ R p g) e;by_cases hn:ds.length=n
 .rw[av hn]at w;exact⟨a,xs,rfl,i.1,b.length.trans hn,h B Z O Y H ρ xs ds Q R b w⟩
 .rw[ax hn]at w;exact w.elim
inductive Fl where
 |nx (ρ:bw)
 |rt (rv:RV)
 |bk (ρ:bw)
 |ct (ρ:bw)
abbrev FS:=bw->Res Fl
def adb(K:Ld)(B:cz)(Z:Hp)(O:cz)(H:Hp)(D:Ends):Fl->Prop
 |.nx ρ'=>∀U σ' H',Ev O H U H'->Rl K B Z U σ' H' ρ'->D.nx σ' H'
 |.bk ρ'=>∀U σ' H',Ev O H U H'->Rl K B Z U σ' H' ρ'->D.bk σ' H'
 |.ct ρ'=>∀U σ' H',Ev O H U H'->Rl K B Z U σ' H' ρ'->D.ct σ' H'
 |.rt rv=>Fin B K Z D.rt rv
def SO(K:Ld)(E:XK)(t:TS)(g:FS):Prop:=
 ∀(B:cz) (Z:Hp) (O:cz) (Y:St) (H:Hp) (ρ:bw) (D:Ends),Rl K B Z O Y H ρ->WR K E B Z (adb K B Z O H D) (g ρ)->t D Y H
theorem adb.ev{D:Ends}(e:Ev O H O1 H1)(h:adb K B Z O H D fl):adb K B Z O1 H1 D fl:=by
 cases fl with
 |nx ρ'=>exact λU a H' b f=>h U a H' (e.trans b) f
 |bk ρ'=>exact λU a H' b f=>h U a H' (e.trans b) f
 |ct ρ'=>exact λU a H' b f=>h U a H' (e.trans b) f
 |rt rv=>exact h
def fG:FS:=λρ=>.ok (.nx ρ)
def b8(f g:FS):FS:=λρ=>(f ρ).bind λa=>match a with
 |.nx ρ1=>g ρ1
 |a=>.ok a
def rQ(f:FE):FS:=λρ=>(f ρ).bind λa=>.ok (.nx a.2)
def jo(f:FE)(g:FG):FS:=λρ=>(f ρ).bind λa=>(g a.1 a.2).bind λb=>.ok (.nx b)
def oK(c:FT)(f g:FS):FS:=λρ=>(c ρ).bind λa=>if a.1=Um then f a.2 else g a.2
def FP(ρ:bw):PV->bg RV
 |.fz d=>lD (.fz d)
 |.ow ds=>lD (.ow ds)
 |.pl i=>match ρ[i]? with
  |some (lD (.fz d))=>lD (.fz d)
  |some (lD (.ow ds))=>lD (.ow ds)
  |_=>Uh
def eR(f:FE):FS:=λρ=>(f ρ).bind λa=>(Res.Vm (FP a.2 a.1)).bind λrv=>.ok (.rt rv)
theorem KW:SO K E Kg fG:=λB Z O Y H ρ D R w=>w O Y H .refl R
theorem eA(j:SO K E t f)(i:SO K E u g):SO K E (MZ t u) (b8 f g):=by
 intro B Z O Y H ρ D R w;refine j B Z O Y H ρ {D with nx:=u D} R (WR.imp (WR.bind w) λh b=>?_);cases h with
 |nx a=>exact λn e o l m=>i B Z n e o a D m (WR.imp b λh q=>q.ev l)
 |rt rv=>exact b
 |bk a=>exact b
 |ct a=>exact b
theorem C3(h:EO K E t f):SO K E (Dr t) (rQ f):=by intro B Z O Y H ρ D R w;exact h B Z O Y H ρ _ R (w.bind.imp λa b i x j e g l=>b i Y j e g)
theorem oJ(h:EO K E t f)(m:GO K E g fg):SO K E (Fv t g) (jo f fg):=by intro B Z O Y H ρ D R w;refine h B Z O Y H ρ _ R (w.bind.imp λa j r x y o p l=>?_);exact m B Z r Y y a.2 x a.1 _ p l (j.bind.imp λe i q b u n R2=>i q b u (o.trans n) R2)
theorem RH(n:TTO K E c fc)(p:SO K E t f)(o:SO K E u g):SO K E (OP c t u) (oK fc f g):=by
 intro B Z O Y H ρ D R w;refine n B Z O Y H ρ _ R (w.bind.imp λa h l m i j=>?_);obtain⟨b,e⟩:=a;cases b with
 |true=>exact p B Z l Y m e D j (WR.imp h λr q=>q.ev i)
 |false=>exact o B Z l Y m e D j (WR.imp h λr q=>q.ev i)
theorem QS{pv:PV}(R:Rl K B Z O Y H ρ)(p:Y1 K Z O Y H ρ v pv)(e:FP ρ pv=lD rv)(w:Fin B K Z Q rv):Q v H:=by
 have ow:∀{a:Uq} {vs:bb V} {ds:bb D},O a->Z a=Uh->H a=lD (.lst vs)->V9 O K H vs ds->Fin B K Z Q (.ow ds)->Q (.ref a) H:=λ{a vs ds} m l g f w=>
  w a vs H R.same l g (f.ev (Ev.sub λb z=>z.elim (R.bo b) λe=>by rw[e];exact m))
 have fz:∀{d:D},DV O K H v d->Fin B K Z Q (.fz d)->Q v H:=λ{d} h w=>w v H R.same (h.ev (Ev.sub R.bo));cases pv with
 |fz d=>cases e;exact fz p w
 |ow ds=>cases e;obtain⟨a,vs,rfl,m,l,g,f,y⟩:=p;exact ow m l g f w
 |pl i=>
  have t:=p;unfold FP at e;dsimp only at e;cases q:ρ[i]? with
  |none=>rw[q]at e;cases e
  |some o=>
   cases o with
   |none=>rw[q]at e;cases e
   |some x=>
    obtain⟨u,r,n⟩:=R.slot i x q;rw[t]at r;cases r;rw[q]at e;cases x with
    |fz d=>cases e;exact fz n w
    |ow ds=>cases e;obtain⟨a,vs,rfl,m,l,g,f⟩:=n;exact ow m l g f w
    |pl j=>exact n.elim
theorem kZ(h:EO K E t f):SO K E (QZ t) (eR f):=by intro B Z O Y H ρ D R w;refine h B Z O Y H ρ _ R (w.bind.imp λa b j x l i g e=>?_);obtain⟨rv,q,b⟩:=b.Vm;exact QS g e q b
def CD(K:Ld)(J:It)(O:cz)(H:Hp)(ds:bb D):Prop:=∀U H',Ev O H U H'->oU U H'->
 (∀i,i<ds.length->J.go i H'/\∀x H'',J.yld i H' x H''->We H' H''/\∃d,ds[i]?=lD d/\DV U K H'' x d)/\J.stop ds.length H'
abbrev FI:=bw->Res (bb D×bw)
def IO(K:Ld)(E:XK)(b:TI)(e:FI):Prop:=
 ∀(B:cz) (Z:Hp) (O:cz) (Y:St) (H:Hp) (ρ:bw) (a:It->Hp->Prop),Rl K B Z O Y H ρ->WR K E B Z (λr=>∀U J H',Ev O H U H'->Rl K B Z U Y H' r.2->CD K J U H' r.1->a J H') (e ρ)->b Y H a
def sr(gt:FG)(b:FS):bb D->FS
 |[],ρ=>.ok (.nx ρ)
 |d::r,ρ=>(gt (.fz d) ρ).bind λa=>(b a).bind λe=>match e with
  |.nx ρ2=>sr gt b r ρ2
  |.ct ρ2=>sr gt b r ρ2
  |.bk ρ2=>.ok (.nx ρ2)
  |.rt rv=>.ok (.rt rv)
def r8(e:FI)(gt:FG)(b:FS):FS:=λρ=>(e ρ).bind λa=>sr gt b a.1 a.2
theorem A7(hi:IO K E wi fi)(hg:GO K E g gt)(hb:SO K E tb b):SO K E (PK wi g tb) (r8 fi gt b):=by
 intro B Z O Y H ρ D R w;refine hi B Z O Y H ρ _ R (w.bind.imp λa N G J X S T Q=>?_);obtain⟨ds,F⟩:=a;dsimp only at N Q T;refine⟨λi m f H'=>m=ds.length - i/\i<=ds.length/\∃O2 ρ2,Ev G X O2 H'/\Rl K B Z O2 f H' ρ2/\WR K E B Z (adb K B Z O H D) (sr gt b (ds.drop i) ρ2),⟨_,rfl,Vl _,G,F,.refl,T,N⟩,?_⟩;rintro i m n M ⟨rfl,hi,O2,ρ2,e2,R2,w2⟩;obtain⟨go,o⟩:=Q O2 M e2 R2.od;by_cases z:i<ds.length
 .obtain⟨g1,g2⟩:=go i z
  refine .inr ⟨g1,λf H'=>i+1<=ds.length/\∃O2 ρ2,Ev G X O2 H'/\Rl K B Z O2 f H' ρ2/\WR K E B Z (adb K B Z O H D) (sr gt b (ds.drop (i+1)) ρ2),λf H' ⟨h1,h2⟩=>⟨ds.length - (i+1),by ext,rfl,h1,h2⟩,λx L y=>?_⟩;obtain⟨P,d,hd,dv⟩:=g2 x L y;have ed:ds.drop i=d::ds.drop (i+1):=by obtain⟨_,q⟩:=Uk.mp hd;rw[W8 z,q]
  rw[ed]at w2;have e3:Ev O2 M O2 L:=Ev.grow P;refine hg B Z O2 n L ρ2 x (.fz d) _ (R2.grow P) dv (WR.imp (WR.bind w2) λC w3 O4 A H4 e4 R4=>?_);have l:=e2.trans (e3.trans e4);refine hb B Z O4 A H4 C _ R4 (WR.imp (WR.bind w3) λfl u=>?_);cases fl with
  |nx h=>exact λt j I p r=>⟨z,t,h,l.trans p,r,u⟩
  |ct h=>exact λt j I p r=>⟨z,t,h,l.trans p,r,u⟩
  |bk h=>exact λt j I p r=>u t j I (S.trans (l.trans p)) r
  |rt rv=>exact u
 .have e:i=ds.length:=by ext
  subst e;rw[Xw (Ux _)]at w2;exact .inl ⟨o,w2 O2 n M (S.trans e2) R2⟩
def fY:D->bg (bb D)
 |.tuple ds=>lD ds
 |.list ds=>lD ds
 |_=>Uh
def Kq(K:Ld)(e:TE):TI:=λY H R=>e Y H λx b=>∃a,x=.ref a/\(((∃xs,YL K b a xs)/\R (Tl K a) b)\/((∃xs,YA K b a xs)/\R (Tv K a) b))
theorem eD(y:PE X l tl):PI X tg l (Kq X.K tl):=by
 intro i s Y H R I h;refine cQ (y i s Y H _ I h) λv g ⟨x,r,f,t,u⟩=>?_;obtain⟨a,e,q⟩:=u;subst e;cases t;rcases q with⟨⟨xs,j⟩,q⟩|⟨⟨xs,j⟩,q⟩
 .obtain⟨n,rv,p,w⟩:=f.list j
  refine Ym p.isList ?_;refine⟨g.heap.objs.size,[g.heap.objs.size],_,_,r,rfl,f.kept λb o e=>br _ e,FB a _,⟨_,cj _ rfl,rfl,rfl⟩,λb m=>?_,q⟩;have e:b=g.heap.objs.size:=by simpa using m
  subst e;exact f.abi (Ux _) (f.VR.fresh (Ux _))
 .obtain⟨n,rv,p,w⟩:=f.tuple j
  refine ZM (show g.heap.IsTuple a n.toArray from p) ?_;refine⟨g.heap.objs.size,[g.heap.objs.size],_,_,r,rfl,f.kept λb o e=>br _ e,Bx a _,⟨_,cj _ rfl,rfl,rfl⟩,λb m=>?_,q⟩;have e:b=g.heap.objs.size:=by simpa using m
  subst e;exact f.abi (Ux _) (f.VR.fresh (Ux _))
theorem Da(h:aay O K H a xs)(hd:V9 O K H xs ds):CD K (Tl K a) O H ds:=by intro U H' e n;have f:=h.ev e;have b:=hd.ev e;refine⟨λi hi=>?_,⟨xs,f.1.sq,by rw[hd.length];exact Ux _⟩⟩;obtain⟨x,l,_⟩:=b.get (Us hi);refine⟨⟨xs,x,f.1.sq,l⟩,?_⟩;rintro y m ⟨rfl,hy⟩;obtain⟨d,j,g⟩:=b.afL (hy xs f.1.sq);exact⟨We.refl _,d,j,g⟩
theorem JA(h:Y5 O K H a xs)(hd:V9 O K H xs ds):CD K (Tv K a) O H ds:=by intro U H' e n;have f:=h.ev e;have b:=hd.ev e;refine⟨λi hi=>?_,⟨xs,f.1,by rw[hd.length];exact Ux _⟩⟩;obtain⟨x,l,_⟩:=b.get (Us hi);refine⟨⟨xs,x,f.1,l⟩,?_⟩;rintro y m ⟨rfl,hy⟩;obtain⟨d,j,g⟩:=b.afL (hy xs f.1);exact⟨We.refl _,d,j,g⟩
def gh(fe:FE):FI:=λρ=>(fe ρ).bind λa=>(Res.Vm (zu a.2 a.1)).bind λb=>(Res.Vm (fY b.1)).bind λds=>.ok (ds,b.2)
theorem gy(h:EO K E tl fe):IO K E (Kq K tl) (gh fe):=by
 intro B Z O Y H ρ r R w;refine h B Z O Y H ρ _ R (w.bind.imp λa b t x l i p n=>?_);obtain⟨⟨d,m⟩,q,b⟩:=b.Vm;obtain⟨j,g,R2,o⟩:=vY p n q;obtain⟨ds,e,b⟩:=b.Vm;dsimp only at e;cases o with
 |tup h f=>cases e;exact⟨_,rfl,.inr ⟨⟨_,h.1⟩,b j _ l (i.trans g) R2 (JA h f)⟩⟩
 |lst h f=>cases e;exact⟨_,rfl,.inl ⟨⟨_,h.1.sq⟩,b j _ l (i.trans g) R2 (Da h f)⟩⟩
 |_=>cases e
def gq(lo:Int)(n:Nat):bb D:=(Ul n).map λ(k:Nat)=>.int (lo+(k:Int))
theorem Ag:CD K (S1 lo n) O H (gq lo n):=by
 intro U H' e f;have a:(gq lo n).length=n:=by unfold gq;rw[Ui,UA]
 refine⟨λi hi=>?_,by show n<=_;rw[a];exact Ux _⟩;rw[a]at hi;refine⟨hi,?_⟩;rintro x b ⟨rfl,rfl⟩;exact⟨We.refl _,.int (lo+i),by unfold gq;rw[Uu,acZ hi];rfl,.int _⟩
def kO(i:Int):Prop:= -(2^62)<=i/\i<2^62
noncomputable instance(i:Int):Decidable (kO i):=by unfold kO;infer_instance
def gJ:bb D->bg (bb D)
 |[.int j]=>if kO j then lD (gq 0 j.toNat)else Uh
 |_=>Uh
def lx(f:bb D->bg (bb D))(fa:FA):FI:=λρ=>(fa ρ).bind λa=>(Res.Vm (zp a.2 a.1)).bind λds=>(Res.Vm (f ds)).bind λxs=>.ok (xs,a.2)
theorem gC(h:AO K E ta fa):IO K E (Ko ta) (lx gJ fa):=by
 intro B Z O Y H ρ t R w;refine h B Z O Y H ρ _ R (w.bind.imp λa e p vs r o g l=>?_);obtain⟨ds,q,e⟩:=e.Vm;obtain⟨xs,b,e⟩:=e.Vm;have i:=CC g l q;unfold gJ at b;split at b
 .rename_i j
  split at b
  .rename_i f
   cases b;cases i with
   |cons n m=>cases m;cases n;exact⟨j,rfl,f.1,f.2,e p _ r o g Ag⟩
  .cases b
 .cases b
end
section
variable{K:Ld}{E:XK}{B O Y:cz}{X H H':Hp}{Z:St}{ρ ρ':bw}{v:V}
def IA:bg PV->bg PV
 |some (.fz d)=>lD (.fz d)
 |_=>Uh
def dQ(ρ:bw):bw:=ρ.map IA
theorem Bk{i:Nat}(h:(dQ ρ)[i]?=lD (lD x)):∃d,x=.fz d/\ρ[i]?=lD (lD (.fz d)):=by
 unfold dQ at h;rw[Uu]at h;cases q:ρ[i]? with
 |none=>rw[q]at h;cases h
 |some o=>
  rw[q]at h;have a:=UH h;unfold IA at a;split at a
  .cases a;exact⟨_,rfl,rfl⟩
  .cases a
def wO(ρ:bw):bb Nat->bg (bb D×bw)
 |[]=>lD ([],ρ)
 |j::r=>match zu ρ (.pl j)with
  |some (d,ρ1)=>(match wO ρ1 r with
   |some (c,ρ2)=>lD (d::c,ρ2)
   |none=>Uh)
  |none=>Uh
theorem Gc(R:Rl K B X O Z H ρ)(h:zu ρ (.pl i)=lD (d,ρ')):∃v,Z[i]?=lD (lD v):=by
 have a:Tj ρ i ρ[i]?=lD (d,ρ'):=h;cases q:ρ[i]? with
 |none=>rw[q]at a;cases a
 |some o=>
  cases o with
  |none=>rw[q]at a;cases a
  |some x=>obtain⟨v,b,_⟩:=R.slot i x q;exact⟨v,b⟩
theorem zd:∀{fv:bb Nat} {ds:bb D} {O:cz} {ρ ρ':bw},Rl K B X O Z H ρ->wO ρ fv=lD (ds,ρ')->∃Y vs,Ev O H Y H/\Rl K B X Y Z H ρ'/\V9 Y K H vs ds/\fv.map (λj=>(Z[j]?).join)=vs.map lD
 |[],_,O,_,_,R,e=>by cases e;exact⟨O,[],.refl,R,.nil,rfl⟩
 |j::r,_,O,ρ,ρ',R,e=>by
  unfold wO at e;cases q:zu ρ (.pl j)with
  |none=>rw[q]at e;cases e
  |some p=>
   obtain⟨d,a⟩:=p;rw[q]at e;dsimp only at e;cases q2:wO a r with
   |none=>rw[q2]at e;cases e
   |some h=>obtain⟨c,g⟩:=h;rw[q2]at e;cases e;obtain⟨v,b⟩:=Gc R q;obtain⟨u,l,o,n⟩:=vY (pv:=.pl j) R b q;obtain⟨t,vs,f,R2,m,i⟩:=zd o q2;exact⟨t,v::vs,l.trans f,R2,.cons (n.ev f) m,by rw[UJ,UJ,i,b];rfl⟩
def d9(gt:FG)(ft:FT)(fe:FE):bb D->bw->bb D->Res (bb D)
 |[],_,acc=>.ok acc
 |d::r,ρ,acc=>(gt (.fz d) ρ).bind λe=>(ft e).bind λb=>if b.1=Um then(fe b.2).bind λa=>(Res.Vm (zu a.2 a.1)).bind λx=>
   if acc.length<1000000 then d9 gt ft fe r (dQ x.2) (acc++[x.1])else .bad
  else d9 gt ft fe r (dQ b.2) acc
def lB:Res α->Res α
 |.er _=>.bad
 |r=>r
def eO(n:Nat)(fv:bb Nat)(b:FI)(gt:FG)(ft:FT)(fe:FE):FE:=λρ=>(b ρ).bind λa=>(Res.Vm (wO a.2 fv)).bind λc=>
 (lB (d9 gt ft fe a.1 (Uz n Uh++c.1.map λd=>lD (.fz d)) [])).bind λxs=>.ok (.ow xs,c.2)
theorem Ep{own:bb Str}(h:own.length=n):own.map (λ_=>(Uh:bg V))=Uz n Uh:=by
 subst h
 induction own with
 |nil=>rfl
 |cons x r a=>rw[UJ,a,UD,Vy]
theorem CM(h:WR K E B X P (lB r)):∃a,r=.ok a/\P a:=by
 cases r with
 |ok a=>exact⟨a,rfl,h⟩
 |er x=>exact h.elim
 |bad=>exact h.elim
def Ss(K:Ld)(J:It)(O:cz)(H:Hp)(ds:bb D):Prop:=∀Y H',Ev O H Y H'->We H H'->oU Y H'->
 (∀i,i<ds.length->J.go i H'/\∀x H'',J.yld i H' x H''->We H' H''/\∃d,ds[i]?=lD d/\DV Y K H'' x d)/\J.stop ds.length H'
def Tz(K:Ld)(E:XK)(b:TI)(e:FI):Prop:=
 ∀(B:cz) (X:Hp) (O:cz) (Z:St) (H:Hp) (ρ:bw) (a:It->Hp->Prop),Rl K B X O Z H ρ->WR K E B X (λr=>∀Y J H',Ev O H Y H'->Rl K B X Y Z H' r.2->Ss K J Y H' r.1->a J H') (e ρ)->b Z H a
theorem IO.s(h:IO K E wi fi):Tz K E wi fi:=λB X O Z H ρ f R w=>h B X O Z H ρ f R (w.imp λr q Y J H' e R a=>q Y J H' e R λg i b _ n=>a g i b n)
theorem JJ(hn:own.length=n)(hf:fv.map (·.2)=fj)
  (hi:Tz K E wi fi) (hg:GO K E0 g gt) (ht:TTO K E0 tc ft) (he:EO K E0 te fe):EO K E (uW own fv wi g tc te) (eO n fj fi gt ft fe):=by
 intro B X O Z H ρ Q R w;refine hi B X O Z H ρ _ R (w.bind.imp λa w1 O1 J H1 e1 R1 it=>?_);obtain⟨ds,ρ1⟩:=a;obtain⟨⟨cs,ρ2⟩,qc,w1⟩:=w1.Vm;dsimp only at qc it;obtain⟨I,vs,e2,R2,dvs,hvs⟩:=zd R1 qc;obtain⟨xs,qx,w1⟩:=CM (WR.bind w1);intro l F;have hB:∀{H':Hp},We H1 H'->H' l≠Uh->∀a,dz I l a->H' a≠Uh:=λ{H'} s nd a h z=>h.elim (λq=>R2.od a (s.free z) q) λe=>nd (by rw[<-e];exact z);refine⟨λi m L H'=>m=ds.length - i/\i<=ds.length/\∃(A:bb D) (G:bb V) (t:bw),We H1 H'/\H' l=lD (.lst G)/\V9 (dz I l) K H' G A/\L.length=t.length/\(∀(j:Nat) (x:PV),t[j]?=lD (lD x)->∃d u,x=PV.fz d/\L[j]?=lD (lD u)/\DV (dz I l) K H' u d)/\d9 gt ft fe (ds.drop i) t A=.ok xs,
  ⟨_,rfl,Vl _,[],[],_,cD F _,aV,.nil,?_,λj x M=>?_,qx⟩,?_⟩
 .unfold jR;rw[Uo,Uo,Ui,Ui,U9,Ui,hn,<-dvs.length];have:=d3 Ze hvs;rw[Ui,Ui,<-hf,Ui]at this;ext
 .have hm:fv.map (λp=>(Z[p.2]?).join)=vs.map lD:=by rw[<-hvs,<-hf,UZ];rfl
  unfold jR;rw[Ep hn,hm];by_cases hj:j<n
  .rw[Uy (by rw[U9];exact hj),WB,av hj]at M;cases M
  .rw[U6 (by rw[U9];ext),U9,Uu]at M⊢
   cases qd:cs[j - n]? with
   |none=>rw[qd]at M;cases M
   |some d=>rw[qd]at M;cases M;obtain⟨u,hu,du⟩:=dvs.get qd;exact⟨d,u,rfl,by rw[hu];rfl,du.ev (Ev.add (cD F _) F)⟩
 .rintro i m L H' ⟨rfl,hi,A,G,t,s,hD,dys,hl,hsl,f⟩
  have nD:H' l≠Uh:=by rw[hD];simp
  have no':=λa z h=>hB s nD a h z;have ev1:=e2.trans (Ev.add s F);obtain⟨go,stop⟩:=it (dz I l) H' ev1 s no';by_cases Yp:i<ds.length
  .obtain⟨g1,g2⟩:=go i Yp
   refine .inr ⟨g1,λC N=>i+1<=ds.length/\∃(A:bb D) (G:bb V) (t:bw),We H1 N/\N l=lD (.lst G)/\V9 (dz I l) K N G A/\C.length=t.length/\(∀(j:Nat) (x:PV),t[j]?=lD (lD x)->∃d u,x=PV.fz d/\C[j]?=lD (lD u)/\DV (dz I l) K N u d)/\d9 gt ft fe (ds.drop (i+1)) t A=.ok xs,
    λC N ⟨U,h2⟩=>⟨ds.length - (i+1),by ext,rfl,U,h2⟩,λx H3 y=>?_⟩
   obtain⟨s3,d,hd,dv⟩:=g2 x H3 y;have ed:ds.drop i=d::ds.drop (i+1):=by obtain⟨_,q⟩:=Uk.mp hd;rw[W8 Yp,q]
   rw[ed]at f;have hD3:=s3 _ _ hD;have nD3:H3 l≠Uh:=by rw[hD3];simp
   have sv:=s.trans s3;have RC:Rl K (dz I l) H3 (dz I l) L H3 t:=⟨We.refl _,λ_ h=>h,hB sv nD3,λa z h=>hB sv nD3 a h z,hl,λj x M=>by obtain⟨d,u,rfl,U,h2⟩:=hsl j x M;exact⟨u,U,h2.ev (Ev.grow s3)⟩,λj k xs G w hj=>by obtain⟨d,u,e,_⟩:=hsl j _ hj;cases e⟩;unfold d9 at f;have back:∀{O5:cz} {C:St} {N:Hp} {P:bw} {H6:Hp},Rl K (dz I l) H3 O5 C N P->(∀b o,b≠l->N b=lD o->H6 b=lD o)->C.length=(dQ P).length/\∀(j:Nat) (x:PV),(dQ P)[j]?=lD (lD x)->∃d u,x=PV.fz d/\C[j]?=lD (lD u)/\DV (dz I l) K H6 u d:=λ{O5 C N P H6} T k=>by refine⟨by unfold dQ;rw[Ui];exact T.len,λj x M=>?_⟩;obtain⟨d,rfl,hxx⟩:=Bk M;obtain⟨u,U,h2⟩:=T.slot j _ hxx;refine⟨d,u,rfl,U,DV.ev (λb o h n=>⟨k b o (λe=>n (.inr e)) h,n⟩) (DV.ev (Ev.sub T.bo) h2)⟩
   refine hg _ _ _ L H3 t x (.fz d) _ RC dv ?_;cases qg:gt (.fz d) t with
   |er z=>rw[qg]at f;cases f
   |bad=>rw[qg]at f;cases f
   |ok ρ3=>
    rw[qg,eg]at f;intro O4 σ4 H4 e4 R4;refine ht _ _ _ σ4 H4 ρ3 _ R4 ?_;cases qt:ft ρ3 with
    |er z=>rw[qt]at f;cases f
    |bad=>rw[qt]at f;cases f
    |ok b=>
     obtain⟨b,ρ4⟩:=b;rw[qt,eg]at f;intro O5 N e5 T;cases b with
     |false=>rw[ax UM]at f⊢;obtain⟨l5,k5⟩:=back T λb o _ h=>h;refine⟨Yp,A,G,dQ ρ4,sv.trans T.same,T.same _ _ hD3,?_,l5,k5,f⟩;exact dys.ev (Ev.grow (s3.trans T.same))
     |true=>
      rw[av rfl]at f⊢;refine he _ _ _ σ4 N ρ4 _ T ?_;cases qe:fe ρ4 with
      |er z=>rw[qe]at f;cases f
      |bad=>rw[qe]at f;cases f
      |ok r=>
       rw[qe,eg]at f;intro O6 yv H6 e6 R6 p6;cases q7:zu r.2 r.1 with
       |none=>rw[q7]at f;cases f
       |some xr=>
        obtain⟨xd,ρ7⟩:=xr;rw[q7]at f;obtain⟨O7,e7,R7,dv7⟩:=vY R6 p6 q7;have hD7:=R7.same _ _ hD3;have S:(if A.length<1000000 then d9 gt ft fe (ds.drop (i+1)) (dQ ρ7) (A++[xd])else .bad)=.ok xs:=f;by_cases hl6:A.length<1000000
        .rw[av hl6]at S
         have up:∀b o,b≠l->H6 b=lD o->bM H6 l (.lst (G++[yv])) b=lD o:=λb o hb h=>by rw[aI hb];exact h
         have dS:Ev (dz I l) H6 (dz I l) (bM H6 l (.lst (G++[yv]))):=λb o h n=>⟨up b o (λe=>n (.inr e)) h,n⟩;have ai0:=dys.ev (Ev.grow (s3.trans R7.same));obtain⟨l5,k5⟩:=back R7 up;refine⟨G,hD7,uU (by rw[dys.length];exact hl6),Yp,A++[xd],G++[yv],dQ ρ7,λb o h=>?_,aV,?_,l5,k5,S⟩
         .rw[aI (b9 h F)];exact R7.same _ _ (sv _ _ h)
         .exact(ai0.append (.cons (DV.ev (Ev.sub R7.bo) dv7) .nil)).ev dS
        .rw[ax hl6]at S;cases S
  .have e:i=ds.length:=by ext
   subst e;rw[Xw (Ux _)]at f;have f:=f;cases f;refine .inl ⟨stop,?_⟩;refine w1 (dz I l) (.ref l) H' (e1.trans ev1) (R2.add s F nD) ⟨l,G,rfl,.inr rfl,R2.aeU F,hD,dys,λk es hk z=>?_⟩;obtain⟨u,U,b,us,e2,g1,g2,g3,g4⟩:=R2.slot k _ hk;rw[z]at U;cases U;cases e2;rw[F]at g3;cases g3
theorem eE(hn:own.length=n)(e:fv.map (·.2)=fj)
  (hi:IO K E wi fi) (b:GO K E0 g gt) (a:TTO K E0 tc ft) (f:EO K E0 te fe):EO K E (uW own fv wi g tc te) (eO n fj fi gt ft fe):=JJ hn e hi.s b a f
def fO(F:FN)(n:Nat)(fa:FA):FE:=λρ=>(fa ρ).bind λa=>(Res.Vm (rZ a.2 a.1)).bind λb=>if b.1.length=n then(lB (F b.1)).bind λrv=>.ok (rv.pv,b.2)else .bad
theorem kA(ha:AO K E ta fa):EO K E (lj (pT K n F) [] E0 ta) (fO F n fa):=by
 intro B X O Z H ρ Q R w;refine ha B X O Z H ρ _ R (w.bind.imp λa g C vs G p t j=>?_);obtain⟨⟨ds,f⟩,q,b⟩:=g.Vm;obtain⟨y,o,R2,e⟩:=vk t j q;dsimp only at b;by_cases hn:ds.length=n
 .rw[av hn]at b;obtain⟨rv,h,b⟩:=CM (WR.bind b);rw[UT];refine⟨e.length.trans hn,y,ds,λa z l=>R2.od a l z,e,?_⟩;rw[h];exact on R2 λu v A m r i=>b u v A (p.trans (o.trans m)) r i
 .rw[ax hn]at b;exact b.elim
end
def ii(N:Nat)(g:FS):FN:=λds=>(g (ds.map (λd=>lD (.fz d))++Uz (N - ds.length) Uh)).bind λa=>match a with
 |.rt rv=>.ok rv
 |.nx _=>.ok (.fz .none)
 |_=>.bad
theorem Jd(g:∀a,B a->H a≠Uh)(l:V9 B K H vs ds):Rl K B H B (L2.start N vs) H (ds.map (λd=>lD (.fz d))++Uz (N.length - ds.length) Uh):=by
 have n:=l.length;refine⟨We.refl _,λ_ h=>h,g,λa z h=>g a h z,?_,λi x m=>?_,λi j xs r w hi=>?_⟩
 .unfold L2.start;rw[Uo,Uo,Ui,Ui,U9,U9,n]
 all_goals
  have b:∀{i:Nat} {x:PV},(ds.map (λd=>lD (PV.fz d))++Uz (N.length - ds.length) Uh)[i]?=lD (lD x)->∃d,x=.fz d/\ds[i]?=lD d:=λ{i x} h=>by
   by_cases hi:i<ds.length
   .rw[Uy (by rw[Ui];exact hi),Uu]at h
    cases q:ds[i]? with
    |none=>rw[q]at h;cases h
    |some d=>rw[q]at h;cases h;exact⟨d,rfl,rfl⟩
   .rw[U6 (by rw[Ui];ext),WB]at h;split at h<;>cases h
 .obtain⟨d,rfl,o⟩:=b m;obtain⟨v,f,p⟩:=l.get o;refine⟨v,?_,p⟩;have hi:=(Uk.mp f).1;unfold L2.start;rw[Uy (by rw[Ui];exact hi),Uu,f];rfl
 .obtain⟨d,e,_⟩:=b hi;cases e
theorem T6(F:Xn K x qual st f fd)(S:WL N ps (aB st))(hn:ps.length=n)
  (r:∀(a:Uj) (A:U4) (outer:bb Env) (s:Ur) (H:Hp) (E:XK),Wt k (A.deeper (U0 qual (aB st) s.heap.objs.size f a))->
   ∃t,PSs (gb d4 P w K mg base N qual (aB st) f a A outer s H E).nox (cC st) t/\SO K E t g):FnOk P w K mg base d4 (k+1) f fd ps (pT K n (ii N.length g)):=by
 refine F.ok S (λvs H Q E h=>h.1.trans hn.symm) (λa A outer s H vs Q E l h=>?_);obtain⟨t,i,j⟩:=r a A outer s H E l;obtain⟨v,B,ds,m,p,h⟩:=h;refine⟨t,i,j B H B _ H _ _ (Jd m p) (WR.imp (WR.bind h) λo q=>?_)⟩;cases o with
 |rt rv=>exact q
 |nx ρ=>exact λy b u e R=>q .WA u R.same .WA
 |bk ρ=>exact q.elim
 |ct ρ=>exact q.elim
end L3
namespace L3
open PySem PySem.Spec PyProof.Rows L2
theorem OpR.or(h:OpR X f r)(h':OpR X f r'):OpR X f (λx y H Q=>r x y H Q\/r' x y H Q):=by
 intro a s b H x y v u Q I g e q;rcases q with q|q
 .exact h a s b H x y v u Q I g e q
 .exact h' a s b H x y v u Q I g e q
theorem P8(I:Inv X pins σ H s)(h:X9 X.K H l xs):xs.length<=UB/\∃(a:bb Uj) (n:Nat),Vals xs a/\xs.length=a.length/\s.heap.get? l=lD {cls:=.type "list",data:=.seq a.toArray n}:=by
 rcases h with(h|⟨o,h⟩)|⟨a,n,h1,h2,h3⟩
 .exact I.afn h
 .obtain⟨_,z,a,n,r,e⟩:=I.VR l _ h;exact⟨z,a,n,r,r.length,e⟩
 .exact⟨h2,a,n,h3,h3.length,I.Zv _ _ h1⟩
def Oh(K:Ld):R2:=λx y H Q=>∃l b xs zs,x=.ref l/\y=.ref b/\X9 K H l xs/\X9 K H b zs/\xs.length+zs.length<=UB/\∀p,H p=Uh->Q (.ref p) (bM H p (.lst (xs++zs)))
theorem KQ:OpR X (Wi .Add) (Oh X.K):=by
 intro f s B H x y v u Q I j i h;obtain⟨l,b,xs,C,rfl,rfl,p,t,G,q⟩:=h;cases j;cases i;obtain⟨z,g,n,r,J,e⟩:=P8 I p;obtain⟨E,a,F,m,o,A⟩:=P8 I t;refine PySem.P.add_list e A ?_ (by rw[UG,UG];ext);have w:g.toArray++a.toArray=(g++a).toArray:=by simp
 rw[w];exact⟨.ref _,_,I.agZ (r.append m) (by rw[Uo];ext),rfl,q _ I.fresh⟩
def OC(K:Ld):R2:=λx y H Q=>∃l k xs,x=.ref l/\y=.int k/\X9 K H l xs/\ -(2^63)<=k/\k<2^63/\xs.length*k.toNat<=UB/\
 ∀p,H p=Uh->Q (.ref p) (bM H p (.lst (Uz k.toNat xs).flatten))
theorem LP:OpR X (Wi .Mult) (OC X.K):=by
 intro p s P H x y v u Q I G E h;obtain⟨l,k,xs,rfl,rfl,L,N,M,w,q⟩:=h;cases G;obtain⟨t,rfl⟩:=E;obtain⟨z,b,n,r,J,e⟩:=P8 I L;have f:b.toArray.size*k.toNat<=UB:=by rw[UG,<-J];exact w
 have o:¬b.toArray.size*k.toNat>(2^63 - 1)/8:=by
  have:(UB:Nat)<=(2^63 - 1)/8:=by decide
  ext
 have g:¬(!Vf.List.listFitsIndex k)=Um:=by rw[fitsIndex_both N M];exact UM
 have i:¬Vf.List.listTooLong (b.toArray.size*k.toNat)=Um:=by rw[Jr f];exact UM
 have j:YQ (λB A=>B++A) #[] (Uz (if b.toArray.isEmpty=Um then 0 else k.toNat) b.toArray)=(Uz k.toNat b).flatten.toArray:=by
  have O:=λm=>by have:=qO b m [];rw[Xp]at this;exact this
  rw[O];cases b with
  |nil=>simp
  |cons a R=>rw[ax (by simp)]
 refine acN (by decide) ⟨_,e,rfl⟩ (λC=>aaE C k t) noFill_list_mul F.fills_int_mul F.slot_int_rmul repeat_list F.slot_int_index.lookup
  (X8 F.slot_int_rmul (aaE s k t) F.entry_int_rmul (F.args_int_rmul_2 _ _) (int___rmul___int_list k t l b.toArray n)
   ⟨e,rfl,⟨_,e,rfl⟩,X8 F.slot_list_mul ⟨_,e,rfl⟩ F.entry_list_mul (F.args_list_mul_2 _ _) (AutoListH.list___mul___list_int_3 l b.toArray n k t g o i) ⟨e,?_⟩⟩)
 rw[j];exact⟨.ref _,_,I.agZ (r.rep k.toNat) (by rw[DC,Nat.mul_comm];exact w),rfl,q _ I.fresh⟩
section
variable{K:Ld}
def fI(g:Int->Int->Int):D->D->bg RV
 |.int i,.int j=>lD (.fz (.int (g i j)))
 |_,_=>Uh
def fB(g:Int->Int->Bool):D->D->bg RV
 |.int i,.int j=>lD (.fz (.bool (g i j)))
 |_,_=>Uh
def OW(C:Int->Int->Bool)(g:Int->Int->Int):D->D->bg RV
 |.int i,.int j=>if C i j=Um then lD (.fz (.int (g i j)))else Uh
 |_,_=>Uh
theorem Ik(h:fI g dx dy=lD rv):∃i j,dx=.int i/\dy=.int j/\rv=.fz (.int (g i j)):=by
 unfold fI at h;split at h
 .cases h;exact⟨_,_,rfl,rfl,rfl⟩
 .cases h
theorem NM:qD K (AX λi j=>.int (g i j)) (fI g):=by intro O H x y dx f rv Q n b a e q;obtain⟨i,j,rfl,rfl,rfl⟩:=Ik e;cases b;cases a;exact⟨i,j,rfl,rfl,q.at (.int _)⟩
theorem Jh:qD K (AX λi j=>.bl (g i j)) (fB g):=by
 intro O H x y dx f rv Q n b a e q;unfold fB at e;split at e
 .cases e;cases b;cases a;exact⟨_,_,rfl,rfl,q.at (.bl _)⟩
 .cases e
theorem ve(h:∀i j,C i j=Um->C' i j):qD K (rI C' λi j=>.int (g i j)) (OW C g):=by
 intro O H x y dx l rv Q n b a e q;unfold OW at e;split at e
 .split at e
  .rename_i f;cases e;cases b;cases a;exact⟨_,_,rfl,rfl,h _ _ f,q.at (.int _)⟩
  .cases e
 .cases e
theorem EF(h:DX O K H x (.list ds)):∃a xs,x=.ref a/\X9 K H a xs/\V9 O K H xs ds:=h
theorem IG(h:DX O K H x (.tuple ds)):∃a xs,x=.ref a/\Y5 O K H a xs/\V9 O K H xs ds:=IH h rfl
def NH(K:Ld):R2:=λx y H Q=>AX (λi j=>.int (i+j)) x y H Q\/Oh K x y H Q\/N3 K x y H Q
theorem pc:OpR X (Wi .Add) (NH X.K):=OpR.or OX (OpR.or KQ Ml)
def d7:D->D->bg RV
 |.int i,.int j=>lD (.fz (.int (i+j)))
 |.list xs,.list ys=>if xs.length+ys.length<=1000000 then lD (.ow (xs++ys))else Uh
 |.tuple xs,.tuple ys=>if xs≠[]/\xs.length+ys.length<=1000000 then lD (.fz (.tuple (xs++ys)))else Uh
 |_,_=>Uh
theorem DD(h:n<=1000000):n<=UB:=Va h (by decide)
theorem V9.ne(h:V9 O K H vs ds):vs=[]↔ds=[]:=by cases h<;>simp
theorem pd:qD K (NH K) d7:=by
 intro O H x y dx r rv Q n m l e q;unfold d7 at e;split at e
 .cases e;cases m;cases l;exact .inl ⟨_,_,rfl,rfl,q.at (.int _)⟩
 .split at e
  .rename_i h;cases e;obtain⟨a,xs,rfl,i,f⟩:=EF m;obtain⟨b,j,rfl,o,g⟩:=EF l;exact .inr (.inl ⟨a,b,xs,j,rfl,rfl,i,o,DD (by rw[f.length,g.length];exact h),Fin.new (f.append g) q⟩)
  .cases e
 .split at e
  .rename_i h;cases e;obtain⟨a,xs,rfl,i,f⟩:=IG m;obtain⟨b,j,rfl,o,g⟩:=IG l;refine .inr (.inr ⟨a,b,xs,j,rfl,rfl,i.1,o.1,λz=>h.1 (f.ne.mp z),DD (by rw[f.length,g.length];exact h.2),λz=>?_,λ_=>Fin.adA (f.append g) n q⟩);have p:=g.ne.mp z;subst p;rw[UT]at q;exact q.at (.tup i f)
  .cases e
 .cases e
def J1(K:Ld):R2:=λx y H Q=>rI aeK (λi j=>.int (i*j)) x y H Q\/OC K x y H Q
theorem LL:OpR X (Wi .Mult) (J1 X.K):=OpR.or PH LP
def iJ(i:Int):Bool:=decide (-(2^64)<i/\i<2^64)
theorem tF(h:iJ i=Um): -(2^64)<i/\i<2^64:=a4 h
def A5:D->D->bg RV
 |.int i,.int j=>if(iJ i||iJ j)=Um then lD (.fz (.int (i*j)))else Uh
 |.list xs,.int k=>if xs.length*k.toNat<=1000000/\ -(2^63)<=k/\k<2^63 then lD (.ow (Uz k.toNat xs).flatten)else Uh
 |_,_=>Uh
theorem Lm:qD K (J1 K) A5:=by
 intro O H x y dx j rv Q n g f e q;unfold A5 at e;split at e
 .split at e
  .rename_i b
   cases e;cases g;cases f;refine .inl ⟨_,_,rfl,rfl,?_,q.at (.int _)⟩;rcases(X6 _ _).mp b with z|z
   .exact .inl (tF z)
   .exact .inr (tF z)
  .cases e
 .split at e
  .rename_i b;cases e;cases f;obtain⟨a,xs,rfl,i,h⟩:=EF g;exact .inr ⟨a,_,xs,rfl,rfl,i,b.2.1,b.2.2,DD (by rw[h.length];exact b.1),Fin.new (h.flat _) q⟩
  .cases e
 .cases e
def vF:=fI λi j=>i - j
theorem M6:qD K (AX λi j=>.int (i - j)) vF:=NM
def Q7(_ j:Int):Bool:=decide (0<j)
def tU:=OW Q7 λi j=>i % j
theorem Ny:qD K (rI (λ_ j=>0<j) λi j=>.int (i % j)) tU:=ve λi j h=>a4 h
def Q8(_ j:Int):Bool:=decide (0<j/\j<2^128)
def EZ:=OW Q8 λi j=>i/j
theorem KY:qD K (rI (λ_ j=>0<j/\j.natAbs.log2<9000) λi j=>.int (i/j)) EZ:=ve λi j h=>by
 have a:=a4 h;refine⟨a.1,?_⟩;have b:j.natAbs<2^128:=by have:=a.2;ext
 have e:=(Nat.log2_lt (by ext)).mpr b;ext
def AE(i j:Int):Bool:=decide (0<=j/\j<=1000000/\i.natAbs<2^64)
theorem DZ(i j:Int)(h:AE i j=Um):JK i j:=by unfold AE at h;exact(show 0<=j/\j<=1000000/\i.natAbs<2^64 from a4 h)
def K7:=OW AE λi j=>i^j.toNat
theorem LC:qD K (rI JK λi j=>.int (i^j.toNat)) K7:=ve DZ
def QK:=OW AE λi j=>i*2^j.toNat
theorem CJ:qD K (rI JK λi j=>.int (i*2^j.toNat)) QK:=ve DZ
def Tr(_ j:Int):Bool:=decide (0<=j)
def LG:=OW Tr λi j=>i/2^j.toNat
theorem Ea:qD K (rI (λ_ j=>0<=j) λi j=>.int (i/2^j.toNat)) LG:=ve λi j h=>a4 h
def Dx:=fI λi j=>Vf.bitAnd i j
theorem Dp:qD K (AX λi j=>.int (Vf.bitAnd i j)) Dx:=NM
def Ro:=fB λi j=>decide (i<j)
def MY:=fB λi j=>decide (j<i)
def SD:=fB λi j=>decide (j<=i)
theorem HB:qD K (AX λi j=>.bl (decide (i<j))) Ro:=Jh
theorem Bp:qD K (AX λi j=>.bl (decide (j<i))) MY:=Jh
theorem HA:qD K (AX λi j=>.bl (decide (j<=i))) SD:=Jh
def ny(d:D):Bool:=d.canLay0&&decide (d.depth<=64)
def d6(d e:D):bg RV:=if(ny d&&e.canLay0)=Um then lD (.fz (.bool (Up.eqv d e)))else Uh
def uz(d e:D):bg RV:=if(ny d&&e.canLay0)=Um then lD (.fz (.bool (!Up.eqv d e)))else Uh
theorem oB:qD K (MD K Uw) d6:=by
 intro O H x y dx g rv Q n f b e q;unfold d6 at e;split at e
 .rename_i a;cases e;unfold ny at a;simp only[UW,decide_eq_true_eq]at a;exact⟨dx,g,f.plain,b.plain,a.1.1,a.2,a.1.2,q.at (.bl _)⟩
 .cases e
theorem Cq:qD K (MD K Um) uz:=by
 intro O H x y dx g rv Q n f b e q;unfold uz at e;split at e
 .rename_i a;cases e;unfold ny at a;simp only[UW,decide_eq_true_eq]at a;exact⟨dx,g,f.plain,b.plain,a.1.1,a.2,a.1.2,q.at (.bl _)⟩
 .cases e
def vx:D->D->bg RV
 |.none,.none=>lD (.fz (.bool Um))
 |_,.none=>lD (.fz (.bool Uw))
 |_,_=>Uh
def um:D->D->bg RV
 |.none,.none=>lD (.fz (.bool Uw))
 |_,.none=>lD (.fz (.bool Um))
 |_,_=>Uh
theorem Jz(h:DX O K H x d)(hd:d≠.none):x≠.WA:=by
 cases d with
 |none=>exact a5 rfl hd
 |list ds=>obtain⟨a,xs,rfl,_⟩:=EF h;simp
 |tuple ds=>obtain⟨a,xs,rfl,_⟩:=IG h;simp
 |bool b=>cases h;simp
 |int b=>cases h;simp
 |str b=>cases h;simp
 |dict b=>cases h
theorem Lk:qD K (λx y H Q=>y=.WA/\Q (.bl (decide (x=.WA))) H) vx:=by
 intro O H x y dx g rv Q n b a e q;unfold vx at e;split at e
 .cases e;cases b;cases a;exact⟨rfl,q.at (.bl _)⟩
 .rename_i f;cases e;cases a;refine⟨rfl,?_⟩;rw[aP (Jz b f)];exact q.at (.bl _)
 .cases e
theorem EE:qD K (λx y H Q=>y=.WA/\Q (.bl (!decide (x=.WA))) H) um:=by
 intro O H x y dx g rv Q n b a e q;unfold um at e;split at e
 .cases e;cases b;cases a;exact⟨rfl,q.at (.bl _)⟩
 .rename_i f;cases e;cases a;refine⟨rfl,?_⟩;rw[aP (Jz b f)];exact q.at (.bl _)
 .cases e
def MA(K:Ld)(neg:Bool):R2:=λx y H Q=>∃d ds,L2.DV K H x d/\(L2.DV K H y (.list ds)\/L2.DV K H y (.tuple ds))/\d.canLay0=Um/\Up.canLayAll0 ds=Um/\d.depth<=64/\Q (.bl (if neg then !(ds.any λe=>Up.eqv e d)else ds.any λe=>Up.eqv e d)) H
theorem xu(p:X.A.units+65<cLine):OpR X (Wv .In) (MA X.K Uw):=by
 intro g s o H x y v u Q I l e h;obtain⟨d,ds,n,a,j,i,m,q⟩:=h;obtain⟨r,f⟩:=n.reads I l;have hm:min (Up.depthAll ds) d.depth<=64:=Va (aaD _ _) m;rcases a with a|a
 .obtain⟨bs,b⟩:=a.reads I e;exact aiF b f i j (by ext) ⟨.bl _,H,I,rfl,q⟩
 .obtain⟨bs,b⟩:=a.reads I e;exact aiG b f i j (by ext) ⟨.bl _,H,I,rfl,q⟩
theorem Mv(p:X.A.units+65<cLine):OpR X (Wv .NotIn) (MA X.K Um):=by
 intro g s o H x y v u Q I l e h;obtain⟨d,ds,n,a,j,i,m,q⟩:=h;obtain⟨r,f⟩:=n.reads I l;have hm:min (Up.depthAll ds) d.depth<=64:=Va (aaD _ _) m;rcases a with a|a
 .obtain⟨bs,b⟩:=a.reads I e;exact aiH b f i j (by ext) ⟨.bl _,H,I,rfl,q⟩
 .obtain⟨bs,b⟩:=a.reads I e;exact aiI b f i j (by ext) ⟨.bl _,H,I,rfl,q⟩
def KI(d e:D):bg RV:=match fY e with
 |some ds=>if(ny d&&Up.canLayAll0 ds)=Um then lD (.fz (.bool (ds.any λe=>Up.eqv e d)))else Uh
 |none=>Uh
def BS(d e:D):bg RV:=match fY e with
 |some ds=>if(ny d&&Up.canLayAll0 ds)=Um then lD (.fz (.bool (!ds.any λe=>Up.eqv e d)))else Uh
 |none=>Uh
theorem IS(a:DX O K H y e)(h:fY e=lD ds):L2.DV K H y (.list ds)\/L2.DV K H y (.tuple ds):=by
 unfold fY at h;split at h
 .cases h;exact .inr a.plain
 .cases h;exact .inl a.plain
 .cases h
theorem wZ:qD K (MA K Uw) KI:=by
 intro O H x y dx h rv Q n f b e q;unfold KI at e;split at e
 .rename_i ds g
  split at e
  .rename_i a;cases e;unfold ny at a;simp only[UW,decide_eq_true_eq]at a;exact⟨dx,ds,f.plain,IS b g,a.1.1,a.2,a.1.2,q.at (.bl _)⟩
  .cases e
 .cases e
theorem Lj:qD K (MA K Um) BS:=by
 intro O H x y dx h rv Q n f b e q;unfold BS at e;split at e
 .rename_i ds g
  split at e
  .rename_i a;cases e;unfold ny at a;simp only[UW,decide_eq_true_eq]at a;exact⟨dx,ds,f.plain,IS b g,a.1.1,a.2,a.1.2,q.at (.bl _)⟩
  .cases e
 .cases e
def bA(d e:D):bg RV:=match fY d,e with
 |some ds,.int i=>(nc ds i).map .fz
 |_,_=>Uh
theorem IU(h:V9 O K H xs ds)(e:nc ds i=lD d):∃v,nc xs i=lD v/\DV O K H v d:=by
 unfold nc at e⊢;rw[h.length];cases q:KG ds.length i with
 |none=>rw[q]at e;cases e
 |some j=>rw[q]at e;exact h.get e
theorem cJ:qD K (SR K) bA:=by
 intro O H x y dx o rv Q n l m e q;unfold bA at e;split at e
 .rename_i ds i b
  cases m;cases qa:nc ds i with
  |none=>rw[qa]at e;cases e
  |some d=>
   rw[qa]at e;cases e;unfold fY at b;split at b
   .cases b;obtain⟨a,xs,rfl,h,g⟩:=IG l;obtain⟨v,f,j⟩:=IU g qa;exact .inr (.inl ⟨a,xs,i,v,rfl,rfl,h.1,f,q.at j⟩)
   .cases b;obtain⟨a,xs,rfl,h,g⟩:=EF l;obtain⟨v,f,j⟩:=IU g qa;exact .inl ⟨a,xs,i,v,rfl,rfl,h.sq,f,q.at j⟩
   .cases b
 .cases e
def FQ(xs:bb D)(lo hi:bg Int):bb D:=(xs.drop (HT.sIx xs.length 0 lo)).take (HT.sIx xs.length xs.length hi - HT.sIx xs.length 0 lo)
theorem Hw{lo hi:bg Int}(h:V9 O K H xs ds):V9 O K H (E8 xs lo hi) (FQ ds lo hi):=by unfold E8 FQ;rw[h.length];exact(h.drop _).take _
def AG(n:Nat)(lo hi:bg Int):Bool:=decide (HT.sIx n 0 lo=0/\HT.sIx n n hi=n)
def Sl(K:Ld):V->bg Int->bg Int->Hp->VK->Prop:=λx lo hi H Q=>RI K x lo hi H Q\/Rs K x lo hi H Q
theorem Hu:ST X (Sl X.K):=by
 intro a s b H x v f e lo hi g Q I i l pl j h;rcases h with h|h
 .exact Nm a s b H x v f e lo hi g Q I i l pl j h
 .exact Q5 a s b H x v f e lo hi g Q I i l pl j h
def SQ:D->bg Int->bg Int->bg RV
 |.list ds,lo,hi=>lD (.ow (FQ ds lo hi))
 |.tuple ds,lo,hi=>if AG ds.length lo hi=Um then Uh else lD (.fz (.tuple (FQ ds lo hi)))
 |_,_,_=>Uh
theorem Dq:Tx K (Sl K) SQ:=by
 intro O H x lo hi dx rv Q n g e q;unfold SQ at e;split at e
 .cases e;obtain⟨a,xs,rfl,f,b⟩:=EF g;exact .inl ⟨a,xs,rfl,f.sq,Fin.new (Hw b) q⟩
 .split at e
  .cases e
  .rename_i h;cases e;obtain⟨a,xs,rfl,f,b⟩:=IG g;refine .inr ⟨a,xs,rfl,f.1,λz=>h ?_,Fin.adA (Hw b) n q⟩;unfold AG;rw[<-b.length];exact aE z
 .cases e
def ra:D->bg RV
 |.int i=>lD (.fz (.int (-i)))
 |_=>Uh
theorem sI:TK K (rU λi=>.int (-i)) ra:=by
 intro O H x dx rv Q n a e q;unfold ra at e;split at e
 .cases e;cases a;exact⟨_,rfl,q.at (.int _)⟩
 .cases e
def db:bb D->bg RV
 |[d]=>(match fY d with
  |some ds=>lD (.fz (.int ds.length))
  |none=>Uh)
 |_=>Uh
theorem gA:Ks K (λxs H Q=>∃x n,xs=[x]/\RL K x H n/\Q (.int n) H) db:=by
 intro O H xs ds rv Q n h e q;unfold db at e;split at e
 .split at e
  .rename_i i f
   cases e;cases h with
   |cons b g=>
    cases g;unfold fY at f;split at f
    .cases f;obtain⟨a,xs,rfl,b,g⟩:=IG b;exact⟨_,xs.length,rfl,.inr ⟨xs,b.1,rfl⟩,by rw[g.length];exact q.at (.int _)⟩
    .cases f;obtain⟨a,xs,rfl,b,g⟩:=EF b;exact⟨_,xs.length,rfl,.inl ⟨xs,b.sq,rfl⟩,by rw[g.length];exact q.at (.int _)⟩
    .cases f
  .cases e
 .cases e
def fF:bb D->bg RV
 |[.tuple ds]=>lD (.fz (.tuple ds))
 |[.list ds]=>lD (.fz (.tuple ds))
 |_=>Uh
theorem eF:Ks K (λxs H Q=>∃p ys,xs=[.ref p]/\((YL K H p ys/\∀l,H l=Uh->Q (.ref l) (bM H l (.tup ys)))\/(YA K H p ys/\Q (.ref p) H))) fF:=by
 intro O H xs ds rv Q n g e q;unfold fF at e;split at e
 .cases e
  cases g with
  |cons b f=>cases f;obtain⟨a,xs,rfl,b,f⟩:=IG b;exact⟨a,xs,rfl,.inr ⟨b.1,q.at (.tup b f)⟩⟩
 .cases e
  cases g with
  |cons b f=>cases f;obtain⟨a,xs,rfl,b,f⟩:=EF b;exact⟨a,xs,rfl,.inl ⟨b.sq,Fin.adA f n q⟩⟩
 .cases e
def t9:bb D->bg RV
 |[d]=>(fY d).map .ow
 |_=>Uh
theorem L7:Ks K (λxs H Q=>∃p ys,xs=[.ref p]/\(YL K H p ys\/YA K H p ys)/\∀l,H l=Uh->Q (.ref l) (bM H l (.lst ys))) t9:=by
 intro O H xs ds rv Q n g e q;unfold t9 at e;split at e
 .rename_i d
  cases g with
  |cons b f=>
   cases f;cases hs:fY d with
   |none=>rw[hs]at e;cases e
   |some h=>
    rw[hs]at e;cases e;unfold fY at hs;split at hs
    .cases hs;obtain⟨a,xs,rfl,b,f⟩:=IG b;exact⟨a,xs,rfl,.inr b.1,Fin.new f q⟩
    .cases hs;obtain⟨a,xs,rfl,b,f⟩:=EF b;exact⟨a,xs,rfl,.inl b.sq,Fin.new f q⟩
    .cases hs
 .cases e
def Dy:bb D->bg RV
 |[.int i,.int j]=>lD (.fz (.int (if j>i then j else i)))
 |_=>Uh
theorem Np:Ks K (λxs H Q=>∃i j,xs=[.int i,.int j]/\Q (.int (if j>i then j else i)) H) Dy:=by
 intro O H xs ds rv Q n b e q;unfold Dy at e;split at e
 .cases e
  cases b with
  |cons g a=>
   cases a with
   |cons a f=>cases f;cases g;cases a;exact⟨_,_,rfl,q.at (.int _)⟩
 .cases e
end
end L3
namespace PySem
open Sem (wp)
open AutoSeq1 (wpAny_loadPart')
open Builtin Builtin.Str
section
variable{prog:US}{w:Vb}{A:U4}{E:Uj->Ur->Prop}{s:Ur}
theorem pK(a:s.heap.IsTupleIter it t i)(j:s.heap.IsTuple t items)(h:items[i]?=lD x)
  (m:∀h',h'.IsTupleIter it t (i+1)->Heap.SameBut it s.heap h'->Q x {s with heap:=h'}):wpAny (model prog w) A (Vf.SmallTypes.nextOf (.ref it)) Q E s:=by
 obtain⟨o,e,l,b⟩:=id a;obtain⟨n,f,_,p,g⟩:=j;unfold Vf.SmallTypes.nextOf;refine Ug (Wg a.typeIs F.slot_tuple_iterator_next
  (WJ F.slot_tuple_iterator_next a.typeIs F.entry_tuple_iterator_next ?_ (F.args_tuple_iterator_next_1 _)))
 show wpAny _ _ (field (.ref it) 0>>=_) _ _ s;refine Ug (U7 e b rfl ?_);show wpAny _ _ (if(Uj.ref t==Uj.none)=Um then _ else _) _ _ s;rw[ax (show¬((Uj.ref t==Uj.none)=Um)from UM)];refine Ug (U7 e b rfl ?_);refine Ug (V2 f g ?_);simp only[VO,h];refine Ug (VS e b (by simp) (Ut ⟨x,rfl,Ut (m _ ?_ (Heap.SameBut.update ..))⟩));exact⟨_,cv _ e (dt (dk b _)),(Obj.cls_mapFields ..).trans l,by rw[dk b];simp[rawInt]⟩
theorem pX(j:A.handled=Uh)(a:s.heap.IsTupleIter it t i)(m:s.heap.IsTuple t items)(l:items[i]?=Uh)
  (n:∀h' e,Heap.ExtBut it s.heap h'->(∃o,h'.get? e=lD o/\o.cls=.type "StopIteration")->E (.ref e) {s with heap:=h'}):wpAny (model prog w) A (Vf.SmallTypes.nextOf (.ref it)) Q E s:=by
 obtain⟨o,f,r,h⟩:=id a;obtain⟨p,b,_,q,g⟩:=m;unfold Vf.SmallTypes.nextOf;refine Ug (Wg a.typeIs F.slot_tuple_iterator_next
  (WJ F.slot_tuple_iterator_next a.typeIs F.entry_tuple_iterator_next ?_ (F.args_tuple_iterator_next_1 _)))
 show wpAny _ _ (field (.ref it) 0>>=_) _ _ s;refine Ug (U7 f h rfl ?_);show wpAny _ _ (if(Uj.ref t==Uj.none)=Um then _ else _) _ _ s;rw[ax (show¬((Uj.ref t==Uj.none)=Um)from UM)];refine Ug (U7 f h rfl ?_);refine Ug (V2 b g ?_);simp only[VO,l];refine Ug (YB (Ug (VS f h (by simp) ?_)));refine Ug ?_;simp only[newExc,newTuple];refine Ug (VF ?_ (by size_fits));refine Ug (abx (by first|rfl|(simp only[firstArgMember];rfl)) ?_);refine VF ?_ (by size_fits);simp only[raiseNew];refine Ug (wpAny_handled ?_)
 first|rw[show A.in1.handled=Uh from j]|rw[j]
 refine Ug (Ut (wpAny_throw ?_));exact n _ _ (((Heap.SameBut.update ..).extBut.push _).push _) ⟨_,cj _ rfl,rfl⟩
end
end PySem
namespace L3
open PySem PySem.Spec PyProof.Rows L2
theorem Na(I:Inv X pins σ H s)(l:YA X.K H a xs)(j:YA X.K H a ys):xs=ys:=by
 obtain⟨g,i,⟨o,m,_,n,p⟩,_⟩:=I.tuple l;obtain⟨b,h,⟨r,e,_,t,f⟩,_⟩:=I.tuple j;rw[m]at e;cases e;rw[p]at f;have:g=b:=by
  have q:g.toArray=b.toArray:=by injection f
  simpa using q
 subst this;exact i.inj h
theorem Fr{bs:bb Bool}(r:Vals (bs.map V.bl) Vh){i:Nat}(h:Vh[i]?=lD v):∃b,bs[i]?=lD b/\v=.bool b:=by
 have e:=r.length;rw[Ui]at e;have hi:i<bs.length:=by rw[e];exact(Uk.mp h).1
 obtain⟨u,a,f⟩:=r.get (by rw[Uu,Us hi];rfl);rw[h]at a;cases a;exact⟨bs[i],Us hi,f⟩
theorem A8(bs:bb Bool):((Ul bs.length).all λi=>(bs[i]?).getD Um)=bs.all id:=by
 rw[aej,WC,WC];constructor
 .intro h b a;obtain⟨i,hi,e⟩:=acO.mp a;have:=h i (Vr.mpr hi);rw[Us hi,e]at this;exact this
 .intro h i hi;have hi:=Vr.mp hi;rw[Us hi];exact h _ (W5 hi)
section
variable{X:Cx}
theorem oQ(w:X.calm=Um):Xd X (.builtin "all") (λxs H Q=>∃(p:Uq) (bs:bb Bool),xs=[.ref p]/\YL X.K H p (bs.map V.bl)/\Q (.bl (bs.all id)) H):=by
 intro f s B H xs C Q I r h;obtain⟨l,bs,rfl,n,q⟩:=h;obtain⟨u,rfl,m⟩:=k8 r;cases m;obtain⟨j,rv,pl,G⟩:=I.list n;have a:=rv.length;rw[Ui]at a;have z:l<s.heap.objs.size:=by obtain⟨_,_,e,_⟩:=pl;exact bP e
 refine call_all_walk (Ym pl.isList ?_);refine⟨s.heap.objs.size,[s.heap.objs.size,l],[s.heap.objs.size],j.toArray.size,_,_,λi=>(bs[i]?).getD Um,rfl,Walks.list (A:=X.A.in1) (I.ok.hd w) _ l (UX z) j.toArray,
  ⟨⟨_,cj _ rfl,rfl,rfl⟩,pl.isList.push _⟩,λi v F L M y g=>?_,λJ E t=>?_⟩
 .obtain⟨b,e,rfl⟩:=Fr rv (by simpa using y);simp only[e,aai]at g;exact Ww g
 .rw[UG,<-a,A8];refine⟨.bl _,H,I.kept λb o e=>t b o (λhm=>?_) (br _ e),rfl,q⟩;rw[UR.mp hm]at e;exact VH _ (bP e)
end
section
variable{K:Ld}
def rV:bb D->bg (bb Bool)
 |[]=>lD []
 |.bool b::r=>(rV r).map (b::·)
 |_=>Uh
theorem Du:∀{xs:bb V} {ds:bb D} {bs:bb Bool},V9 O K H xs ds->rV ds=lD bs->xs=bs.map V.bl
 |_,_,_,.nil,e=>by cases e;rfl
 |_,_,bs,.cons (ds:=r) h t,e=>by
  cases h with
  |bl b=>
   have a:(rV r).map (b::·)=lD bs:=e;cases q:rV r with
   |none=>rw[q]at a;cases a
   |some f=>rw[q]at a;cases a;rw[Du t q];rfl
  |_=>cases e
def zx:bb D->bg RV
 |[.list ds]=>(rV ds).map λbs=>.fz (.bool (bs.all id))
 |_=>Uh
theorem yl:Ks K (λxs H Q=>∃(p:Uq) (bs:bb Bool),xs=[.ref p]/\YL K H p (bs.map V.bl)/\Q (.bl (bs.all id)) H) zx:=by
 intro O H xs ds rv Q n g e q;unfold zx at e;split at e
 .rename_i h
  cases qs:rV h with
  |none=>rw[qs]at e;cases e
  |some bs=>
   rw[qs]at e;cases e;cases g with
   |cons f b=>cases b;obtain⟨a,i,rfl,f,b⟩:=EF f;have:=Du b qs;subst this;exact⟨a,bs,rfl,f.sq,q.at (.bl _)⟩
 .cases e
def lz:bb D->bg (bb Int)
 |[]=>lD []
 |.int b::r=>(lz r).map (b::·)
 |_=>Uh
theorem mr:∀{xs:bb V} {ds:bb D} {bs:bb Int},V9 O K H xs ds->lz ds=lD bs->xs=bs.map V.int
 |_,_,_,.nil,e=>by cases e;rfl
 |_,_,bs,.cons (ds:=r) h t,e=>by
  cases h with
  |int b=>
   have a:(lz r).map (b::·)=lD bs:=e;cases q:lz r with
   |none=>rw[q]at a;cases a
   |some f=>rw[q]at a;cases a;rw[mr t q];rfl
  |_=>cases e
theorem jw(ns:bb Int):lz (ns.map .int)=lD ns:=by
 induction ns with
 |nil=>rfl
 |cons n r a=>show(lz (r.map .int)).map (n::·)=_;rw[a];rfl
def B6(x:Int):bb Int->bb Int
 |[]=>[x]
 |y::r=>if x<=y then x::y::r else y::B6 x r
def l8:bb Int->bb Int
 |[]=>[]
 |x::r=>B6 x (l8 r)
theorem qH(x:Int):∀l,(B6 x l).Perm (x::l)
 |[]=>aar _
 |y::r=>by
  unfold B6;split
  .exact aar _
  .exact((qH x r).cons y).trans (al5 x y r)
theorem fQ:∀l,(l8 l).Perm l
 |[]=>aar _
 |x::r=>(qH x _).trans ((fQ r).cons x)
theorem rR(x:Int):∀l:bb Int,l.Pairwise (·<=·)->(B6 x l).Pairwise (·<=·)
 |[],_=>by simp[B6]
 |y::r,h=>by
  unfold B6;obtain⟨f,g⟩:=Yh.mp h;split
  .rename_i a
   refine Yh.mpr ⟨λz b=>?_,h⟩;rcases U2.mp b with e|e
   .rw[e];exact a
   .have:=f z e;ext
  .rename_i a
   refine Yh.mpr ⟨λz b=>?_,rR x r g⟩;rcases U2.mp ((qH x r).mem_iff.mp b)with e|e
   .rw[e];ext
   .exact f z e
theorem e9:∀l,(l8 l).Pairwise (·<=·)
 |[]=>YU
 |x::r=>rR x _ (e9 r)
theorem mB{l m:bb Int}(e:l.Perm m)(f:l.Pairwise (·<=·))(hm:m.Pairwise (·<=·)):l=m:=e.eq_of_pairwise (λa b _ _ h g=>aeL h g) f hm
def xK:bb D->bg RV
 |[.list ds]=>(match lz ds with
  |some a=>if a.length<64 then lD (.ow ((l8 a).map .int))else Uh
  |none=>Uh)
 |_=>Uh
theorem uj(ns:bb Int):V9 O K H (ns.map V.int) (ns.map .int):=by
 induction ns with
 |nil=>exact .nil
 |cons n r a=>exact .cons (.int n) a
theorem wE:Ks K (λxs H Q=>∃(p:Uq) (ns:bb Int),xs=[.ref p]/\YL K H p (ns.map V.int)/\ns.length<64/\∀(l:Uq) (b:bb Int),H l=Uh->b.Perm ns->b.Pairwise (·<=·)->Q (.ref l) (bM H l (.lst (b.map V.int)))) xK:=by
 intro O H xs ds rv Q n f e q;unfold xK at e;split at e
 .rename_i m
  cases qs:lz m with
  |none=>rw[qs]at e;cases e
  |some ns=>
   rw[qs]at e;dsimp only at e;split at e
   .rename_i g
    cases e;cases f with
    |cons i h=>cases h;obtain⟨a,r,rfl,i,h⟩:=EF i;have:=mr h qs;subst this;refine⟨a,ns,rfl,i.sq,g,λl b g f j=>?_⟩;have o:=mB (f.trans (fQ ns).symm) j (e9 ns);subst o;exact Fin.new (uj _) q l g
   .cases e
 .cases e
end
def TQ(K:Ld)(H:Hp)(x:V)(t:String):Prop:=match x with
 |.WA=>t= "NoneType"
 |.bl _=>t= "bool"
 |.int _=>t= "int"
 |.str _=>t= "str"
 |.ref a=>(t= "list"/\∃xs,YL K H a xs)\/(t= "tuple"/\∃xs,YA K H a xs)
 |_=>False
def N9(K:Ld):bb V->Hp->VK->Prop:=λxs H Q=>∃x n t b,xs=[x,.ty n]/\TQ K H x t/\adw K (.type t) (.type n)=lD b/\Q (.bl b) H
theorem rj{X:Cx}:Xd X (.builtin "isinstance") (N9 X.K):=by
 intro j s v H xs C Q I r h;obtain⟨x,n,t,b,rfl,ty,e,q⟩:=h;obtain⟨u,w,rfl,g,A⟩:=D8 r;obtain rfl:w=Uj.type n:=A;have f:∀l,EP X j v Q (.bool b) {s with toks:=l}:=λl=>⟨.bl b,H,I.tok l,rfl,q⟩;cases x with
 |WA=>cases(show t= "NoneType" from ty);cases(show u=Uj.none from g);exact Xe PySem.W.kitx_none I.Zv True.intro e (λz=>nomatch z) f
 |bl y=>cases(show t= "bool" from ty);cases(show u=Uj.bool y from g);exact Xe PySem.W.kitx_bool I.Zv True.intro e (λz=>nomatch z) f
 |int i=>cases(show t= "int" from ty);obtain⟨t,q⟩:=(show∃t,u=Uj.int i t from g);cases q;exact Xe PySem.W.kitx_int I.Zv True.intro e (λz=>nomatch z) f
 |str y=>cases(show t= "str" from ty);obtain⟨t,q⟩:=(show∃t,u=Uj.str y t from g);cases q;exact Xe PySem.W.kitx_str I.Zv True.intro e (λz=>nomatch z) f
 |ref a=>
  cases(show u=Uj.ref a from g);rcases ty with⟨rfl,xs,h⟩|⟨rfl,xs,h⟩
  .obtain⟨B,r,⟨o,k,p,m,_⟩,_⟩:=I.list h;exact Xe PySem.W.kitx_list I.Zv ⟨_,p,m⟩ e (λz=>nomatch z) f
  .obtain⟨B,r,⟨o,p,m,_⟩,_⟩:=I.tuple h;exact Xe PySem.W.kitx_tuple I.Zv ⟨o,p,m⟩ e (λz=>nomatch z) f
 |_=>exact(show False from ty).elim
section
variable{K:Ld}{E:XK}{B O O':cz}{H0 H H':Hp}{σ:L2.St}{ρ ρ':bw}{v:V}
def Hl:D->bg String
 |.none=>lD "NoneType"
 |.bool _=>lD "bool"
 |.int _=>lD "int"
 |.str _=>lD "str"
 |.list _=>lD "list"
 |.tuple _=>lD "tuple"
 |.dict _=>Uh
def MR(n t:String):Bool:=n==t||(n== "int"&&t== "bool")
theorem My{n t:String}(hn:n= "int"\/n= "bool"\/n= "str"\/n= "list"\/n= "tuple"){d:D}(a:Hl d=lD t):adw K (.type t) (.type n)=lD (MR n t):=by cases d<;>(cases a;try (rcases hn with rfl|rfl|rfl|rfl|rfl<;>rfl))
theorem RO{x:V}{d:D}{t:String}(h:DX O K H x d)(e:Hl d=lD t):TQ K H x t:=by
 cases d with
 |none=>cases e;cases h;rfl
 |bool b=>cases e;cases h;rfl
 |int b=>cases e;cases h;rfl
 |str b=>cases e;cases h;rfl
 |dict b=>cases e
 |list ds=>cases e;obtain⟨a,xs,rfl,f,_⟩:=EF h;exact .inl ⟨rfl,xs,f.sq⟩
 |tuple ds=>cases e;obtain⟨a,xs,rfl,f,_⟩:=IG h;exact .inr ⟨rfl,xs,f.1⟩
def vB(n:String)(fa:FE):FE:=λρ=>(fa ρ).bind λa=>(Res.Vm (xl a.2 a.1)).bind λd=>(Res.Vm (Hl d)).bind λt=>.ok (.fz (.bool (MR n t)),a.2)
theorem B8{n:String}{e:TE}{fa:FE}(hn:n= "int"\/n= "bool"\/n= "str"\/n= "list"\/n= "tuple")(ha:EO K E e fa):EO K E (KF (N9 K) (iH e (iH (tC (.ty n)) ng))) (vB n fa):=by intro B H0 O σ H ρ Q R w;refine ha B H0 O σ H ρ _ R (w.bind.imp λa b j x l i g h=>?_);obtain⟨d,q,b⟩:=b.Vm;obtain⟨t,f,b⟩:=b.Vm;exact⟨x,n,t,MR n t,rfl,RO (nQ g h q) f,My hn f,b j _ l i g (.bl _)⟩
end
theorem ES{P:US}{w:Vb}{K:Ld}{mg l:Str->bg Uj}{k:Nat}{fa a:Uq}{fd:Vz}{x:Str}{F:FN}{b:Ur}{vs:bb Uj}{ns:bb Int}
  (p:K.In b.heap) (f:b.heap.Ns UK mg) (B:b.heap.Ns builtinsNs l) (g:∀x:Str,x≠ "__name__"->l x=VD x) (i:b.heap.NoLimit) (A:b.gens= #[])
  (ha:b.heap.get? a=lD {cls:=.type "list",data:=.seq vs.toArray}) (hi:IntsAre vs ns) (m:ns.length<=UB) (y:Wt k callerA)
  (J:∀base:Heap,K.In base->base.Ns UK mg->FnOk P w K mg base d4 k fa fd [x] (pT K 1 F)) (j:∀(s:Ur) (u:Uj),Zn s fd ⟨[u],[]⟩ [(x,u)])
  (G:F [.list (ns.map .int)]=.ok (.fz (.bool Um))):
  codeAny (model P w) callerA (.call (.ref fa) ⟨[.ref a],[]⟩) (λr s'=>r=.ok (.ret (.bool Um))/\OldK b.heap s'.heap/\s'.os=b.os/\AllBare s'.gens) b:=by
 refine GC (sp:=λvs H Q E=>pT K 1 F vs H Q E\/(vs.length=1/\False)) p f B g i A ha hi m y (λbase t q=>(J base t q).imp λvs H Q E h=>?_) j (λH L C=>?_) λ_ _ _ h=>h
 .rcases h with h|h
  .exact h
  .exact h.2.elim
 .refine .inl ⟨rfl,noO,[.list (ns.map .int)],λa z=>z.elim,.cons (.lst ⟨?_,λz=>z.elim⟩ (uj ns)) .nil,?_⟩
  .rcases C with h|⟨o,Vh,n,h1,h2,h3,h4,h5,h6⟩
   .exact .inl h
   .have e:=p a o h1;rw[ha]at e;cases e;cases h4;exact .inr ⟨vs,0,h1,by rw[Ui];exact m,by simpa using h6⟩
  .rw[G];exact λv M s I=>by cases I;rfl
theorem RB{l:adi}{n k:Nat}{q:US}{i:bb Str}{N:(Str->bg Uj)->Heap->Prop}{A:Vb->Heap->Prop}{d:DefRec}{K:Params->Ld}{F:FN}{x:Str}
  (hn:l.most=lD n) (m:n<=UB) (r:d.params.defaults=[]) (C:Wt k callerA)
  (J:∀(w:Vb) (h:Heap),A w h->(K w.params).In h)
  (O:∀(w:Vb) (mg:Str->bg Uj) (fa:Uq) (h:Heap),(K w.params).In h->h.Ns UK mg->mg d.name=lD (.ref fa)->
   ∃fd:Vz,(∀(s:Ur) (u:Uj),Zn s fd ⟨[u],[]⟩ [(x,u)])/\∀base:Heap,(K w.params).In base->base.Ns UK mg->FnOk l.prog w (K w.params) mg base d4 k fa fd [x] (pT (K w.params) 1 F))
  (L:∀ns:bb Int,ns.length<=n->F [.list (ns.map .int)]=.ok (.fz (.bool Um))):
  PySem.W.WalkO q i N A l.row.toRowW d [] (λf vs=>agr f vs):=by
 refine Att.attach_call hn r λw z y mg Q fa o P U M a vs ns G Y R S H p v j e E=>?_;have B:=J w _ Y;obtain⟨fd,I,t⟩:=O w mg fa _ B G.T.g p;exact ES B G.T.g G.T.b G.T.builtins G.T.nolimit E v j (Va e m) C t I (L ns e)
theorem TZ{P:US}{w:Vb}{K:Ld}{mg:Str->bg Uj}{base:Heap}{x a:Str}{b:Ws}{f:Uq}{fd:Vz}{N ps:bb Str}{k n m:Nat}{g:FS}{h:FN}(F:Xn K x a b f fd)(S:WL N ps (aB b))(hn:ps.length=n)(hm:N.length=m)(i:h=ii m g)
  (j:∀(e:Uj) (A:U4) (outer:bb Env) (s:Ur) (H:Hp) (E:XK),Wt k (A.deeper (U0 a (aB b) s.heap.objs.size f e))->
   ∃t,PSs (gb d4 P w K mg base N a (aB b) f e A outer s H E).nox (cC b) t/\SO K E t g):FnOk P w K mg base d4 (k+1) f fd ps (pT K n h):=by
 subst i hm;exact T6 F S hn j
abbrev iz(P:US)(w:Vb)(K:Ld)(mg:Str->bg Uj)(base:Heap)(k:Nat)(x:Str)(ps:bb Str)(n:Nat)(F:FN):Prop:=z8 P w K mg base k x ps (pT K n F)
end L3
namespace L3
open PySem L2
abbrev nd(n:Nat):D:=.int (n:Int)
def bQ(ns:bb Nat):bb D:=ns.map nd
theorem gY(ns:bb Nat):(bQ ns).length=ns.length:=by unfold bQ;rw[Ui]
theorem Mu(xs a:bb Nat):bQ (xs++a)=bQ xs++bQ a:=by unfold bQ;rw[UI]
theorem sL{i:Nat}(h:(bQ ns)[i]?=lD d):∃n,ns[i]?=lD n/\d=nd n:=by
 unfold bQ at h;rw[Uu]at h;cases e:ns[i]? with
 |none=>rw[e]at h;cases h
 |some n=>rw[e]at h;exact⟨n,rfl,(UH h).symm⟩
theorem bj(a:α):Res.Vm (lD a)=.ok a:=rfl
theorem Ad(a:α):lB (Res.ok a)=.ok a:=rfl
theorem B3(i:Nat)(ρ:bw):aa i ρ=Eu ρ i ρ[i]? :=rfl
theorem HV(ρ:bw)(i:Nat)(d:D):Eu ρ i (lD (lD (.fz d)))=.ok (.fz d,ρ):=rfl
theorem Jn(ρ:bw)(i:Nat)(ds:bb D):Eu ρ i (lD (lD (.ow ds)))=.ok (.pl i,ρ):=rfl
theorem qh(ds:bb D):Js (lD (lD (.ow ds)))=lD ds:=rfl
theorem Jl(i:Nat)(d:D)(ρ:bw):gN i (.fz d) ρ=.ok (ρ.set i (lD (.fz d))):=rfl
theorem Dv(i:Int):Ti (.int i)=lD i:=rfl
theorem AM(b:Bool):Tc (.bool b)=lD b:=rfl
theorem lZ(ds:bb D):db [.tuple ds]=lD (.fz (nd ds.length)):=rfl
theorem eU(ds:bb D):db [.list ds]=lD (.fz (nd ds.length)):=rfl
theorem pV(i j:Int):Ro (.int i) (.int j)=lD (.fz (.bool (decide (i<j)))):=rfl
theorem Dj(i j:Int):MY (.int i) (.int j)=lD (.fz (.bool (decide (j<i)))):=rfl
theorem zH(i j:Int):SD (.int i) (.int j)=lD (.fz (.bool (decide (j<=i)))):=rfl
theorem ir(i j:Int):d7 (.int i) (.int j)=lD (.fz (.int (i+j))):=rfl
theorem uu(i j:Int):vF (.int i) (.int j)=lD (.fz (.int (i - j))):=rfl
theorem xm(h:0<j):tU (.int i) (.int j)=lD (.fz (.int (i % j))):=by show(if Q7 i j=Um then _ else _)=_;rw[av (show Q7 i j=Um from aE h)]
theorem Jv(h:0<j/\j<2^128):EZ (.int i) (.int j)=lD (.fz (.int (i/j))):=by show(if Q8 i j=Um then _ else _)=_;rw[av (show Q8 i j=Um from aE h)]
theorem Mi(h: -(2^64)<i/\i<2^64):A5 (.int i) (.int j)=lD (.fz (.int (i*j))):=by show(if(iJ i||iJ j)=Um then _ else _)=_;rw[av (by rw[show iJ i=Um from aE h,Xx])]
theorem LV(h: -(2^64)<j/\j<2^64):A5 (.int i) (.int j)=lD (.fz (.int (i*j))):=by show(if(iJ i||iJ j)=Um then _ else _)=_;rw[av (by rw[show iJ j=Um from aE h,aaj])]
theorem mV(h:kO j):gJ [.int j]=lD (gq 0 j.toNat):=by show(if kO j then _ else _)=_;rw[av h]
theorem Ht(n:Nat):gq 0 n=bQ (Ul n):=by unfold gq bQ;apply Wy;intro k _;rw[ags]
theorem ky(h:n<=1000000):gJ [nd n]=lD (bQ (Ul n)):=by rw[mV (by unfold kO;ext),Ht,VO]
theorem Km(h:f ρ=.ok (.nx ρ1)):b8 f g ρ=g ρ1:=by unfold b8;rw[h];rfl
theorem KA(h:f ρ=.ok (.rt rv)):b8 f g ρ=.ok (.rt rv):=by unfold b8;rw[h];rfl
theorem Tb(h:c ρ=.ok (Um,ρ1)):oK c f g ρ=f ρ1:=by unfold oK;rw[h];rfl
theorem Ta(h:c ρ=.ok (Uw,ρ1)):oK c f g ρ=g ρ1:=by unfold oK;rw[h];rfl
theorem Bo(h:fi ρ=.ok (ds,ρ1)):r8 fi gt b ρ=sr gt b ds ρ1:=by unfold r8;rw[h];rfl
theorem OZ(h:j<=1000000/\i.natAbs<2^64):K7 (.int i) (nd j)=lD (.fz (.int (i^j))):=by show(if AE i (j:Int)=Um then lD (RV.fz (.int (i^((j:Nat):Int).toNat)))else Uh)=_;rw[av (by unfold AE;exact aE ⟨by ext,by ext,h.2⟩),VO]
theorem Ov:K7 (.int 10) (.int 18)=lD (.fz (.int (10^18))):=OZ ⟨by decide,by decide⟩
def mn(gt:FG)(ft:FT)(fe:FE)(d:D)(ρ:bw):Res (bg D×bw):=(gt (.fz d) ρ).bind λe=>(ft e).bind λb=>if b.1=Um then(fe b.2).bind λa=>(Res.Vm (zu a.2 a.1)).bind λx=>.ok (lD x.1,dQ x.2)else .ok (Uh,dQ b.2)
theorem vg(h:mn gt ft fe d ρ=.ok (o,ρ'))(g:acc.length<1000000):d9 gt ft fe (d::r) ρ acc=d9 gt ft fe r ρ' (acc++o.toList):=by
 unfold mn at h;show(gt (.fz d) ρ).bind _=_;cases q1:gt (.fz d) ρ with
 |er x=>rw[q1]at h;cases h
 |bad=>rw[q1]at h;cases h
 |ok f=>
  rw[q1,eg]at h;rw[eg];cases q2:ft f with
  |er x=>rw[q2]at h;cases h
  |bad=>rw[q2]at h;cases h
  |ok b=>
   obtain⟨b,e⟩:=b;rw[q2,eg]at h;rw[eg];cases b with
   |false=>rw[ax UM]at h⊢;cases h;rw[acP,UT]
   |true=>
    rw[av rfl]at h⊢;cases q3:fe e with
    |er x=>rw[q3]at h;cases h
    |bad=>rw[q3]at h;cases h
    |ok a=>
     rw[q3,eg]at h;rw[eg];cases q4:zu a.2 a.1 with
     |none=>rw[q4]at h;cases h
     |some x=>rw[q4]at h;cases h;show(if acc.length<1000000 then _ else _)=_;rw[av g];rfl
theorem MQ(c:Nat)(h:c<=1000):QK (.int 1) (nd c)=lD (.fz (nd (2^c))):=by show(if AE 1 (c:Int)=Um then lD (RV.fz (.int (1*2^((c:Nat):Int).toNat)))else Uh)=_;rw[av (by unfold AE;exact aE ⟨by ext,by ext,by decide⟩),Int.one_mul,VO];congr 3
theorem P2(a b:Nat):decide ((a:Int)=(b:Int))=decide (a=b):=by
 by_cases h:a=b
 .rw[aE h,aE (by rw[h])]
 .rw[aP h,aP (by ext)]
theorem HL(a b:Nat):Up.eqv (nd a) (nd b)=decide (a=b):=P2 a b
theorem kh(a b:Int):d6 (.int a) (.int b)=lD (.fz (.bool (decide (a=b)))):=by rfl
theorem yt(a b:Int):uz (.int a) (.int b)=lD (.fz (.bool (!decide (a=b)))):=by rfl
theorem mQ:∀ns:bb Nat,Up.canLayAll0 (bQ ns)=Um
 |[]=>rfl
 |n::r=>by show(Up.canLay0 (nd n)&&Up.canLayAll0 (bQ r))=Um;rw[mQ r];rfl
theorem mS:∀ns:bb Nat,Up.depthAll (bQ ns)=0
 |[]=>rfl
 |n::r=>by show max (Up.depth (nd n)) (Up.depthAll (bQ r))=0;rw[mS r];rfl
theorem C8:∀xs ys:bb Nat,Up.eqvAll (bQ xs) (bQ ys)=decide (xs=ys)
 |[],[]=>rfl
 |[],_::_=>rfl
 |_::_,[]=>rfl
 |n::r,m::t=>by show(Up.eqv (nd n) (nd m)&&Up.eqvAll (bQ r) (bQ t))=_;rw[C8 r t,HL];rw[aej];simp
theorem P4(ns:bb Nat):ny (.list (bQ ns))=Um:=by show(Up.canLayAll0 (bQ ns)&&decide (Up.depthAll (bQ ns)+1<=64))=Um;rw[mQ,mS];rfl
theorem xW(xs a:bb Nat):d6 (.list (bQ xs)) (.list (bQ a))=lD (.fz (.bool (decide (xs=a)))):=by unfold d6;rw[P4,show Up.canLay0 (.list (bQ a))=Um from mQ a,WM,av rfl,show Up.eqv (.list (bQ xs)) (.list (bQ a))=_ from C8 xs a]
theorem Mo(x:Nat)(xs:bb Nat):((bQ xs).any λe=>Up.eqv e (nd x))=decide (x∈xs):=by
 induction xs with
 |nil=>rfl
 |cons y r a=>
  show(Up.eqv (nd y) (nd x)||(bQ r).any λe=>Up.eqv e (nd x))=_;rw[a,HL];by_cases h:y=x
  .rw[aE h,aE (show x∈y::r by rw[h];exact UE),Xx]
  .rw[aP h,Yy]
   by_cases g:x∈r
   .rw[aE g,aE (UC _ g)]
   .rw[aP g,aP (λz=>(U2.mp z).elim (λe=>h e.symm) g)]
theorem wU(x:Nat)(xs:bb Nat):KI (nd x) (.tuple (bQ xs))=lD (.fz (.bool (decide (x∈xs)))):=by show(if(ny (nd x)&&Up.canLayAll0 (bQ xs))=Um then _ else _)=_;rw[mQ,show ny (nd x)=Um from rfl,WM,av rfl,Mo]
theorem Be{i:Nat}(h:xs[i]?=lD v):nc xs (i:Int)=lD v:=EL h
theorem Gk(h:ds[i]?=lD d):bA (.tuple ds) (nd i)=lD (.fz d):=by show(nc ds (i:Int)).map RV.fz=_;rw[Be h];rfl
theorem vq(h:ds[i]?=lD d):bA (.list ds) (nd i)=lD (.fz d):=by show(nc ds (i:Int)).map RV.fz=_;rw[Be h];rfl
section
variable{ρ ρ1 ρ2 ρ3:bw}{fa fb fc fe:FE}{pa pb pv:PV}{dx dy d:D}{rv:RV}{ps:bb PV}{ds:bb D}
theorem af(h:ρ[i]?=lD (lD (.fz d))):aa i ρ=.ok (.fz d,ρ):=by rw[B3,h,HV]
theorem kH(h:ρ[i]?=lD (lD (.ow ds))):aa i ρ=.ok (.pl i,ρ):=by rw[B3,h,Jn]
theorem aO:pC d ρ=.ok (.fz d,ρ):=rfl
theorem aN(ha:fa ρ=.ok (pa,ρ1))(g:fb ρ1=.ok (pb,ρ2))(b:xl ρ2 (ei pa)=lD dx)(a:xl ρ2 pb=lD dy)(e:f dx dy=lD rv):aR f fa fb ρ=.ok (rv.pv,ρ2):=by unfold aR;rw[ha,eg,g,eg,b,bj,eg,a,bj,eg,e,bj,eg]
theorem zU(ha:fa ρ=.ok (pa,ρ1))(a:xl ρ1 pa=lD dx)(b:f dx=lD rv):DM f fa ρ=.ok (rv.pv,ρ1):=by unfold DM;rw[ha,eg,a,bj,eg,b,bj,eg]
theorem cg(ha:fa ρ=.ok (pa,ρ1))(a:xl ρ1 pa=lD (.bool b)):aY fa ρ=.ok (b,ρ1):=by unfold aY;rw[ha,eg,a,bj,eg,AM,bj,eg]
theorem yD(ha:f ρ=.ok (a,ρ1))(e:a=Um->g ρ1=.ok (b,ρ1)):Bw f g ρ=.ok (a&&b,ρ1):=by
 unfold Bw;rw[ha,eg];cases a with
 |true=>rw[av rfl,e rfl,ZN]
 |false=>rw[ax UM,Ye]
theorem xn(ha:f ρ=.ok (a,ρ1))(e:a=Uw->g ρ1=.ok (b,ρ1)):JX f g ρ=.ok (a||b,ρ1):=by
 unfold JX;rw[ha,eg];cases a with
 |true=>rw[av rfl,Xx]
 |false=>rw[ax UM,e rfl,Yy]
theorem DY(ha:f ρ=.ok (a,ρ1)):Fz f ρ=.ok (!a,ρ1):=by unfold Fz;rw[ha,eg]
theorem xX(ha:aY fa ρ=.ok (a,ρ1))(e:a=Um->fb ρ1=.ok (.fz (.bool b),ρ1)):Bl fa fb ρ=.ok (.fz (.bool (a&&b)),ρ1):=by
 unfold Bl;rw[ha,eg];cases a with
 |true=>rw[av rfl,e rfl,ZN]
 |false=>rw[ax UM,Ye]
theorem aL:az ρ=.ok ([],ρ):=rfl
theorem am(ha:fa ρ=.ok (pa,ρ1))(a:fr ρ1=.ok (ps,ρ2)):ag fa fr ρ=.ok (ei pa::ps,ρ2):=by unfold ag;rw[ha,eg,a,eg]
theorem dR(ha:fr ρ=.ok (ps,ρ1))(hd:zp ρ1 ps=lD ds)(a:f ds=lD rv):fM f fr ρ=.ok (rv.pv,ρ1):=by unfold fM;rw[ha,eg,hd,bj,eg,a,bj,eg]
theorem dG(ha:fr ρ=.ok (ps,ρ1))(hd:rZ ρ1 ps=lD (ds,ρ2))(hn:ds.length=n)(a:F ds=.ok rv):fO F n fr ρ=.ok (rv.pv,ρ2):=by unfold fO;rw[ha,eg,hd,bj,eg];dsimp only;rw[av hn,a,Ad,eg]
theorem gW(ha:fr ρ=.ok (ps,ρ1))(hd:rZ ρ1 ps=lD (ds,ρ2))(hn:ds.length<=1000):cP fr ρ=.ok (.fz (.tuple ds),ρ2):=by unfold cP;rw[ha,eg,hd,bj,eg];dsimp only;rw[av hn]
theorem p9(ha:fr ρ=.ok (ps,ρ1))(hd:rZ ρ1 ps=lD (ds,ρ2))(hn:ds.length<=1000):cY fr ρ=.ok (.ow ds,ρ2):=by unfold cY;rw[ha,eg,hd,bj,eg];dsimp only;rw[av hn]
theorem Iv(ha:fa ρ=.ok (pa,ρ1))(a:xl ρ1 pa=lD dx)(b:Hl dx=lD t):vB n fa ρ=.ok (.fz (.bool (MR n t)),ρ1):=by unfold vB;rw[ha,eg,a,bj,eg,b,bj,eg]
theorem t8(ha:fa ρ=.ok (pa,ρ1))(a:xl ρ1 pa=lD (.int i)):wK fa ρ=.ok (lD i,ρ1):=by unfold wK;rw[ha,eg,a,bj,eg,Dv,bj,eg]
theorem NO(ha:fa ρ=.ok (pa,ρ1))(b:fl ρ1=.ok (lo,ρ2))(e:fh ρ2=.ok (hi,ρ3))(a:xl ρ3 (ei pa)=lD dx)(g:f dx lo hi=lD rv):Sg f fa fl fh ρ=.ok (rv.pv,ρ3):=by unfold Sg;rw[ha,eg,b,eg,e,eg,a,bj,eg,g,bj,eg]
theorem xY(g:ρ[i]?=lD (lD (.ow es)))(ha:fe ρ=.ok (pa,ρ1))(b:zu ρ1 pa=lD (d,ρ2))(f:ρ2[i]?=lD (lD (.ow ds)))(e:ds.length<1000000)(a:ρ2.set i (lD (.ow (ds++[d])))=x):Ce i fe ρ=.ok (.fz .none,x):=by unfold Ce;rw[g,qh,bj,eg,ha,eg,b,bj,eg];dsimp only;rw[f,qh,bj,eg,av e,a]
theorem eC(hi:fi ρ=.ok (ds,ρ1))(b:wO ρ1 fv=lD (cs,ρ2))(a:lB (d9 gt ft fe ds (Uz n Uh++cs.map λd=>lD (.fz d)) [])=.ok xs):eO n fv fi gt ft fe ρ=.ok (.ow xs,ρ2):=by unfold eO;rw[hi,eg];dsimp only;rw[b,bj,eg];dsimp only;rw[a,eg]
theorem jA:bA (.tuple (a::r)) (.int 0)=lD (.fz a):=Gk rfl
theorem lQ:bA (.tuple (a::b::r)) (.int 1)=lD (.fz b):=Gk rfl
theorem tW:bA (.tuple (a::b::c::r)) (.int 2)=lD (.fz c):=Gk rfl
theorem QU(b:k<=1000)(a:xs.length<=1000):A5 (.list xs) (nd k)=lD (.ow (Uz k xs).flatten):=by show(if xs.length*((k:Nat):Int).toNat<=1000000/\ -(2^63)<=(k:Int)/\(k:Int)<2^63 then lD (RV.ow (Uz ((k:Nat):Int).toNat xs).flatten)else Uh)=_;rw[VO,av ⟨Va (Zr a b) (by decide),by ext,by ext⟩]
theorem gm(ha:fe ρ=.ok (pa,ρ1))(a:zu ρ1 pa=lD (d,ρ2))(b:fY d=lD es):gh fe ρ=.ok (es,ρ2):=by unfold gh;rw[ha,eg,a,bj,eg];dsimp only;rw[b,bj,eg]
theorem pi(ha:fr ρ=.ok (ps,ρ1))(hd:zp ρ1 ps=lD ds)(a:f ds=lD es):lx f fr ρ=.ok (es,ρ1):=by unfold lx;rw[ha,eg,hd,bj,eg,a,bj,eg]
theorem B4(b:fe ρ=.ok (pv,ρ1))(a:g pv ρ1=.ok ρ2)(hn:ρ2=ρ3):jo fe g ρ=.ok (.nx ρ3):=by unfold jo;rw[b,eg];dsimp only;rw[a,eg,hn]
theorem C6(a:fe ρ=.ok (pv,ρ1)):rQ fe ρ=.ok (.nx ρ1):=by unfold rQ;rw[a,eg]
theorem xI(b:fe ρ=.ok (pv,ρ1))(a:FP ρ1 pv=lD rv):eR fe ρ=.ok (.rt rv):=by unfold eR;rw[b,eg];dsimp only;rw[a,bj,eg]
theorem Je(e:gt (.fz d) ρ=.ok ρ1)(b:ft ρ1=.ok (Um,ρ2))(g:fe ρ2=.ok (pv,ρ3))(a:zu ρ3 pv=lD (x,ρ4))(f:dQ ρ4=ρ5):mn gt ft fe d ρ=.ok (lD x,ρ5):=by unfold mn;rw[e,eg,b,eg,av rfl,g,eg,a,bj,eg,f]
theorem Se(b:gt (.fz d) ρ=.ok ρ1)(a:ft ρ1=.ok (Uw,ρ2))(e:dQ ρ2=ρ5):mn gt ft fe d ρ=.ok (Uh,ρ5):=by unfold mn;rw[b,eg,a,eg,ax UM,e]
end
end L3
namespace PySem
open Sem (wp)
open Builtin
open AutoSeq1 (wpAny_loadPart')
theorem qJ:fillsNumberSlot (.type "tuple") "mul"=pure Uw:=
 fillsNumberSlot_seq F.slot_tuple_mul.lookup (by left) F.slot_tuple_rmul.lookup (by left)
theorem yx:seqRepeat? (.type "tuple")=pure (lD (.builtin "tuple.__mul__")):=by unfold seqRepeat?;rw[seqSlot_of (name:= "__mul__") F.slot_tuple_mul.lookup (by left),seqSlot_of (name:= "__rmul__") F.slot_tuple_rmul.lookup (by left)];rfl
theorem ug(a:Int)(t:Tok)(l:Uq)(b:Array Uj)(n:Nat)(ZX:bg Uq)(f:Array (bg Uj)):
  Meets (Vf.«int.__rmul__» ⟨[.int a t,.ref l],[]⟩) (λ_ R s=>s.heap.get? l=lD {cls:=.type "tuple",dict:=ZX,data:=.seq b n,slots:=f}/\R (.ok (.ret Uj.notImplemented)) s):=
 .of_wp λe w A R s h=>by obtain⟨m,g,d,i,j⟩:=s;obtain⟨o,h⟩:=h;wp_walk;exact⟨_,rfl,h⟩
theorem zR(l:Uq)(a:Array Uj)(n:Nat)(ZX:bg Uq)(e:Array (bg Uj))(u:Tok):
  Meets (Vf.«tuple.__mul__» ⟨[.ref l,.int 1 u],[]⟩) (λ_ R s=>s.heap.get? l=lD {cls:=.type "tuple",dict:=ZX,data:=.seq a n,slots:=e}/\R (.ok (.ret (Uj.ref l))) s):=
 .of_wp λb w A R s h=>by
  obtain⟨j,g,d,f,i⟩:=s;obtain⟨m,h⟩:=h
  wp_walk
  exact⟨_,rfl,h⟩
theorem AH(l:Uq)(a:Array Uj)(n:Nat)(ZX:bg Uq)(j:Array (bg Uj))(x:Int)(u:Tok)(I:2<=x)(r:x<=1000)(i:a.isEmpty=Uw)(hz:a.size<=1000):
  Meets (Vf.«tuple.__mul__» ⟨[.ref l,.int x u],[]⟩) (λ_ R s=>s.heap.get? l=lD {cls:=.type "tuple",dict:=ZX,data:=.seq a n,slots:=j}/\R (.ok (.ret (Uj.ref s.heap.objs.size))) {s with heap:=s.heap.push {cls:=Uj.type "tuple",data:=Data.seq (YQ (λx1 x2=>x1++x2) #[] (Uz x.toNat a))},toks:=s.toks}):=
 .of_wp λe w A R s h=>by
  obtain⟨G,g,d,E,F⟩:=s;obtain⟨q,h⟩:=h;have C:¬(decide (x< -(2^63))||decide (x≥2^63))=Um:=by simp;ext
  have B:(x==1)=Uw:=by simp;ext
  have z:decide (x<=0)=Uw:=by simp;ext
  have K:(a.isEmpty||x==1)=Uw:=by rw[i,B];rfl
  have J:(decide (x<=0)||a.isEmpty)=Uw:=by rw[i,z];rfl
  have f:(a.size:Int)*x<=1000000:=by have:(a.size:Int)*x<=1000*1000:=Int.mul_le_mul (by ext) r (by ext) (by ext);ext
  have y:¬(a.size:Int)*x>(2^63 - 1)/8:=by ext
  have v:¬Tuple.tupleTooMany ((a.size:Int)*x)=Um:=by
   unfold Tuple.tupleTooMany;simp;have:(UB:Nat)=16777216:=by decide
   ext
  wp_walk
  rw[ax C]
  wp_walk using wpAny_loadPart' q
  rw[ax y];dsimp only;rw[ax v];have p:(YQ (λx1 x2=>x1++x2) #[] (Uz x.toNat a)).size<=UB:=by
   have t:∀(m:Nat) (b:Array Uj),(YQ (λx1 x2=>x1++x2) b (Uz m a)).size=b.size+m*a.size:=by
    intro m
    induction m with
    |zero=>intro b;simp
    |succ m o=>intro b;rw[Vy,YT,o,Array.size_append,agq];ext
   rw[t];have H:x.toNat*a.size<=1000*1000:=Zr (by ext) hz;have:(UB:Nat)=16777216:=by decide
   simp;ext
  wp_walk
  exact⟨_,rfl,h⟩
end PySem
namespace L3
open PySem PySem.Spec PyProof.Rows L2
def Oy(K:Ld):R2:=λx y H Q=>∃(a:Uq) (k:Nat) (xs:bb V),x=.ref a/\y=.int (k:Int)/\YA K H a xs/\xs≠[]/\1<=k/\k<=1000/\xs.length<=1000/\
 (k=1->Q (.ref a) H)/\(2<=k->∀p,H p=Uh->Q (.ref p) (bM H p (.tup (Uz k xs).flatten)))
theorem K6:OpR X (Wi .Mult) (Oy X.K):=by
 intro i s R H x y v u Q I B A h;obtain⟨a,k,xs,rfl,rfl,G,P,Y,N,L,E,C⟩:=h;cases B;obtain⟨t,rfl⟩:=A;obtain⟨f,r,J,U⟩:=I.tuple G;obtain⟨⟨cls,dd,o,g⟩,e,m,n,l⟩:=id J;simp only at m l;subst m l;have j:=r.length;refine acN (by decide) ⟨_,e,rfl⟩ (λz=>aaE z k t) qJ F.fills_int_mul F.slot_int_rmul yx F.slot_int_index.lookup
  (X8 F.slot_int_rmul (aaE s k t) F.entry_int_rmul (F.args_int_rmul_2 _ _) (ug k t a f.toArray n dd g) ⟨e,rfl,⟨_,e,rfl⟩,?_⟩)
 by_cases M:k=1
 .subst M;exact X8 F.slot_tuple_mul ⟨_,e,rfl⟩ F.entry_tuple_mul (F.args_tuple_mul_2 _ _) (zR a f.toArray n dd g t) ⟨e,⟨.ref a,H,I,rfl,E rfl⟩⟩
 .refine X8 F.slot_tuple_mul ⟨_,e,rfl⟩ F.entry_tuple_mul (F.args_tuple_mul_2 _ _) (AH a f.toArray n dd g k t (by ext) (by ext) ?_ (by rw[UG];ext)) ⟨e,?_⟩
  .cases f with
   |nil=>cases r;exact a5 rfl P
   |cons y S=>rfl
  .have O:YQ (λw p=>w++p) #[] (Uz ((k:Nat):Int).toNat f.toArray)=(Uz k f).flatten.toArray:=by
    have:=qO f k [];rw[Xp]at this;rw[VO];exact this
   rw[O];refine⟨.ref s.heap.objs.size,_,I.laid (λb T q=>br _ q) (Ux _) ?_,rfl,C (by ext) _ (I.VR.fresh (Ux _))⟩;refine⟨?_,_,r.rep k,aax.new _ _⟩;rw[DC];exact Va (Zr N L) (by decide)
def Oq(K:Ld):R2:=λx y H Q=>J1 K x y H Q\/Oy K x y H Q
theorem CU:OpR X (Wi .Mult) (Oq X.K):=OpR.or LL K6
def jh:D->D->bg RV
 |.tuple xs,.int k=>if xs≠[]/\1<=k/\k<=1000/\xs.length<=1000 then lD (.fz (.tuple (Uz k.toNat xs).flatten))else Uh
 |d,e=>A5 d e
theorem ze{K:Ld}:qD K (Oq K) jh:=by
 intro O H x y dx l rv Q n g f e q;unfold jh at e;split at e
 .rename_i ds k
  split at e
  .rename_i h
   cases e;cases f;obtain⟨a,xs,rfl,i,b⟩:=IG g;obtain⟨m,rfl⟩:∃m:Nat,k=(m:Int):=⟨k.toNat,by ext⟩;rw[VO]at q;refine .inr ⟨a,m,xs,rfl,rfl,i.1,λz=>h.1 (b.ne.mp z),by ext,by ext,by rw[b.length];exact h.2.2.2,λe=>?_,λ_=>Fin.adA (b.flat m) n q⟩;subst e;have j:(Uz 1 ds).flatten=ds:=by simp
   rw[j]at q;exact q.at (.tup i b)
  .cases e
 .exact .inl (Lm O H x y dx l rv Q n g f e q)
theorem Ao(i j:Int):jh (.int i) (.int j)=A5 (.int i) (.int j):=rfl
theorem pM(h: -(2^64)<i/\i<2^64):jh (.int i) (.int j)=lD (.fz (.int (i*j))):=(Ao i j).trans (Mi h)
theorem Gp(h: -(2^64)<j/\j<2^64):jh (.int i) (.int j)=lD (.fz (.int (i*j))):=(Ao i j).trans (LV h)
end L3
namespace PySem
open Sem (wp)
open Builtin Builtin.Str
def itAt:Bool->Heap->Uq->Uq->Nat->Prop
 |true,h,it,a,i=>h.IsTupleIter it a i
 |false,h,it,a,i=>h.IsListIter it a i
def sqAt:Bool->Heap->Uq->Array Uj->Prop
 |true,h,a,xs=>h.IsTuple a xs
 |false,h,a,xs=>h.IsList a xs
def zT:Bool->String
 |true=> "tuple_iterator"
 |false=> "list_iterator"
theorem itAt.ext(x:itAt b h it a i)(e:Heap.ExtBut c h h')(n:it≠c):itAt b h' it a i:=by
 cases b with
 |true=>exact Heap.IsTupleIter.extBut x e n
 |false=>exact Heap.IsListIter.extBut x e n
theorem itAt.to(x:itAt b h it a i)(e:∀o,h.get? it=lD o->h'.get? it=lD o):itAt b h' it a i:=by
 cases b with
 |true=>exact Heap.IsTupleIter.at x e
 |false=>exact Heap.IsListIter.at x e
theorem itAt.live(x:itAt b h it a i):∃o,h.get? it=lD o/\∀v,o.data≠.cell v:=by
 cases b with
 |true=>obtain⟨o,e,_,d⟩:=(show h.IsTupleIter it a i from x);exact⟨o,e,λv z=>by rw[d]at z;cases z⟩
 |false=>obtain⟨o,e,_,d⟩:=(show h.IsListIter it a i from x);exact⟨o,e,λv z=>by rw[d]at z;cases z⟩
theorem sqAt.ext(x:sqAt b h a xs)(e:Heap.ExtBut c h h')(n:a≠c):sqAt b h' a xs:=by
 cases b with
 |true=>exact Heap.IsTuple.extBut x e n
 |false=>exact Heap.IsList.extBut x e n
theorem sqAt.psh(x:sqAt b h a xs)(o:Obj):sqAt b (h.push o) a xs:=by
 cases b with
 |true=>exact Heap.IsTuple.push x o
 |false=>exact Heap.IsList.push x o
theorem sqAt.lt(x:sqAt b h a xs):a<h.objs.size:=by
 cases b with
 |true=>obtain⟨o,e,_⟩:=(show h.IsTuple a xs from x);exact bP e
 |false=>obtain⟨o,e,_⟩:=(show h.IsList a xs from x);exact bP e
section
variable{prog:US}{w:Vb}{A:U4}{E:Uj->Ur->Prop}{s:Ur}
theorem yn(hi:itAt b s.heap it l i)(e:sqAt b s.heap l xs)(a:xs[i]?=lD x)
  (q:∀h',itAt b h' it l (i+1)->Heap.SameBut it s.heap h'->Q x {s with heap:=h'}):wpAny (model prog w) A (SmallTypes.nextOf (.ref it)) Q E s:=by
 cases b with
 |true=>exact pK hi e a q
 |false=>exact wpAny_nextOf_list_item hi e a q
theorem C4(g:A.handled=Uh)(hi:itAt b s.heap it l i)(f:sqAt b s.heap l xs)(a:xs[i]?=Uh)
  (q:∀h' e,Heap.ExtBut it s.heap h'->(∃o,h'.get? e=lD o/\o.cls=.type "StopIteration")->E (.ref e) {s with heap:=h'}):wpAny (model prog w) A (SmallTypes.nextOf (.ref it)) Q E s:=by
 cases b with
 |true=>exact pX g hi f a q
 |false=>exact wpAny_nextOf_list_end g hi f a q
theorem Di(a:sqAt b s.heap l xs)
  (q:Q (.ref s.heap.objs.size) {s with heap:=s.heap.push {cls:=.type (zT b),data:=.fields #[.ref l,.int 0 0]}}):wpAny (model prog w) A (pyIter (.ref l)) Q E s:=by
 cases b with
 |true=>exact ZM a q
 |false=>exact Ym a q
theorem FM{Q:Uj->Ur->Prop}(D:aaX z TI TO i1 i2 l1 l2)(hz:acf s.heap z TI TO .none)
  (hTI:IsPair s.heap TI (.ref i1) (.ref i2)) (hTO:IsPair s.heap TO a b) (h1:itAt b1 s.heap i1 l1 n) (h2:itAt b2 s.heap i2 l2 n) (hl1:sqAt b1 s.heap l1 xs) (hl2:sqAt b2 s.heap l2 ys) (hx:xs[n]?=lD x) (hy:ys[n]?=lD y)
  (q:∀h',acf h' z TI TO (rawInt s.heap.objs.size)->IsPair h' TO x y->itAt b1 h' i1 l1 (n+1)->itAt b2 h' i2 l2 (n+1)->IsPair h' s.heap.objs.size x y->h'.objs.size=s.heap.objs.size+1->
   (∀c o,c≠z->c≠TO->c≠i1->c≠i2->s.heap.get? c=lD o->h'.get? c=lD o)->Q (.ref s.heap.objs.size) {s with heap:=h'}):
  wpAny (model prog w) A (Vf.«zip.__next__» ⟨[.ref z],[]⟩) (λfin s'=>∃v,fin=.done (.ret v)/\Q v s') E s:=by
 show wpAny _ _ (field (.ref z) 2>>=_) _ _ _;refine Ug (U7 hz rfl rfl ?_);show wpAny _ _ (field (.ref z) 3>>=_) _ _ _;refine Ug (U7 hz rfl rfl ?_);refine Ug (V2 hTI rfl ?_);show wpAny _ _ (SmallTypes.ownedTupleIsFree (.ref z)>>=_) _ _ _;refine Ug ?_;unfold SmallTypes.ownedTupleIsFree;refine Ug (U7 hz rfl rfl (Ut ?_));simp only[if_true];refine Ug (YB ?_);refine Ug (U7 hz rfl rfl ?_);refine Ug (WT hz (by simp) λk₁ t g=>?_);have aey:=t;clear t;refine Ug ?_;simp only[ad5,aek,YV,aa6];refine Ug (Ug (aaA ?_));show wpAny _ _ (SmallTypes.nextOf (.ref i1)>>=_) _ _ _;refine Ug (yn (h1.ext g.extBut D.i1z) (hl1.ext g.extBut D.l1z) hx λk₂ Y i=>Ut ?_);have J:=i.extBut _ _ D.TOi1 (g.extBut _ _ D.TOz hTO);refine Ug (V2 J rfl ?_);refine Ug (aac J λk₃ I h=>?_);have M:=I;clear I;refine Ug (Xh (Ut ?_));refine Ug (Ug (aaA ?_));show wpAny _ _ (SmallTypes.nextOf (.ref i2)>>=_) _ _ _;refine Ug (yn (((h2.ext g.extBut D.i2z).ext i.extBut D.i12.symm).ext h.extBut D.TOi2.symm) (((hl2.ext g.extBut D.l2z).ext i.extBut D.l2i1).ext h.extBut D.l2TO) hy λk₄ X l=>Ut ?_);have H:=l.extBut _ _ D.TOi2 M;refine Ug (V2 H rfl ?_);refine Ug (aac H λf G j=>?_);have p:IsPair f TO x y:=G;clear G;refine Ug (Xh (Ut (Ut ?_)));refine Ug (V2 p rfl ?_);refine Ug (wpAny_newTuple ?_);have U:f.objs.size=s.heap.objs.size:=by rw[j.1,l.1,h.1,i.1,g.1]
 have C:=j.extBut _ _ D.TOz.symm (l.extBut _ _ D.i2z.symm (h.extBut _ _ D.TOz.symm (i.extBut _ _ D.i1z.symm aey)));have kp:∀c o,c≠z->c≠TO->c≠i1->c≠i2->s.heap.get? c=lD o->f.get? c=lD o:=λc o N Z c3 c4 e=>
  j.extBut _ _ Z (l.extBut _ _ c4 (h.extBut _ _ Z (i.extBut _ _ c3 (g.extBut _ _ N e))))
 have T:=((Y.ext h.extBut D.TOi1.symm).ext l.extBut D.i12).ext j.extBut D.TOi1.symm;have S:=X.ext j.extBut D.TOi2.symm;have Yp:=bP C;show wpAny _ _ (SmallTypes.ownedTupleHandOut (.ref z) (.ref f.objs.size)>>=_) _ _ _;refine Ug ?_;unfold SmallTypes.ownedTupleHandOut;have R:acf (f.push {cls:=.type "tuple",data:=.seq #[x,y]}) z TI TO .ellipsis:=br _ C;refine Ug (WT R (by simp) λk₇ P B=>?_);have L:=P;refine WT L (by simp) λr O u=>?_;have m:=O;have up:∀c o,c≠z->f.get? c=lD o->r.get? c=lD o:=λc o N e=>u.extBut _ _ N (B.extBut _ _ N (br _ e));have F:=u.extBut _ _ (VN Yp) (B.extBut _ _ (VN Yp) (cj _ rfl));have K:r.objs.size=f.objs.size+1:=by rw[u.1,B.1,cN]
 rw[U]at m F K;refine Ut ⟨_,rfl,?_⟩;rw[U];exact q r m (up _ _ D.TOz p) (T.to λo e=>up _ o D.i1z e) (S.to λo e=>up _ o D.i2z e) F K λc o N Z c3 c4 e=>up c o N (kp c o N Z c3 c4 e)
theorem JC(T:A.handled=Uh)(D:aaX z TI TO i1 i2 l1 l2)(hz:acf s.heap z TI TO .none)
  (M:IsPair s.heap TI (.ref i1) (.ref i2)) (L:IsPair s.heap TO a b) (U:itAt b1 s.heap i1 l1 n) (Z:itAt b2 s.heap i2 l2 n) (F:sqAt b1 s.heap l1 xs) (J:sqAt b2 s.heap l2 ys) (O:xs[n]?=Uh\/ys[n]?=Uh)
  (q:∀h' e,(∀c o,c≠z->c≠TO->c≠i1->c≠i2->s.heap.get? c=lD o->h'.get? c=lD o)->(∃o,h'.get? e=lD o/\o.cls=.type "StopIteration")->E (.ref e) {s with heap:=h'}):
  wpAny (model prog w) A (Vf.«zip.__next__» ⟨[.ref z],[]⟩) Q E s:=by
 show wpAny _ _ (field (.ref z) 2>>=_) _ _ _;refine Ug (U7 hz rfl rfl ?_);show wpAny _ _ (field (.ref z) 3>>=_) _ _ _;refine Ug (U7 hz rfl rfl ?_);refine Ug (V2 M rfl ?_);show wpAny _ _ (SmallTypes.ownedTupleIsFree (.ref z)>>=_) _ _ _;refine Ug ?_;unfold SmallTypes.ownedTupleIsFree;refine Ug (U7 hz rfl rfl (Ut ?_));simp only[if_true];refine Ug (YB ?_);refine Ug (U7 hz rfl rfl ?_);refine Ug (WT hz (by simp) λS y f=>?_);have H:=y;refine Ug ?_;simp only[ad5,aek,YV,aa6];refine Ug (Ug (aaA ?_));show wpAny _ _ (SmallTypes.nextOf (.ref i1)>>=_) _ _ _;cases hx:xs[n]? with
 |none=>
  refine Ug (C4 T (U.ext f.extBut D.i1z) (F.ext f.extBut D.l1z) hx λC e g K=>?_);obtain⟨I,i,j⟩:=K;have m:=g _ _ D.i1z.symm H;have ne:e≠z:=λt=>by subst t;rw[m]at i;cases i;simp at j
  exact WT m (by simp) λr _ h=>q r e (λc o G _ N _ t=>h.extBut _ _ G (g _ _ N (f.extBut _ _ G t))) ⟨I,h.extBut _ _ ne i,j⟩
 |some x=>
  have Y:ys[n]?=Uh:=by
   rcases O with t|t
   .rw[hx]at t;cases t
   .exact t
  refine Ug (yn (U.ext f.extBut D.i1z) (F.ext f.extBut D.l1z) hx λC X g=>Ut ?_);have p:=g.extBut _ _ D.TOi1 (f.extBut _ _ D.TOz L);refine Ug (V2 p rfl ?_);refine Ug (aac p λr P h=>?_);refine Ug (Xh (Ut ?_));refine Ug (Ug (aaA ?_));show wpAny _ _ (SmallTypes.nextOf (.ref i2)>>=_) _ _ _;refine Ug (C4 T (((Z.ext f.extBut D.i2z).ext g.extBut D.i12.symm).ext h.extBut D.TOi2.symm) (((J.ext f.extBut D.l2z).ext g.extBut D.l2i1).ext h.extBut D.l2TO) Y λR e v K=>?_);obtain⟨I,i,j⟩:=K;have l:=v _ _ D.i2z.symm (h.extBut _ _ D.TOz.symm (g.extBut _ _ D.i1z.symm H));have ne:e≠z:=λt=>by subst t;rw[l]at i;cases i;simp at j
  exact WT l (by simp) λB _ u=>q B e (λc o G c2 N c4 t=>u.extBut _ _ G (v _ _ c4 (h.extBut _ _ c2 (g.extBut _ _ N (f.extBut _ _ G t))))) ⟨I,u.extBut _ _ ne i,j⟩
end
section
variable{prog:US}{w:Vb}{A:U4}{E:Uj->Ur->Prop}{s:Ur}
theorem AI(D:aaX z TI TO i1 i2 l1 l2)(hz:acf s.heap z TI TO .none)
  (h:IsPair s.heap TI (.ref i1) (.ref i2)) (g:IsPair s.heap TO a b) (p:itAt b1 s.heap i1 l1 n) (m:itAt b2 s.heap i2 l2 n) (f:sqAt b1 s.heap l1 xs) (e:sqAt b2 s.heap l2 ys) (l:xs[n]?=lD x) (j:ys[n]?=lD y)
  (q:∀h',acf h' z TI TO (rawInt s.heap.objs.size)->IsPair h' TO x y->itAt b1 h' i1 l1 (n+1)->itAt b2 h' i2 l2 (n+1)->IsPair h' s.heap.objs.size x y->h'.objs.size=s.heap.objs.size+1->
   (∀c o,c≠z->c≠TO->c≠i1->c≠i2->s.heap.get? c=lD o->h'.get? c=lD o)->Q (lD (.ref s.heap.objs.size)) {s with heap:=h'}):
  wpAny (model prog w) A (pyNext (.ref z)) Q E s:=by
 have i:s.TypeIs (.ref z) "zip":=⟨_,hz,rfl⟩;unfold pyNext;refine Ug (akI (Wg i F.slot_zip_next ?_));exact WJ F.slot_zip_next i F.entry_zip_next (FM D hz h g p m f e l j λh' G C B v u t r=>Ut (q h' G C B v u t r)) (F.args_zip_next_1 _)
theorem zj(r:A.handled=Uh)(D:aaX z TI TO i1 i2 l1 l2)(hz:acf s.heap z TI TO .none)
  (i:IsPair s.heap TI (.ref i1) (.ref i2)) (h:IsPair s.heap TO a b) (y:itAt b1 s.heap i1 l1 n) (v:itAt b2 s.heap i2 l2 n) (g:sqAt b1 s.heap l1 xs) (f:sqAt b2 s.heap l2 ys) (j:xs[n]?=Uh\/ys[n]?=Uh)
  (q:∀h',(∀c o,c≠z->c≠TO->c≠i1->c≠i2->s.heap.get? c=lD o->h'.get? c=lD o)->Q Uh {s with heap:=h'}):wpAny (model prog w) A (pyNext (.ref z)) Q E s:=by
 have l:s.TypeIs (.ref z) "zip":=⟨_,hz,rfl⟩;unfold pyNext;refine Ug (akI (Wg l F.slot_zip_next ?_));refine WJ F.slot_zip_next l F.entry_zip_next (JC r D hz i h y v g f j λh' e p t=>?_) (F.args_zip_next_1 _);obtain⟨o,m,u⟩:=t;exact Ug (abe ⟨o,m,u⟩ isSubtype_stop (Ut (q _ p)))
end
abbrev RP(h:Heap)(b:Bool)(a:Uq):Heap:=h.push {cls:=.type (zT b),data:=.fields #[.ref a,.int 0 0]}
abbrev Sa(h:Heap)(f e:Bool)(b a:Uq):Heap:=(RP h f b).push {cls:=.type (zT e),data:=.fields #[.ref a,.int 0 0]}
abbrev RK(h:Heap)(b f:Bool)(a e:Uq):Heap:=(Sa h b f a e).push {cls:=.type "tuple",data:=.seq #[.ref h.objs.size,.ref (RP h b a).objs.size]}
abbrev Rh(h:Heap)(f e:Bool)(b a:Uq):Heap:=(RK h f e b a).push {cls:=.type "tuple",data:=.seq #[.none,.none]}
abbrev Tf(h:Heap)(f e:Bool)(b a:Uq):Heap:=(Rh h f e b a).push {cls:=.type "zip",data:=.fields #[.none,.bool Uw,.bool Uw,.ref (Sa h f e b a).objs.size,.ref (RK h f e b a).objs.size]}
theorem uF(e f:Bool)(a b:Uq)(xs n:Array Uj):
  Meets (Vf.«zip.__new__» ⟨[.type "zip",.ref a,.ref b],[]⟩) (λ_ R s=>sqAt e s.heap a xs/\sqAt f s.heap b n/\R (.ok (.ret (.ref (Rh s.heap e f a b).objs.size))) {s with heap:=Tf s.heap e f a b}):=
 .of_wp λp w A R s h=>by
  obtain⟨r,g,d,o,q⟩:=s;obtain⟨j,i,h⟩:=h;have t:=sub_zip;have m:sqAt e (Ur.heap ⟨r,g,d,o,q⟩) a xs:=j;have l:sqAt f (Ur.heap ⟨r.push {cls:=.type (zT e),data:=.fields #[.ref a,.int 0 0]},g,d,o,q⟩) b n:=sqAt.psh i _
  wp_walk using Di m,Di l
  exact⟨_,rfl,h⟩
section
variable{prog:US}{w:Vb}{A:U4}{E:Uj->Ur->Prop}{s:Ur}
theorem G4(e:h.get? it=lD {cls:=.type (zT b),data:=.fields #[.ref l,.int 0 0]}):itAt b h it l 0:=by
 cases b with
 |true=>exact⟨_,e,rfl,rfl⟩
 |false=>exact⟨_,e,rfl,rfl⟩
theorem Fq(l:sqAt b1 s.heap l1 xs)(j:sqAt b2 s.heap l2 ys)
  (q:∀h',acf h' (s.heap.objs.size+4) (s.heap.objs.size+2) (s.heap.objs.size+3) .none->IsPair h' (s.heap.objs.size+2) (.ref s.heap.objs.size) (.ref (s.heap.objs.size+1))->
   IsPair h' (s.heap.objs.size+3) .none .none->itAt b1 h' s.heap.objs.size l1 0->itAt b2 h' (s.heap.objs.size+1) l2 0->(∀c o,s.heap.get? c=lD o->h'.get? c=lD o)->Q (.ref (s.heap.objs.size+4)) {s with heap:=h'}):
  wpAny (model prog w) A (call (.type "zip") [.ref l1,.ref l2]) Q E s:=by
 refine callType_new F.called_zip (by decide) (F.typeCall_zip_2 _ _) (F.newCall_zip_2 _ _) (λobj=>F.args_object_init_3 obj _ _) F.entry_zip_new (uF b1 b2 l1 l2 xs ys) ⟨l,j,?_⟩;have i:(RP s.heap b1 l1).objs.size=s.heap.objs.size+1:=cN ..;have h:(Sa s.heap b1 b2 l1 l2).objs.size=s.heap.objs.size+2:=by rw[cN,i]
 have g:(RK s.heap b1 b2 l1 l2).objs.size=s.heap.objs.size+3:=by rw[cN,h]
 have p:(Rh s.heap b1 b2 l1 l2).objs.size=s.heap.objs.size+4:=by rw[cN,g]
 have v:∀c o,s.heap.get? c=lD o->(RP s.heap b1 l1).get? c=lD o:=λc o e=>br _ e;have n:∀c o,(RP s.heap b1 l1).get? c=lD o->(Sa s.heap b1 b2 l1 l2).get? c=lD o:=λc o e=>br _ e;have f:∀c o,(Sa s.heap b1 b2 l1 l2).get? c=lD o->(RK s.heap b1 b2 l1 l2).get? c=lD o:=λc o e=>br _ e;have b:∀c o,(RK s.heap b1 b2 l1 l2).get? c=lD o->(Rh s.heap b1 b2 l1 l2).get? c=lD o:=λc o e=>br _ e;have a:∀c o,(Rh s.heap b1 b2 l1 l2).get? c=lD o->(Tf s.heap b1 b2 l1 l2).get? c=lD o:=λc o e=>br _ e;have m:(Tf s.heap b1 b2 l1 l2).get? (Rh s.heap b1 b2 l1 l2).objs.size=lD _:=cj _ rfl;have r:=a _ _ (cj _ rfl);have t:=a _ _ (b _ _ (cj _ rfl));have u:=a _ _ (b _ _ (f _ _ (cj _ rfl)));have y:=a _ _ (b _ _ (f _ _ (n _ _ (cj _ rfl))));rw[h,g,p]at m;rw[i,h]at t;rw[g]at r;rw[i]at u;rw[p];exact⟨⟨_,m,rfl⟩,q _ m t r (G4 y) (G4 u) λc o e=>a _ _ (b _ _ (f _ _ (n _ _ (v _ _ e))))⟩
end
end PySem
namespace L3
open PySem PySem.Spec PyProof.Rows L2
def Gh(b:Bool)(K:Ld)(H:Hp)(a:Uq)(xs:bb V):Prop:=match b with
 |true=>YA K H a xs
 |false=>YL K H a xs
def Tm(K:Ld)(e b:Bool)(a c:Uq):It:=
 ⟨λi H=>∃xs ys x y,Gh e K H a xs/\Gh b K H c ys/\xs[i]?=lD x/\ys[i]?=lD y,
  λi H v f=>∃p x y,H p=Uh/\v=.ref p/\(∀xs,Gh e K H a xs->xs[i]?=lD x)/\(∀ys,Gh b K H c ys->ys[i]?=lD y)/\f=bM H p (.tup [x,y]),
  λi H=>∃xs ys,Gh e K H a xs/\Gh b K H c ys/\(xs.length<=i\/ys.length<=i)⟩
theorem KZ(I:Inv X pins σ H s)(j:YL X.K H a xs)(i:YL X.K H a ys):xs=ys:=by
 obtain⟨f,h,⟨o,k,l,_,n,p⟩,_⟩:=I.list j;obtain⟨b,g,⟨r,u,e,_,t,m⟩,_⟩:=I.list i;rw[l]at e;cases e;have:f=b:=by
  have q:f.toArray=b.toArray:=by injection p.symm.trans m
  simpa using q
 subst this;exact h.inj g
theorem rB(I:Inv X pins σ H s)(h:Gh b X.K H a xs):∃Vh,Vals xs Vh/\sqAt b s.heap a Vh.toArray:=by
 cases b with
 |true=>obtain⟨Vh,rv,p,e⟩:=I.tuple h;exact⟨Vh,rv,p⟩
 |false=>obtain⟨Vh,rv,p,e⟩:=I.list h;exact⟨Vh,rv,p.isList⟩
theorem DL(I:Inv X pins σ H s)(f:Gh b X.K H a xs)(e:Gh b X.K H a ys):xs=ys:=by
 cases b with
 |true=>exact Na I f e
 |false=>exact KZ I f e
theorem Fm{ch:bb Uq}(I:Inv X pins σ H s)(g:∀b∈ch,qv X pins H b)
  (k:∀b u,b∉ch->s.heap.get? b=lD u->h'.get? b=lD u):Inv X pins σ H {s with heap:=h',toks:=t'}:=by
 have f:∀b u,H b=lD u->b∉ch:=λb u e z=>by rw[(g b z).1]at e;cases e
 refine I.step (λb j=>?_) (λb u _ _ a e _=>k b u a e) (λb u _ _ a e _=>⟨u.slots,k b u a e⟩) (λ_ _ _ _ n=>n)
  (λb u a e=>⟨u,k b u a e⟩) (λ_ _ e=>e) (λ_ _ _ e=>e) (λb ps e=>⟨#[],by rw[e];simp⟩) (λm hm=>?_) (λb u e=>?_) I.bare
 .obtain⟨_,t,_,p,o,l⟩:=g b j;exact⟨p,t,o,l⟩
 .obtain⟨h,w,y,i,r⟩:=hm;exact⟨h,w,y,k _ h (λz=>(g _ z).2.1 rfl) i,r⟩
 .refine(I.VR b u e).Yt (λc v a q=>k c v ?_ q) (λ_ q=>q) λ_ _ q=>q
  rcases a with z|z
  .rw[z];exact f b u e
  .exact f c _ z
theorem HD{K:Ld}{kk}(b1 b2:Bool)(z TI TO B A U T:Uq)(D:aaX z TI TO B A U T):
  Turn P w K (.Tuple elts kk tp) (Tm K b1 b2 U T) [z,TI,TO,B,A] z (λi h=>acf h z TI TO .none/\IsPair h TI (.ref B) (.ref A)/\(∃a b,IsPair h TO a b)/\itAt b1 h B U i/\itAt b2 h A T i) where
 mem:=by simp
 obj:=λi h f b e=>by
  obtain⟨l,g,⟨a,c,m⟩,r,p⟩:=f;simp only[U2,V6,or_false]at e;rcases e with rfl|rfl|rfl|rfl|rfl
  .exact⟨_,l,λv q=>by cases(show Data.fields _=Data.cell v from q)⟩
  .exact⟨_,g,λv q=>by cases(show Data.seq _ _=Data.cell v from q)⟩
  .exact⟨_,m,λv q=>by cases(show Data.seq _ _=Data.cell v from q)⟩
  .exact r.live
  .exact p.live
 keep:=λi h h' f k=>by obtain⟨l,g,⟨a,c,m⟩,r,p⟩:=f;exact⟨k z (by simp) _ l,k TI (by simp) _ g,⟨a,c,k TO (by simp) _ m⟩,r.to λo q=>k B (by simp) o q,p.to λo q=>k A (by simp) o q⟩
 item:=by
  intro X hP hw hK hc i j s σ H E I M f hg;subst hP hw hK;obtain⟨l,g,⟨a,c,m⟩,r,p⟩:=f;obtain⟨xs,ys,x,y,J,G,hx,hy⟩:=hg;obtain⟨Vh,Q,S⟩:=rB I J;obtain⟨F,O,R⟩:=rB I G;obtain⟨u,hu,ru⟩:=Q.get hx;obtain⟨t,ht,rt⟩:=O.get hy;refine AI D l g m r p S R (by simpa using hu) (by simpa using ht) λk z1 o1 g1 g2 pr sz L=>⟨_,rfl,?_⟩;refine wpAny_letOwnedTupleGo_zip z1 λC z2 e2=>?_;have Y:=bP l;have hIl:=bP g;have hOl:=bP m;have h1l:B<s.heap.objs.size:=by obtain⟨_,q,_⟩:=r.live;exact bP q
  have h2l:A<s.heap.objs.size:=by obtain⟨_,q,_⟩:=p.live;exact bP q
  have hn:=I.VR.fresh (Ux _);have kk:∀b o,b∉[z,TI,TO,B,A]->s.heap.get? b=lD o->C.get? b=lD o:=λb o e q=>by simp only[U2,V6,or_false,not_or]at e;exact(e2.2 b e.1).trans (L b o e.1 e.2.2.1 e.2.2.2.1 e.2.2.2.2 q)
  have hT2:=(e2.2 _ (VN Y)).trans pr
  have I2:Inv X j σ (bM H s.heap.objs.size (.tup [x,y])) {s with heap:=C}:=
   I.ack M kk (Ux _) ⟨by show 2<=UB;decide,[u,t],.cons ru (.cons rt .nil),⟨_,hT2,⟨rfl,_,rfl⟩,rfl⟩⟩
  have N:∀b o,b≠z->k.get? b=lD o->C.get? b=lD o:=λb o n q=>(e2.2 b n).trans q;refine⟨.ref s.heap.objs.size,_,I2,rfl,⟨_,x,y,hn,rfl,λzs hs=>by rw[DL I hs J];exact hx,λzs hs=>by rw[DL I hs G];exact hy,rfl⟩,
   ⟨z2,N _ _ D.TIz (L _ _ D.TIz D.TITO D.TIi1 D.TIi2 g),⟨_,_,N _ _ D.TOz o1⟩,g1.to λo q=>N _ _ D.i1z q,g2.to λo q=>N _ _ D.i2z q⟩,λb e=>?_⟩
  have hb2:b<s.heap.objs.size:=by simp only[U2,V6,or_false]at e;rcases e with rfl|rfl|rfl|rfl|rfl<;>assumption
  rw[aI (UX hb2)];exact(M b e).1
 done:=by
  intro X hP hw hK hc i j s σ H E I M f hg;subst hP hw hK;obtain⟨l,g,⟨a,c,m⟩,r,p⟩:=f;obtain⟨xs,ys,J,G,Z⟩:=hg;obtain⟨Vh,Q,S⟩:=rB I J;obtain⟨F,O,R⟩:=rB I G;have hl1:=Q.length;have hl2:=O.length;have hd:Vh.toArray[i]?=Uh\/F.toArray[i]?=Uh:=by
   rcases Z with q|q
   .exact .inl (by simp;ext)
   .exact .inr (by simp;ext)
  refine zj (I.ok.hd hc) D l g m r p S R hd λk L=>⟨rfl,?_⟩;exact Fm I M λb o e q=>by simp only[U2,V6,or_false,not_or]at e;exact L b o e.1 e.2.2.1 e.2.2.2.1 e.2.2.2.2 q
 self:=λ_ _ _ _ _ f h=>agt f.1 h
theorem EN(n b a:Nat)(f:b<n)(e:a<n):aaX (n+4) (n+2) (n+3) n (n+1) b a:=by constructor<;>(show(_:Nat)≠_;ext)
def OH(K:Ld)(f:TA):TI:=λe H R=>f e H λvs b=>∃a c b1 b2,vs=[.ref a,.ref c]/\(∃xs,Gh b1 K b a xs)/\(∃ys,Gh b2 K b c ys)/\R (Tm K b1 b2 a c) b
theorem Ky:VD "zip"=lD (.type "zip"):=by left
theorem Bf{kk}(Q:Gl X "zip")(hm:X.mg "zip"=Uh)(ha:PA X [l,m] ta)(N:U1 [l,m] X.env=(Uw,eval l X.env)::U1 [m] X.env:=by rfl)(O:(backTo pos (U1 [m] X.env)).any (·.1)=Uw:=by rfl):
  PI X (.Tuple elts kk tp) (.Call (.Name "zip" p) [l,m] [] pos) (OH X.K ta):=by
 intro f s y H R I h;refine Call_ (pY I Q hm Ky (XJ (cQ (ha pos f s y H _ I h) λus g ⟨vs,w,j,F,G⟩=>?_) N O));obtain⟨a,c,Y,U,e,⟨xs,C⟩,⟨Z,B⟩,q⟩:=G;subst e;obtain⟨u,t,rfl,E,rt⟩:=D8 F;cases E;cases rt;obtain⟨Vh,rx,r⟩:=rB j C;obtain⟨M,ry,o⟩:=rB j B;have T:∀b∈[g.heap.objs.size+4,g.heap.objs.size+2,g.heap.objs.size+3,g.heap.objs.size,g.heap.objs.size+1],qv X f w b:=λb v=>by
  have i:g.heap.objs.size<=b:=by simp only[U2,V6,or_false]at v;have S:=v;ext
  exact j.abi i (j.VR.fresh i)
 refine Fq r o λh1 n L J A z P=>?_;refine agt n ?_;exact⟨g.heap.objs.size+4,_,_,_,w,rfl,j.kept P,HD Y U _ _ _ _ _ a c (EN _ _ _ r.lt o.lt),⟨n,L,⟨_,_,J⟩,A,z⟩,T,q⟩
def RE:Vq->Bool
 |.Starred _ _=>Um
 |_=>Uw
theorem wy(e:Vq)(es:bb Vq)(env:Env)(h:RE e=Uw):U1 (e::es) env=(Uw,eval e env)::U1 es env:=by cases e<;>first|rfl|cases h
def kY:bb D->bb D->bb D
 |x::r,y::q=>.tuple [x,y]::kY r q
 |_,_=>[]
theorem tK:∀(xs a:bb D),(kY xs a).length=min xs.length a.length
 |[],_=>by simp[kY]
 |_::_,[]=>by simp[kY]
 |_::r,_::q=>by simp only[kY,UD,tK r q];ext
theorem tL:∀(xs a:bb D) (i:Nat),(kY xs a)[i]?=(xs[i]?).bind λx=>(a[i]?).map λy=>.tuple [x,y]
 |[],_,_=>by simp[kY]
 |x::r,[],i=>by cases i<;>simp[kY]
 |x::r,y::q,0=>by simp[kY]
 |x::r,y::q,i+1=>by simp only[kY,abK];exact tL r q i
section
variable{K:Ld}{E:XK}{B O Z:cz}{H0 H H':Hp}{σ:L2.St}{ρ ρ':bw}{v:V}
def ab0(b:Bool)(O:cz)(K:Ld)(H:Hp)(a:Uq)(xs:bb V):Prop:=match b with
 |true=>Y5 O K H a xs
 |false=>aay O K H a xs
theorem ab0.ev(h:ab0 b O K H a xs)(e:Ev O H Z H'):ab0 b Z K H' a xs:=by
 cases b with
 |true=>exact Y5.ev h e
 |false=>exact aay.ev h e
theorem ab0.at(h:ab0 b O K H a xs):Gh b K H a xs:=by
 cases b with
 |true=>exact(show Y5 O K H a xs from h).1
 |false=>exact(show aay O K H a xs from h).1.sq
theorem OL(h:ab0 b1 O K H a xs)(hd:V9 O K H xs ds)(g:ab0 b2 O K H c ys)(C:V9 O K H ys es):CD K (Tm K b1 b2 a c) O H (kY ds es):=by
 intro Z H' e n;have j:=h.ev e;have f:=hd.ev e;have m:=g.ev e;have l:=C.ev e;rw[tK];refine⟨λi hi=>?_,⟨xs,ys,j.at,m.at,?_⟩⟩
 .have w:i<ds.length:=by ext
  have u:i<es.length:=by ext
  obtain⟨x,A,dx⟩:=f.get (Us w);obtain⟨y,z,F⟩:=l.get (Us u);refine⟨⟨xs,ys,x,y,j.at,m.at,A,z⟩,?_⟩;rintro t G ⟨p,J,I,b,rfl,hx',hy',rfl⟩;have r:=hx' xs j.at;have o:=hy' ys m.at;rw[A]at r;rw[z]at o;cases r;cases o;refine⟨cD b _,.tuple [ds[i],es[i]],?_,.tup ⟨YA.of aV,λq=>a5 q (n p b)⟩ (.cons (dx.ev (Ev.grow (cD b _))) (.cons (F.ev (Ev.grow (cD b _))) .nil))⟩;rw[tL,Us w,Us u];rfl
 .rw[hd.length,C.length];ext
theorem N4(h:DV O K H v d)(q:fY d=lD ds):∃b a xs,v=.ref a/\ab0 b O K H a xs/\V9 O K H xs ds:=by
 cases h with
 |tup h e=>cases q;exact⟨Um,_,_,rfl,h,e⟩
 |lst h e=>cases q;exact⟨Uw,_,_,rfl,h,e⟩
 |_=>cases q
def yr(fa:FA):FI:=λρ=>(fa ρ).bind λa=>(Res.Vm (rZ a.2 a.1)).bind λb=>match b.1 with
 |[d,e]=>(Res.Vm (fY d)).bind λds=>(Res.Vm (fY e)).bind λf=>.ok (kY ds f,b.2)
 |_=>.bad
theorem Bm(h:AO K E ta fa):IO K E (OH K ta) (yr fa):=by
 intro B H0 O σ H ρ N R w;refine h B H0 O σ H ρ _ R (w.bind.imp λa b P vs J r G m=>?_);obtain⟨⟨ds,i⟩,q,b⟩:=b.Vm;obtain⟨I,p,R2,t⟩:=vk G m q;dsimp only at b;cases t with
 |nil=>exact b.elim
 |cons o e=>
  cases e with
  |nil=>exact b.elim
  |cons e n=>
   cases n with
   |cons _ _=>exact b.elim
   |nil=>obtain⟨M,l,b⟩:=WR.Vm b;obtain⟨fs,j,b⟩:=WR.Vm b;obtain⟨A,F,xs,rfl,g,y⟩:=N4 o l;obtain⟨z,C,L,rfl,f,u⟩:=N4 e j;exact⟨F,C,A,z,rfl,⟨_,g.at⟩,⟨_,f.at⟩,b I _ J (r.trans p) R2 (OL g y f u)⟩
def fP(d e:D):bg RV:=match d,e with
 |.str z,.int i=>if z.length<=1000000 then(nc z.cps.toList i).map λc=>.fz (.str ⟨#[c]⟩)else Uh
 |_,_=>Uh
theorem yL:qD K (SR K) fP:=by
 intro O H x y dx g rv Q n b a e q;unfold fP at e;split at e
 .split at e
  .rename_i z i f
   cases qa:nc z.cps.toList i with
   |none=>rw[qa]at e;cases e
   |some c=>rw[qa]at e;cases e;cases b;cases a;exact .inr (.inr ⟨z,i,c,rfl,rfl,DD f,qa,q.at (.str _)⟩)
  .cases e
 .cases e
end
end L3
namespace L3
open PySem L2
def TJ(N C:bw->Prop)(T:RV->Prop):Res Fl->Prop
 |.ok (.nx ρ)=>N ρ
 |.ok (.ct ρ)=>C ρ
 |.ok (.rt v)=>T v
 |_=>False
structure Go(r:Res Fl)(N C:bw->Prop)(T:RV->Prop):Prop where
 out:TJ N C T r
section
variable{ρ ρ1 ρ2 ρ3:bw}{f g:FS}{fe:FE}{pv:PV}{d:D}{rv:RV}{ds:bb D}{N C:bw->Prop}{T:RV->Prop}
theorem Go.eq(e:r=r')(h:Go r' N C T):Go r N C T:=by rw[e];exact h
theorem Go.imp(h:Go r N C T)(b:∀ρ,N ρ->N' ρ)(e:∀ρ,C ρ->C' ρ)(a:∀v,T v->T' v):Go r N' C' T':=by
 refine⟨?_⟩;have h:=h.out;cases r with
 |bad=>exact h
 |er x=>exact h
 |ok i=>
  cases i with
  |nx r=>exact b _ h
  |ct r=>exact e _ h
  |rt v=>exact a _ h
  |bk r=>exact h
theorem HF(h:Go (f ρ) (λr=>Go (g r) N C T) C T):Go (b8 f g ρ) N C T:=by
 refine⟨?_⟩;have h:=h.out;unfold b8;cases q:f ρ with
 |bad=>rw[q]at h;exact h.elim
 |er x=>rw[q]at h;exact h.elim
 |ok a=>
  rw[q]at h;cases a with
  |nx r=>exact(show Go (g r) N C T from h).out
  |ct r=>exact h
  |rt v=>exact h
  |bk r=>exact h.elim
theorem Hs(h:c ρ=.ok (b,ρ1))(a:b=Um->Go (f ρ1) N C T)(e:b=Uw->Go (g ρ1) N C T):Go (oK c f g ρ) N C T:=by
 unfold oK;rw[h,eg];cases b with
 |true=>exact a rfl
 |false=>exact e rfl
theorem JH(b:fe ρ=.ok (pv,ρ1))(a:gt pv ρ1=.ok ρ2)(h:N ρ2):Go (jo fe gt ρ) N C T:=.eq (B4 b a rfl) ⟨h⟩
theorem sZ(a:fe ρ=.ok (pv,ρ1))(h:N ρ1):Go (rQ fe ρ) N C T:=.eq (C6 a) ⟨h⟩
theorem fU(b:fe ρ=.ok (pv,ρ1))(a:FP ρ1 pv=lD rv)(h:T rv):Go (eR fe ρ) N C T:=.eq (xI b a) ⟨h⟩
theorem yE(h:N ρ):Go (fG ρ) N C T:=⟨h⟩
theorem DH(I:Nat->bw->Prop):∀(ds:bb D) (k:Nat) (ρ:bw),I k ρ->(∀i d ρ,ds[i]?=lD d->I (k+i) ρ->∃ρ1,gt (.fz d) ρ=.ok ρ1/\Go (b ρ1) (I (k+i+1)) (I (k+i+1)) T)->Go (sr gt b ds ρ) (I (k+ds.length)) C T
 |[],k,ρ,h0,_=>⟨h0⟩
 |d::r,k,ρ,h0,hs=>by
  obtain⟨ρ1,o,a⟩:=hs 0 d ρ rfl h0;have a:=a.out;have l:∀j,I (k+1) j->Go (sr gt b r j) (I (k+(r.length+1))) C T:=λj h=>by
   have e:k+(r.length+1)=k+1+r.length:=by ext
   rw[e];refine DH I r (k+1) j h λi t m hi n=>?_;have e:k+1+i=k+(i+1):=by ext
   rw[e]at n⊢;exact hs (i+1) t m (by simpa using hi) n
  refine⟨?_⟩;show TJ _ _ _ ((gt (.fz d) ρ).bind _);rw[o,eg];cases q:b ρ1 with
  |bad=>rw[q]at a;exact a.elim
  |er x=>rw[q]at a;exact a.elim
  |ok p=>
   rw[q]at a;cases p with
   |nx r=>exact(l _ a).out
   |ct r=>exact(l _ a).out
   |rt v=>exact a
   |bk r=>exact a.elim
theorem HK(I:Nat->bw->Prop)(hi:fi ρ=.ok (ds,ρ1))(j:I 0 ρ1)(a:∀i d ρ,ds[i]?=lD d->I i ρ->∃ρ1,gt (.fz d) ρ=.ok ρ1/\Go (b ρ1) (I (i+1)) (I (i+1)) T)(e:∀ρ',I ds.length ρ'->N ρ'):Go (r8 fi gt b ρ) N C T:=by have:=DH (C:=C) I ds 0 ρ1 j (by simpa using a);rw[Vk]at this;exact .eq (Bo hi) (this.imp e (λ_ h=>h) λ_ h=>h)
theorem qM(a:ds.map (λd=>lD (.fz d))++Uz (n - ds.length) Uh=ρ)(h:Go (g ρ) (λ_=>T (.fz .none)) (λ_=>False) T):∃rv,ii n g ds=.ok rv/\T rv:=by
 have h:=h.out;unfold ii;rw[a];cases q:g ρ with
 |bad=>rw[q]at h;exact h.elim
 |er x=>rw[q]at h;exact h.elim
 |ok b=>
  rw[q]at h;cases b with
  |nx r=>exact⟨_,rfl,h⟩
  |ct r=>exact h.elim
  |rt v=>exact⟨_,rfl,h⟩
  |bk r=>exact h.elim
theorem jJ(a:ds.map (λd=>lD (.fz d))++Uz (n - ds.length) Uh=ρ)(h:Go (g ρ) (λ_=>RV.fz .none=v) (λ_=>False) (λr=>r=v)):ii n g ds=.ok v:=by obtain⟨rv,e,b⟩:=qM (T:=λr=>r=v) a h;rw[e,b]
theorem fX(b:fe ρ=.ok (pv,ρ1))(a:gt pv ρ1=.ok ρ2)(hn:ρ2=ρ3)(h:Go (g ρ3) N C T):Go (b8 (jo fe gt) g ρ) N C T:=.eq (Km (B4 b a hn)) h
theorem jO(b:fe ρ=.ok (pv,ρ1))(a:FP ρ1 pv=lD rv)(h:T rv):Go (b8 (eR fe) g ρ) N C T:=.eq (KA (xI b a)) ⟨h⟩
theorem gF(h:Go (g ρ) N C T):Go (b8 fG g ρ) N C T:=.eq rfl h
theorem Fe:b8 (b8 f1 f2) g ρ=b8 f1 (b8 f2 g) ρ:=by
 unfold b8;cases f1 ρ with
 |bad=>rfl
 |er x=>rfl
 |ok a=>cases a<;>rfl
theorem HM(h:Go (b8 f1 (b8 f2 g) ρ) N C T):Go (b8 (b8 f1 f2) g ρ) N C T:=.eq Fe h
theorem nz(i:c ρ=.ok (b,ρ1))(a:b=Um->Go (b8 f1 g ρ1) N C T)(h:b=Uw->Go (b8 f2 g ρ1) N C T):Go (b8 (oK c f1 f2) g ρ) N C T:=by
 have e:b8 (oK c f1 f2) g ρ=if b=Um then b8 f1 g ρ1 else b8 f2 g ρ1:=by unfold b8 oK;rw[i,eg];cases b<;>rfl
 refine .eq e ?_;cases b with
 |true=>exact a rfl
 |false=>exact h rfl
theorem xG(I:Nat->bw->Prop)(hi:fi ρ=.ok (ds,ρ1))(h:I 0 ρ1)(a:∀i d ρ,ds[i]?=lD d->I i ρ->∃ρ1,gt (.fz d) ρ=.ok ρ1/\Go (b ρ1) (I (i+1)) (I (i+1)) T)(e:∀ρ',I ds.length ρ'->Go (g ρ') N C T):Go (b8 (r8 fi gt b) g ρ) N C T:=
 HF (HK I hi h a e)
theorem wL(I:bw->Prop)(P:Nat->D->Prop):∀(ds:bb D) (k:Nat) (ρ:bw) (a:bb D),I ρ->a.length+ds.length<=1000000->(∀i d,ds[i]?=lD d->∀ρ,I ρ->∃x ρ',mn gt ft fe d ρ=.ok (lD x,ρ')/\I ρ'/\P (k+i) x)->
  ∃xs,d9 gt ft fe ds ρ a=.ok (a++xs)/\xs.length=ds.length/\∀i x,xs[i]?=lD x->P (k+i) x
 |[],k,ρ,a,_,_,_=>⟨[],by show Res.ok a=_;simp,rfl,λi x h=>by simp at h⟩
 |d::r,k,ρ,a,h0,hl,hs=>by
  obtain⟨x,ρ',o,n,m⟩:=hs 0 d rfl ρ h0;rw[UD]at hl;obtain⟨xs,t,q,p⟩:=wL I P r (k+1) ρ' (a++[x]) n (by rw[Uo];simp;ext) λi u hi b l=>by
   have e:k+1+i=k+(i+1):=by ext
   rw[e];exact hs (i+1) u (by simpa using hi) b l
  refine⟨x::xs,?_,by rw[UD,q,UD],λi y j=>?_⟩
  .rw[vg o (by ext)];show d9 gt ft fe r ρ' (a++[x])=_;rw[t,UQ];rfl
  .cases i with
   |zero=>cases(show lD x=lD y from j);exact m
   |succ i=>
    have e:k+(i+1)=k+1+i:=by ext
    rw[e];exact p i y (by simpa using j)
theorem tQ(I:bw->Prop)(P:Nat->D->Prop)(e:I ρ)(b:ds.length<=1000000)(a:∀i d,ds[i]?=lD d->∀ρ,I ρ->∃x ρ',mn gt ft fe d ρ=.ok (lD x,ρ')/\I ρ'/\P i x):
  ∃xs,lB (d9 gt ft fe ds ρ [])=.ok xs/\xs.length=ds.length/\∀i x,xs[i]?=lD x->P i x:=by
 obtain⟨xs,l,j,h⟩:=wL I P ds 0 ρ [] e (by simpa using b) (by simpa using a);exact⟨xs,by rw[l];rfl,j,by simpa using h⟩
theorem sU{α:Type}{f:α->D}{Q:Nat->α->Prop}:∀(xs:bb D) (k:Nat),(∀i x,xs[i]?=lD x->∃a,x=f a/\Q (k+i) a)->∃as:bb α,xs=as.map f/\∀i a,as[i]?=lD a->Q (k+i) a
 |[],_,_=>⟨[],rfl,λi a h=>by simp at h⟩
 |x::r,k,h=>by
  obtain⟨a,e,q⟩:=h 0 x rfl;obtain⟨as,n,l⟩:=sU (f:=f) (Q:=Q) r (k+1) λi y m=>by
   have e:k+1+i=k+(i+1):=by ext
   rw[e];exact h (i+1) y (by simpa using m)
  refine⟨a::as,by rw[e,n];rfl,λi b j=>?_⟩;cases i with
  |zero=>cases(show lD a=lD b from j);exact q
  |succ i=>
   have e:k+(i+1)=k+1+i:=by ext
   rw[e];exact l i b (by simpa using j)
theorem Ts(ha:Up.strOk a=Um)(e:Up.strOk b=Um):d6 (.str a) (.str b)=lD (.fz (.bool (a==b))):=by unfold d6;rw[show ny (.str a)=Um by unfold ny;rw[show Up.canLay0 (.str a)=Um from ha];rfl,show Up.canLay0 (.str b)=Um from e,WM,av rfl];rfl
theorem OG(ha:Up.strOk a=Um):d6 (.str a) (.str a)=lD (.fz (.bool Um)):=by rw[Ts ha ha,ec]
theorem DQ(ha:Up.strOk a=Um)(e:Up.strOk b=Um)(h:(a==b)=Uw):d6 (.str a) (.str b)=lD (.fz (.bool Uw)):=by rw[Ts ha e,h]
theorem yH{α:Type}{xs:bb α}{i:Int}{v:α}(a:0<=i)(h:xs[i.toNat]?=lD v):nc xs i=lD v:=Q2 a h
theorem LS(a:0<=i)(h:ds[i.toNat]?=lD d):bA (.list ds) (.int i)=lD (.fz d):=by show(nc ds i).map RV.fz=_;rw[yH a h];rfl
theorem Lp{s:bb Nat}(e:s.Pairwise (·<·))(h:∀k∈s,k<n):s.length<=n:=by
 have:∀(s:bb Nat) (a:Nat),s.Pairwise (·<·)->(∀k∈s,a<=k/\k<n)->s.length<=n - a:=by
  intro s
  induction s with
  |nil=>intro a _ _;exact Vl _
  |cons x r i=>intro a e h;obtain⟨l,j⟩:=Yh.mp e;have m:=h x UE;have:=i (x+1) j λk b=>⟨l k b,(h k (UC _ b)).2⟩;rw[UD];ext
 exact this s 0 e λk b=>⟨Vl _,h k b⟩
theorem sV(ha:fr ρ=.ok (ps,ρ1))(hd:rZ ρ1 ps=lD ([d,e],ρ2))(b:fY d=lD es)(a:fY e=lD fs):yr fr ρ=.ok (kY es fs,ρ2):=by unfold yr;rw[ha,eg,hd,bj,eg];dsimp only;rw[b,bj,eg,a,bj,eg]
end
end L3
namespace L2
open PySem PySem.Spec PyProof.Rows
section
variable{κ:Type}[DecidableEq κ]
def lu(UY:bb (κ×V))(k:κ):bg V:=(UY.find? λa=>decide (a.1=k)).map (·.2)
def jY(UY:bb (κ×V))(k:κ)(v:V):bb (κ×V):=
 if(UY.any λa=>decide (a.1=k))=Um then UY.map (λa=>if a.1=k then(a.1,v)else a)else UY++[(k,v)]
def pR(UY:bb (κ×V))(k:κ):bb (κ×V):=UY.filter λa=>decide (a.1≠k)
theorem uI{k:κ}(e:p.1=k):lu (p::r) k=lD p.2:=by simp[lu,Ve,e]
theorem u0{k:κ}(e:¬p.1=k):lu (p::r) k=lu r k:=by simp[lu,Ve,e]
theorem AN(k:κ):∀UY:bb (κ×V),(UY.any λkv=>decide (kv.1=k))=(lu UY k).isSome
 |[]=>rfl
 |p::r=>by
  rw[XX];by_cases e:p.1=k
  .simp only[uI e,aE e,Xx,acM]
  .rw[u0 e,aP e,Yy];exact AN k r
theorem lJ(UY:bb (κ×V))(k:κ)(v:V):(jY UY k v).length<=UY.length+1:=by
 unfold jY;split
 .rw[Ui];ext
 .rw[Uo,UD,Wn];ext
theorem Ys.Zb(r:Ys o u):o.isSome=u.isSome:=by
 cases o with
 |none=>cases u with
  |none=>rfl
  |some _=>exact(show False from r).elim
 |some _=>cases u with
  |none=>exact(show False from r).elim
  |some _=>rfl
theorem KV.val{UY:bb (κ×V)}{vs:bb (κ×Uj)}(r:KV UY vs)(k:κ):Ys (lu UY k) (valueAt vs k):=by
 unfold KV at r
 induction r with
 |nil=>exact True.intro
 | @cons p q ps qs h t ih=>
  obtain⟨f,g⟩:=h;by_cases e:p.1=k
  .have a:q.1=k:=f.symm.trans e
   have b:valueAt (q::qs) k=lD q.2:=by simp[valueAt,Ve,a]
   rw[uI e,b];exact g
  .have a:¬q.1=k:=λz=>e (f.trans z)
   have b:valueAt (q::qs) k=valueAt qs k:=by simp[valueAt,Ve,a]
   rw[u0 e,b];exact ih
theorem KV.any(r:KV UY vs)(k:κ):(UY.any λkv=>decide (kv.1=k))=vs.any λkv=>decide (kv.1=k):=by
 unfold KV at r
 induction r with
 |nil=>rfl
 |cons h t a=>rw[XX,XX,a,h.1]
theorem KV.afG(r:KV UY vs)(k:κ)(b:RelV y u):
  KV (UY.map λkv=>if kv.1=k then(kv.1,y)else kv) (vs.map λkv=>if kv.1=k then(kv.1,u)else kv):=by
 unfold KV at r⊢
 induction r with
 |nil=>exact .nil
 | @cons p q ps qs h t ih=>
  rw[UJ,UJ];refine .cons ?_ ih;obtain⟨a,f⟩:=h;by_cases e:p.1=k
  .rw[av e,av (a.symm.trans e)];exact⟨a,b⟩
  .rw[ax e,ax (λz=>e (a.trans z))];exact⟨a,f⟩
theorem KV.put(r:KV UY vs)(k:κ)(a:RelV y u):KV (jY UY k y) (stored vs k u):=by
 unfold jY stored;rw[r.any k];by_cases e:(vs.any λb=>decide (b.1=k))=Um
 .rw[av e,av e];exact r.afG k a
 .rw[ax e,ax e];exact Paired.snoc r ⟨rfl,a⟩
theorem KV.drop(r:KV UY vs)(k:κ):KV (pR UY k) (without vs k):=by
 unfold KV at r⊢;unfold pR without
 induction r with
 |nil=>exact .nil
 | @cons p q ps qs h t ih=>
  obtain⟨f,g⟩:=h;rw[YI,YI];by_cases e:p.1=k
  .have a:¬decide (p.1≠k)=Um:=by simp[e]
   have b:¬decide (q.1≠k)=Um:=by simp[f.symm.trans e]
   rw[ax a,ax b];exact ih
  .have i:¬q.1=k:=λz=>e (f.trans z)
   have a:decide (p.1≠k)=Um:=by simp[e]
   have b:decide (q.1≠k)=Um:=by simp[i]
   rw[av a,av b];exact .cons ⟨f,g⟩ ih
theorem KV.keys{vs:bb (κ×Uj)}(r:KV UY vs):UY.map (·.1)=vs.map (·.1):=by
 unfold KV at r
 induction r with
 |nil=>rfl
 |cons h t a=>rw[UJ,UJ,a,h.1]
theorem KV.length(r:KV UY vs):UY.length=vs.length:=Paired.length r
theorem JU(UY:bb (κ×V))(k:κ):(pR UY k).length<=UY.length:=Y8 _ _
end
theorem wQ(r:RelV (kV k) u):(dB P w).is k u=Um:=by
 cases k with
 |inl i=>obtain⟨t,e⟩:=(show∃t,u=Uj.int i t from r);subst e;exact zW P w i t
 |inr x=>obtain⟨t,e⟩:=(show∃t,u=Uj.str x t from r);subst e;exact Am P w x t
theorem wg:∀{ks:bb c7} {us:bb Uj},Vals (ks.map kV) us->ItemsAre (dB P w) ks us
 |[],_,r=>by rw[W4]at r;cases r;exact .nil
 |k::ks,_,r=>by
  rw[UJ]at r;cases r with
  |cons h t=>exact .cons (wQ h) (wg t)
abbrev KT(H:Hp):bb (bb c7×V)->bb (bb c7×Uq×Uj)->Prop:=Paired λp q=>p.1=q.1/\H q.2.1=lD (.tup (p.1.map kV))/\RelV p.2 q.2.2
theorem KT.val(r:KT H UY xs)(k:bb c7):Ys (lu UY k) ((atKey xs k).map (·.2)):=by
 induction r with
 |nil=>exact True.intro
 | @cons p q ps qs h t ih=>
  obtain⟨f,_,g⟩:=h;by_cases e:p.1=k
  .have a:=f.symm.trans e
   have b:atKey (q::qs) k=lD q.2:=by simp[atKey,Ve,a]
   rw[uI e,b];exact g
  .have a:¬q.1=k:=λz=>e (f.trans z)
   have b:atKey (q::qs) k=atKey qs k:=by simp[atKey,Ve,a]
   rw[u0 e,b];exact ih
theorem KT.afG(r:KT H UY xs)(k:bb c7)(f:RelV y u):
  KT H (UY.map λkv=>if kv.1=k then(kv.1,y)else kv) (xs.map (putAt k u)):=by
 induction r with
 |nil=>exact .nil
 | @cons p q ps qs h t ih=>
  rw[UJ,UJ];refine .cons ?_ ih;obtain⟨a,b,g⟩:=h;unfold putAt;by_cases e:p.1=k
  .rw[av e,av (a.symm.trans e)];exact⟨a,b,f⟩
  .rw[ax e,ax (λz=>e (a.trans z))];exact⟨a,b,g⟩
theorem KT.put(r:KT H UY xs)(k:bb c7)(g:H b=lD (.tup (k.map kV)))(a:RelV y u):
  KT H (jY UY k y) (storedH xs k b u):=by
 have e:(UY.any λf=>decide (f.1=k))=(atKey xs k).isSome:=by rw[AN,(r.val k).Zb,ZZ]
 unfold jY storedH;rw[e];by_cases q:(atKey xs k).isSome=Um
 .rw[av q,av q];exact r.afG k a
 .rw[ax q,ax q];exact Paired.snoc r ⟨rfl,g,a⟩
theorem KT.keeps(r:KT H UY xs)(a:∀b ys,H b=lD (.tup ys)->H' b=lD (.tup ys)):KT H' UY xs:=
 Paired.Yv r λ_ _ z=>⟨z.1,a _ _ z.2.1,z.2.2⟩
section
variable{P:US}{w:Vb}{H:Hp}{h:Heap}{a:Uq}
theorem N5(ok:Y9 P w H h)(e:Rd H a u):ObjOk P w H h a u:=e.ok ok
theorem zn(ok:Y9 P w H h)(e:Rd H a (.dK UY)):UY.length<=UB/\(a==VW)=Uw/\∃vs,KV UY vs/\h.DictOf (dB P w) a vs:=
 show ObjOk P w H h a (.dK UY)from N5 ok e
theorem zg(ok:Y9 P w H h)(e:H a=lD (.dK UY)):UY.length<=UB/\(a==VW)=Uw/\∃vs,KV UY vs/\h.DictOf (dB P w) a vs:=zn ok (.inl e)
theorem xg{ks:bb c7}(ok:Y9 P w H h)(e:H a=lD (.tup (ks.map kV))):(tupleKind (dB P w)).is h ks a:=by obtain⟨_,i,r,o,g,⟨f,n,b⟩,_⟩:=(show ObjOk P w H h a (.tup (ks.map kV))from ok a _ e);exact⟨o,i.toArray,n,g,f,b,by simpa using wg r⟩
theorem Ai(ok:Y9 P w H h)(e:Rd H a (.dT UY)):UY.length<=UB/\(a==VW)=Uw/\
  ∃xs,KT H UY xs/\h.DictOfH (tupleKind (dB P w)) a xs:=by
 obtain⟨z,y,xs,r,o,u,v,n,j,i,g,f⟩:=(show ObjOk P w H h a (.dT UY)from N5 ok e);refine⟨z,y,xs,r,o,u,v,n,j,i,g,λx b=>?_,f⟩;have all:∀{l:bb (bb c7×V)} {m:bb (bb c7×Uq×Uj)},KT H l m->∀x∈m,(tupleKind (dB P w)).is h x.1 x.2.1:=by
  intro l m q
  induction q with
  |nil=>intro x b;exact nomatch b
  | @cons p q ps qs hq t ih=>
   intro x b;rcases U2.mp b with e|b
   .subst e;exact xg ok (by rw[<-hq.1];exact hq.2.1)
   .exact ih x b
 exact all r x b
theorem R9(ok:Y9 P w H h)(e:H a=lD (.dT UY)):UY.length<=UB/\(a==VW)=Uw/\
  ∃xs,KT H UY xs/\h.DictOfH (tupleKind (dB P w)) a xs:=Ai ok (.inl e)
end
def abp(H:Hp)(a:Uq)(y:V)(r:bg V):Prop:=
 (∃UY k,Rd H a (.dK UY)/\y=kV k/\r=lu UY k)\/∃UY k b,Rd H a (.dT UY)/\y=.ref b/\H b=lD (.tup (k.map kV))/\r=lu UY k
def adP(H:Hp)(a:Uq)(y v:V)(H':Hp):Prop:=
 (∃UY k,H a=lD (.dK UY)/\y=kV k/\UY.length<UB/\H'=bM H a (.dK (jY UY k v)))\/
 ∃UY k b,H a=lD (.dT UY)/\y=.ref b/\H b=lD (.tup (k.map kV))/\UY.length<UB/\H'=bM H a (.dT (jY UY k v))
theorem abp.k{k:c7}(e:H a=lD (.dK UY)):abp H a (kV k) (lu UY k):=.inl ⟨UY,k,.inl e,rfl,rfl⟩
theorem adP.k{k:c7}(e:H a=lD (.dK UY))(b:UY.length<UB):adP H a (kV k) v (bM H a (.dK (jY UY k v))):=.inl ⟨UY,k,e,rfl,b,rfl⟩
section
variable{X:Cx}{Z:bb (Uq×Obj)}{Y:St}{H:Hp}{s:Ur}{a:Uq}{y v:V}{u r:Uj}{o:bg V}{A:U4}{E:Uj->Ur->Prop}
theorem Inv.big(I:Inv X Z Y H s):VW<s.heap.objs.size:=by have h:=(I.mod.glob.keeps I.bk).lt;exact XD (by decide) h
theorem Fp{Q:Uj->Ur->Prop}(t:A.units+1<cLine)(I:Inv X Z Y H s)(g:abp H a y (lD v))(q:RelV y u)(h:∀w' s',Inv X Z Y H s'->RelV v w'->Q w' s'):
  wpAny (model X.prog X.w) A (getItem (.ref a) u) Q E s:=by
 rcases g with⟨UY,k,e,n,l⟩|⟨UY,k,b,e,n,F,l⟩
 .subst n;obtain⟨z,C,vs,i,dd⟩:=zn I.VR e;obtain⟨w',j,f⟩:=Ys.some_of (v:=v) (o:=valueAt vs k) (by rw[l];exact i.val k);exact wpAny_getItem_of (wQ q) dd.mapOf j (h w' _ (I.tok _) f)
 .subst n;cases(show u=Uj.ref b from q);obtain⟨z,C,xs,i,dd⟩:=Ai I.VR e;obtain⟨w',j,f⟩:=Ys.some_of (v:=v) (o:=(atKey xs k).map (·.2)) (by rw[l];exact i.val k);obtain⟨p,B,m⟩:=aby.mp j;refine afb (aaF t) (xg I.VR F) dd B ?_;rw[m];exact h w' _ (I.tok _) f
theorem Tg{Q:Uj->Ur->Prop}(n:A.units+1<cLine)(I:Inv X Z Y H s)(g:abp H a y o)(m:RelV y u)(h:∀s',Inv X Z Y H s'->Q (.bool o.isSome) s'):
  wpAny (model X.prog X.w) A (Wv .In u (.ref a)) Q E s:=by
 rcases g with⟨UY,k,e,j,l⟩|⟨UY,k,b,e,j,p,l⟩
 .subst j;obtain⟨z,i,vs,f,dd⟩:=zn I.VR e;refine wpAny_in_of (wQ m) i dd.mapOf ?_;rw[<-(f.val k).Zb,<-l];exact h _ (I.tok _)
 .subst j;cases(show u=Uj.ref b from m);obtain⟨z,i,xs,f,dd⟩:=Ai I.VR e;refine wpAny_in_heap (aaF n) (xg I.VR p) i dd ?_;have q:=(f.val k).Zb;rw[ZZ]at q;rw[<-q,<-l];exact h _ (I.tok _)
theorem oV{h':Heap}{t':Nat}{f:HO}(I:Inv X Z Y H s)(g:RN (H a))(h:Heap.SameBut a s.heap h')(i:∃q,h'.get? a=lD q)(new:ObjOk X.prog X.w (bM H a f) h' a f):
  Inv X Z Y (bM H a f) {s with heap:=h',toks:=t'}:=
 I.write (x:=a) (e:=a) g (.inl rfl) (λb q j z=>(h.2 b j).trans z) i new
theorem BX(z:UY.length<=UB)(hd:(a==VW)=Uw)(b:KV UY vs)(dd:h'.DictOf (dB P w) a vs):
  ObjOk P w H' h' a (.dK UY):=⟨z,hd,vs,b,dd⟩
theorem Ga{H':Hp}{Q:Unit->Ur->Prop}(L:A.units+1<cLine)(I:Inv X Z Y H s)(g:adP H a y v H')(F:RelV y u)(rv:RelV v r)(h:∀s',Inv X Z Y H' s'->Q () s'):
  wpAny (model X.prog X.w) A (setItem (.ref a) u r) Q E s:=by
 rcases g with⟨UY,k,e,B,l,C⟩|⟨UY,k,b,e,B,K,l,C⟩
 .subst B C
  obtain⟨z,t,vs,f,dd⟩:=zg I.VR e;have m:vs.length<=UB:=by rw[<-f.length];exact z
  have p:(jY UY k v).length<=UB:=by have:=lJ UY k v;ext
  refine wpAny_setItem_pairs (hsz:=m) (wQ F) dd λG i n=>h _ ?_;have M:∃q,G.get? a=lD q:=let⟨q,_,_,j,_⟩:=i;⟨q,j⟩
  exact oV I (by rw[e];exact True.intro) n M (BX p t (f.put k rv) i)
 .subst B C
  cases(show u=Uj.ref b from F);obtain⟨z,t,xs,f,dd⟩:=R9 I.VR e;have m:xs.length<=UB:=by rw[<-Paired.length f];exact z
  have p:(jY UY k v).length<=UB:=by have:=lJ UY k v;ext
  refine afc (hsz:=m) (aaF L) (xg I.VR K) dd λG i n=>h _ ?_;obtain⟨q,S,T,j,R,P,O,_,N⟩:=i;refine oV I (by rw[e];exact True.intro) n ⟨q,j⟩ ⟨p,t,_,(f.put k K rv).keeps λc U J=>?_,q,S,T,j,R,P,O,N⟩;rw[aI (Sv J e (λz=>nomatch z))];exact J
end
section
variable{X:Cx}{Z:bb (Uq×Obj)}{σ:St}{H:Hp}{s:Ur}{a:Uq}{Y:bb (c7×V)}{k:c7}{u:Uj}{A:U4}{E:Uj->Ur->Prop}
theorem Rq{v:V}{b:bb Uj}{Q:Uj->Ur->Prop}(I:Inv X Z σ H s)(e:H a=lD (.dK Y))(j:RelV (kV k) u)(l:lu Y k=lD v)(hm:b=[]\/∃x,b=[x])
  (h:∀w' s',Inv X Z σ (bM H a (.dK (pR Y k))) s'->RelV v w'->Q w' s'):wpAny (model X.prog X.w) A (call (.builtin "dict.pop") (.ref a::u::b)) Q E s:=by
 obtain⟨z,B,vs,f,dd⟩:=zg I.VR e;obtain⟨w',n,m⟩:=Ys.some_of (v:=v) (o:=valueAt vs k) (by rw[<-l];exact f.val k);have r:(keyPart u).isSome=Um:=by
  cases k with
  |inl i=>obtain⟨t,q⟩:=(show∃t,u=Uj.int i t from j);subst q;rfl
  |inr x=>obtain⟨t,q⟩:=(show∃t,u=Uj.str x t from j);subst q;rfl
 have ha:argsOk "dict.pop" ⟨.ref a::u::b,[]⟩:=by
  rcases hm with q|⟨x,q⟩
  .subst q;exact PySem.F.args_dict_pop_2 _ _
  .subst q;exact PySem.F.args_dict_pop_3 _ _ _
 refine aaY abz dd.typeIs PySem.F.entry_dict_pop ha (meets_dict_pop_there (dB X.prog X.w) a (wQ j) b hm r)
  ⟨vs,w',dd,by rw[<-f.length];exact z,n,λC g p=>h w' _ ?_ m⟩
 have y:∃q,C.get? a=lD q:=let⟨q,_,_,hq,_⟩:=g;⟨q,hq⟩
 exact oV I (by rw[e];exact True.intro) p y (BX (Va (JU Y k) z) B (f.drop k) g)
end
def Pv(i:Vq):Prop:=∀ov iv,subscripted i Uw ov iv=operate [ov,iv] (getItem ov iv)
theorem CW{T l:String}
  (n:typeLookup (.type T) "__getitem__"=pure (lD (.builtin l))) (m:Pv slice)
  (h:wpAny (model prog w) A (eval value env) (λo s₁=>wpAny (model prog w) A (eval slice env) (λi s₂=>s₂.TypeIs o T/\wpAny (model prog w) A (getItem o i) Q E s₂) E s₁) E s):
  wpAny (model prog w) A (eval (.Subscript value slice pos) env) Q E s:=by
 refine Subscript_ (wpAny_mono h (λo s₁ g=>wpAny_mono g (λi s₂ a=>?_) λ_ _ x=>x) λ_ _ x=>x);obtain⟨j,a⟩:=a;unfold subscriptTail;refine Ug ?_;rw[getitemInPython_of_ne j.not_modules];refine Ug (ahv j n ?_);have e:wpAny (model prog w) A (subscripted slice Uw o i) (λr b=>wpAny (model prog w) A (letTemporaryGo value o r>>=λ_=>pure r) Q E b) E s₂:=by rw[m o i];exact wpAny_operating (wpAny_mono a (λr b f=>Ug (wpAny_letTemporaryGo (Ut f))) λ_ _ x=>x)
 first
  |exact Ut (Ug e)
  |exact Ug (Ut (Ug e))
  |exact Ug e
theorem AJ(I:Inv X pins σ H s)(g:abp H a y o):s.TypeIs (.ref a) "dict":=by
 rcases g with⟨UY,k,e,_,_⟩|⟨UY,k,b,e,_,_,_⟩
 .obtain⟨_,_,vs,_,dd⟩:=zn I.VR e;exact dd.typeIs
 .obtain⟨_,_,xs,_,dd⟩:=Ai I.VR e;exact dd.typeIs
def NQ(f ty:TE):TE:=λb H Q=>f b H λx g=>ty b g λy e=>∃a v,x=.ref a/\abp e a y (lD v)/\Q v e
def Rt(ty f:TE):TE:=λb H Q=>ty b H λy g=>f b g λx e=>∃a o,x=.ref a/\abp e a y o/\Q (.bl o.isSome) e
def NW(f ty e:TE):TS:=λD b H=>e b H λv i=>f b i λx h=>ty b h λy g=>∃a H4,x=.ref a/\adP g a y v H4/\D.nx b H4
section
variable{X:Cx}{o i e Z:Vq}{pos Y ajc:Pos}{T U tv:TE}
theorem Ej(t:X.A.units+1<cLine)(z:PE X o T)(hi:PE X i U)(w:Pv i):PE X (.Subscript o i pos) (NQ T U):=by intro b s j H Q I h;refine CW aaT.lookup w (cQ (z b s j H _ I h) λu m ⟨x,G,E,p,r⟩=>cQ (hi b m j G _ E r) λM L ⟨y,F,l,n,a,v,B,g,q⟩=>?_);subst B;obtain rfl:=p;exact⟨AJ l g,Fp t l g n λJ K C f=>⟨v,F,C,f,q⟩⟩
theorem ON(r:X.A.units+1<cLine)(hi:PE X i U)(t:PE X o T):PC X .In i o (Rt U T):=by intro b s f H Q I h;refine cQ (hi b s f H _ I h) λJ j ⟨y,E,B,l,p⟩=>cQ (t b j f E _ B p) λu G ⟨x,C,z,m,a,q,v,g,n⟩=>?_;subst v;obtain rfl:=m;exact Tg r z g l λF w=>⟨.bl q.isSome,C,w,rfl,n⟩
theorem Lb(z:X.A.units+1<cLine)(C:PE X o T)(hi:PE X i U)(w:PE X Z tv)(B:V3 Z (lD (.Subscript o i Y)) pos.line X.env=pure Uw):
  PS X (.Assign [.Subscript o i Y] Z pos) (NW T U tv):=by
 intro b s f H D I h;refine adx (cQ (w b s f H _ I h) λr l ⟨v,N,K,rv,t⟩=>cQ (C b l f N _ K t) λu j ⟨x,M,J,n,q⟩=>cQ (hi b j f M _ J q) λQ P ⟨y,R,G,m,a,L,E,g,p⟩=>?_) B;subst E;obtain rfl:=n;exact Ga z G g m rv λO F=>⟨f,L,F,p⟩
end
def qA(UY a:bb (c7×V)):bb (c7×V):=a.foldl (λb e=>jY b e.1 e.2) UY
theorem KV.merge:∀{a:bb (c7×V)} {b:bb (c7×Uj)} {UY:bb (c7×V)} {vs:bb (c7×Uj)},KV a b->KV UY vs->KV (qA UY a) (merged vs b):=by
 intro a b UY vs r;unfold KV at r
 induction r generalizing UY vs with
 |nil=>intro q;exact q
 | @cons p q ps qs h t ih=>
  intro r0;have e:KV (jY UY p.1 p.2) (stored vs q.1 q.2):=by have:=r0.put p.1 h.2;rw[<-h.1];exact this
  exact ih e
theorem nI:∀(a UY:bb (c7×V)),(qA UY a).length<=UY.length+a.length
 |[],UY=>by show UY.length<=UY.length+0;ext
 |p::r,UY=>by have e:=nI r (jY UY p.1 p.2);have b:=lJ UY p.1 p.2;show(qA (jY UY p.1 p.2) r).length<=_;rw[UD];ext
structure M1(X:Cx)(o:Vq)(m:Str)(apos:Pos)(e:Vq)(Xb:Pos):Prop where
 base:attributeBase o m X.env (eval o X.env)=eval o X.env
 few:((backTo Xb (U1 [e] X.env)).all (λx=> !x.1)&&(backToKw Xb (keywordEach [] X.env)).all (λx=>x.1.isSome)
  &&decide (([e]:bb Vq).length+([]:bb aaU).length+(if([]:bb aaU).isEmpty then 0 else 1)<30))=Um
 line:(apos.endLine==Xb.line)=Um
 trees:backTo Xb (U1 [e] X.env)=[(Uw,eval e X.env)]
structure M2(X:Cx)(o:Vq)(m:Str)(apos:Pos)(e f:Vq)(Xb:Pos):Prop where
 base:attributeBase o m X.env (eval o X.env)=eval o X.env
 few:((backTo Xb (U1 [e,f] X.env)).all (λx=> !x.1)&&(backToKw Xb (keywordEach [] X.env)).all (λx=>x.1.isSome)
  &&decide (([e,f]:bb Vq).length+([]:bb aaU).length+(if([]:bb aaU).isEmpty then 0 else 1)<30))=Um
 line:(apos.endLine==Xb.line)=Um
 trees:backTo Xb (U1 [e,f] X.env)=[(Uw,eval e X.env),(Uw,eval f X.env)]
def TH(H:Hp)(a:Uq):Prop:=(∃UY,Rd H a (.dK UY))\/∃UY,Rd H a (.dT UY)
theorem OM(I:Inv X pins σ H s)(d:TH H a):
  s.TypeIs (.ref a) "dict"/\(∀b,Uj.ref a=.ref b->∃ob,s.heap.get? b=lD ob/\ob.dict=Uh)/\(a==VW)=Uw:=by
 rcases d with⟨UY,e⟩|⟨UY,e⟩
 .obtain⟨_,f,vs,_,dd⟩:=zn I.VR e;refine⟨dd.typeIs,λb q=>?_,f⟩;cases q;obtain⟨ob,_,_,h,g,_⟩:=dd;exact⟨ob,h,g.2.1⟩
 .obtain⟨_,f,xs,_,dd⟩:=Ai I.VR e;refine⟨dd.typeIs,λb q=>?_,f⟩;cases q;obtain⟨ob,_,_,h,g,_⟩:=dd;exact⟨ob,h,g.2.1⟩
def Kn(g ty:TE):TE:=λb H Q=>g b H λx f=>∃a,x=.ref a/\TH f a/\ty b f λy e=>∃UY k v,e a=lD (.dK UY)/\y=kV k/\lu UY k=lD v/\Q v (bM e a (.dK (pR UY k)))
section
variable{X:Cx}{o e f:Vq}{Z Xb:Pos}{td ty tx:TE}
theorem J8(A:PE X o td)(B:PE X e ty)(m:M1 X o "pop" Z e Xb):PE X (.Call (.Attribute o "pop" Z) [e] [] Xb) (Kn td ty):=by intro b s i H Q I h;refine afP m.base m.few m.line Xl abz PySem.F.type_dict_pop (cQ (A b s i H _ I h) λu q ⟨x,L,j,t,a,E,d,z⟩=>?_);subst E;obtain rfl:=t;obtain⟨p,n,_⟩:=OM j d;refine⟨p,n,?_⟩;rw[m.trees];refine Calls.callWith_builtin rfl (Calls.evalArgs_plain (Calls.spliced_cons (cQ (B b q i L _ j z) λP O ⟨y,R,K,r,UY,k,v,G,C,l,w⟩=>Calls.spliced_nil ?_)));subst C;exact Rq K G r l (.inl rfl) λM N J g=>⟨v,_,J,g,w⟩
end
end L2
namespace L4
open PySem PySem.Spec PyProof.Rows L2 L3
def Fh(h:Heap)(e:Uq)(c:Uj)(dx:bg Uq)(a:Uj)(hd:bg Uq):Prop:=
 ∃ob fs,h.get? e=lD ob/\ob.cls=c/\ob.dict=dx/\ob.data=.fields fs/\fs[0]?=lD a/\
  match hd with
  |none=>fs[1]?=lD .none
  |some T=>fs[1]?=lD (.ref T)/\T≠e/\∃oT ts,h.get? T=lD oT/\oT.data=.fields ts/\ts[3]?=lD .none
structure Lft(l:bb Env)(e:Uq)(hd:bg Uq)(h h':Heap):Prop where
 keep:∀b o,h.get? b=lD o->b≠e->hd≠lD b->b∉yP l->h'.get? b=lD o
 slot:∀b o,h.get? b=lD o->b≠e->hd≠lD b->∃sl,h'.get? b=lD {o with slots:=sl}
 here:∀b o,h.get? b=lD o->∃o',h'.get? b=lD o'
section
variable{M:adg}{A:U4}{E:Uj->Ur->Prop}{s:Ur}
theorem jd
  (I:A.frames=lD (env::outer)) (B:s.heap.FunFrames base (env::outer)) (H:env.frame=lD L) (C:s.heap.get? e=lD ob) (p:ob.data=.fields fs) (m:1<fs.size) (J:fs[0]?=lD a0)
  (k:∀h' T,s.heap.objs.size<=T->Fh h' e ob.cls ob.dict a0 (lD T)->Lft (env::outer) e Uh s.heap h'->Q () {s with heap:=h'}):
  wpAny M A (frameOf env>>=λfr=>entryPlaceOf L nx>>=λpl=>EntryCells.newEntry hv fr .none (rawInt L) .none pl>>=λb=>setField (.ref e) 1 b) (λ_ s'=>wpAny M A (setFlight (.ref e) Uh) Q E s') E s:=by
 have j:e∉(env::outer).filterMap (·.frame):=λz=>by obtain⟨_,o,q,n⟩:=B.mem z;rw[C]at q;cases q;exact n fs p
 refine Ug (afQ I B H λa S=>?_);refine Ug (afd λpl P=>?_);unfold EntryCells.newEntry newFields;refine Ug (VF ?_ (P.sizeOk5 _ _ _ _ _));have y:=(S.2.1 e j).trans C;generalize hN:({cls:=.type "traceback",dict:=Uh,data:=.fields ([hv,.ref L,.none,rawInt L,.none]++(if pl.isEmpty then Uz 6 Uj.none else pl)).toArray}:Obj)=N;have g:N.data=.fields ([hv,.ref L,.none,rawInt L,.none]++(if pl.isEmpty then Uz 6 Uj.none else pl)).toArray:=by rw[<-hN]
 have K:=dt g;have w:=br N y;refine VS w p m ?_;have l:=VN (bP y);have r:=dk p (·.setIfInBounds 1 (Uj.ref a.objs.size));have i:=cv (Obj.mapFields (·.setIfInBounds 1 (Uj.ref a.objs.size))) w (dt r)
 have u:=
  (cn (a.push N) (Obj.mapFields (·.setIfInBounds 1 (Uj.ref a.objs.size))) l.symm).trans (cj a K)
 unfold setFlight;refine Ug (U7 i r (x:=.ref a.objs.size) (by simp[m]) ?_);rw[av (show(Uj.ref a.objs.size !=Uj.none)=Um from by simp)];have t:3<([hv,.ref L,.none,rawInt L,.none]++(if pl.isEmpty then Uz 6 Uj.none else pl)).toArray.size:=by simp only[UG,Uo,UD,Wn];ext
 refine VS u g t ?_;have v:=cn ((a.push N).update e (Obj.mapFields (·.setIfInBounds 1 (Uj.ref a.objs.size)))) (Obj.mapFields (·.setIfInBounds 3 ((Uh:bg Uq).elim Uj.none λf=>rawInt f))) l;have F:=cv (Obj.mapFields (·.setIfInBounds 3 ((Uh:bg Uq).elim Uj.none λf=>rawInt f))) u (dt (dk g _));have Yt:∀b o,b≠e->a.get? b=lD o->(((a.push N).update e (Obj.mapFields (·.setIfInBounds 1 (Uj.ref a.objs.size)))).update a.objs.size (Obj.mapFields (·.setIfInBounds 3 ((Uh:bg Uq).elim Uj.none λf=>rawInt f)))).get? b=lD o:=λb o ne q=>by rw[cn _ _ (VN (bP q)),cn _ _ ne.symm];exact br N q
 refine k _ a.objs.size (by rw[S.1];exact Ux _) ⟨_,_,v.trans i,Obj.cls_mapFields _ _,?_,r,?_,?_,l,_,_,F,dk g _,?_⟩ ⟨λb o q ne _ G=>Yt b o ne ((S.2.1 b G).trans q),λb o q ne _=>?_,λb o q=>?_⟩
 .cases ob with
  |mk c d O h=>cases O<;>rfl
 .rw[XF (by decide)];exact J
 .simp[m]
 .rw[V7 t];rfl
 .obtain⟨h,z⟩:=S.2.2 b o q;exact⟨h,Yt b _ ne z⟩
 .by_cases ne:b=e
  .subst ne;exact⟨_,v.trans i⟩
  .obtain⟨h,z⟩:=S.2.2 b o q;exact⟨_,Yt b _ ne z⟩
theorem F6
  (v:A.frames=lD (env::outer)) (u:s.heap.FunFrames base (env::outer)) (h:env.frame=lD L) (F:Fh s.heap e c dx a0 hd)
  (k:∀h' T,s.heap.objs.size<=T->Fh h' e c dx a0 (lD T)->Lft (env::outer) e hd s.heap h'->Q () {s with heap:=h'}):wpAny M A (leaving env (.ref e)) Q E s:=by
 obtain⟨N,fs,q,I,H,d,w,r⟩:=F;subst I H;cases hd with
 |none=>have r:=r;unfold leaving noteFrame;simp only[h];refine Ug (Ug (U7 q d r ?_));rw[ax (by decide)];exact jd v u h q d (U3.mp r).1 w k
 |some T=>
  obtain⟨r,C,O,B,g,dT,p⟩:=r;unfold leaving noteFrame;simp only[h];refine Ug (Ug (U7 q d r ?_));rw[av (show(Uj.ref T !=Uj.none)=Um from by simp)];refine Ug (U7 g dT p ?_);rw[ax (show¬((Uj.none==rawInt L)=Um)from by simp[rawInt])];refine Ug (VS g dT (U3.mp p).1 ?_);have f:∀b,b≠T->(s.heap.update T (Obj.mapFields (·.setIfInBounds 3 Uj.none))).get? b=s.heap.get? b:=λb ne=>cn _ _ ne.symm;have a:=cv (Obj.mapFields (·.setIfInBounds 3 Uj.none)) g (dt (dk dT _));have m:∀b o,s.heap.get? b=lD o->(∀vs,o.data≠.fields vs)->b≠T:=λb o z n y=>by rw[y,g]at z;cases z;exact n B dT
  refine jd v (u.of_keeps λb o z n=>⟨o,(f b (m b o z n)).trans z,rfl⟩) h ((f e C.symm).trans q) d (U3.mp r).1 w λh' J t K i=>k h' J (by rw[Heap.size_after_update]at t;exact t) K ⟨λb o z l j G=>?_,λb o z l j=>?_,λb o z=>?_⟩
  .exact i.keep b o ((f b λy=>j (by rw[y])).trans z) l (by simp) G
  .exact i.slot b o ((f b λy=>j (by rw[y])).trans z) l (by simp)
  .by_cases y:b=T
   .subst y;exact i.here b _ a
   .exact i.here b o ((f b y).trans z)
end
theorem Lft.VR{P:US}{w:Vb}{l:bb Env}{e:Uq}{hd:bg Uq}{H:Hp}{h h':Heap}(L:Lft l e hd h h')(m:Y9 P w H h)(ne:H e=Uh)(i:∀T,hd=lD T->H T=Uh)(j:∀b∈yP l,H b=Uh):Y9 P w H h':=λb u q=>by
 have free:∀c v,H c=lD v->c≠e/\hd≠lD c/\c∉yP l:=λc v z=>⟨(λy=>by rw[y,ne]at z;cases z),(λy=>by rw[i c y]at z;cases z),(λy=>by rw[j c y]at z;cases z)⟩;refine(m b u q).Yt (λc v n z=>?_) (λ_ z=>z) λ_ _ z=>z;rcases n with y|y
 .rw[y]at z⊢;obtain⟨g,f,a⟩:=free b u q;exact L.keep b v z g f a
 .obtain⟨g,f,a⟩:=free c _ y;exact L.keep c v z g f a
def jb(P:US)(w:Vb):xT:=λa H s E x b=>
 ∃e c dx a0 T H',x=.ref e/\s.heap.get? e=Uh/\s.heap.get? T=Uh/\Fh b.heap e c dx a0 (lD T)/\H' e=Uh/\H' T=Uh/\
  b.os=s.os/\AllBare b.gens/\Un (yP a) [] H H' s.heap b.heap/\Y9 P w H' b.heap/\E c dx H'
theorem Op{P:US}{w:Vb}{K:Ld}{mg:Str->bg Uj}{base:Heap}{N:bb Str}{i:Str}{a:Xg}{f:Uq}{v:Uj}{A:U4}{outer:bb Env}{g:Ur}{G:Hp}{E:XK}
  {l:bb (Uq×Obj)} {J:L2.St} {H:Hp} {s:Ur} {e:Uq} {c C:Uj} {dx hd:bg Uq} (I:L2.Inv (gb (jb P w) P w K mg base N i a f v A outer g G E) l J H s)
  (F:Fh s.heap e c dx C hd) (u:g.heap.get? e=Uh) (S:∀T,hd=lD T->g.heap.get? T=Uh) (ne:H e=Uh) (Q:∀T,hd=lD T->H T=Uh) (q:E c dx H):
  (gb (jb P w) P w K mg base N i a f v A outer g G E).xe (.ref e) s:=by
 have Z:=I.ok.frames;have Y:=I.stack;refine F6 (L:=g.heap.objs.size) Z Y rfl F λh' T t F' L=>?_;have R:=L.VR I.VR ne Q I.ZY;have X:H T=Uh:=I.VR.fresh t;have p:∀b o,g.heap.get? b=lD o->b<g.heap.objs.size:=λb o z=>bP z;have h:∀b o,g.heap.get? b=lD o->b≠e/\hd≠lD b:=λb o z=>⟨(λy=>by rw[y,u]at z;cases z),(λy=>by rw[S b y]at z;cases z)⟩;have sz:=I.sz;refine⟨e,c,dx,C,T,H,rfl,u,da (Va sz t),F',ne,X,I.os,I.bare,?_,R,q⟩;have B:=I.base;refine⟨λb o z n r _=>?_,λb o z n U _=>?_,λb o z n _=>?_,λb o z _=>?_,B.aaQ,B.aaw,B.aaI⟩
 .have j:=B.keep b o z n r (λy=>nomatch y)
  refine L.keep b o j (h b o z).1 (h b o z).2 λy=>?_;rcases U2.mp (I.ZD b y)with y|y
  .have y:b=g.heap.objs.size:=y;exact a5 (p b o z) (by rw[y];exact VH _)
  .exact r y
 .obtain⟨sl,j⟩:=B.slot b o z n U (λy=>nomatch y);obtain⟨m,M⟩:=L.slot b _ j (h b o z).1 (h b o z).2;exact⟨m,M⟩
 .exact B.free b o z n (λy=>nomatch y)
 .obtain⟨O,j⟩:=B.there b o z (λy=>nomatch y);exact L.here b O j
theorem j4{P:US}{w:Vb}{K:Ld}{mg:Str->bg Uj}{base:Heap}{N:bb Str}{g:Str}{a:Xg}{f:Uq}{m:Uj}{A:U4}{outer:bb Env}{i:Ur}{r:Hp}{E:XK}:
  fW (jb P w) (gb (jb P w) P w K mg base N g a f m A outer i r E) E:=by
 rintro l t H s x u I ⟨e,c,dx,B,T,C,rfl,le,lT,F,ne,nT,os,bare,un,VR,q⟩;have p:=I.abW (ch:=[]) os un VR bare (λb z=>nomatch z);have h:∀b,s.heap.get? b=Uh->i.heap.get? b=Uh:=λb z=>by
  cases y:i.heap.get? b with
  |none=>rfl
  |some o=>obtain⟨v,j⟩:=I.base.there b o y (λy=>nomatch y);rw[z]at j;cases j
 exact Op p F (h e le) (λn z=>by cases z;exact h T lT) ne (λn z=>by cases z;exact nT) q
theorem P3(x:ObjOk P w H h a o):∃ob,h.get? a=lD ob:=by
 cases o with
 |lst xs=>obtain⟨_,_,_,_,e⟩:=x;exact⟨_,e⟩
 |tup xs=>obtain⟨_,_,_,ob,e,_⟩:=x;exact⟨ob,e⟩
 |dK UY=>obtain⟨_,_,_,_,o,_,_,e,_⟩:=x;exact⟨o,e⟩
 |dT UY=>obtain⟨_,_,_,_,o,_,_,e,_⟩:=x;exact⟨o,e⟩
 |set S n=>obtain⟨o,_,_,_,e,_⟩:=x;exact⟨o,e⟩
 |ins C dx fs=>obtain⟨_,_,_,e,_⟩:=x;exact⟨_,e⟩
 |own y=>exact x
 |xd fs=>obtain⟨_,⟨o,_,_,e,_⟩,_⟩:=x;exact⟨o,e⟩
 |rng lo hi=>obtain⟨_,_,_,e⟩:=x;exact⟨_,e⟩
 |frz ob u=>exact⟨ob,x.1⟩
 |tbl ps=>exact⟨_,x⟩
 |met f y=>exact⟨_,x⟩
 |ext φ=>exact x.2.1
 |exw φ=>exact x.2.1
theorem zh(k:Y9 P w H h)(n:h.get? a=Uh):H a=Uh:=by
 cases q:H a with
 |none=>rfl
 |some o=>obtain⟨b,z⟩:=P3 (k a o q);rw[n]at z;cases z
section
variable{M:adg}{A:U4}{E:Uj->Ur->Prop}{s:Ur}
theorem MU{base:Heap}{env:Env}{outer:bb Env}{L e:Uq}{c B:Uj}{dx hd:bg Uq}{Q:Unit->Ur->Prop}
  (v:A.frames=lD (env::outer)) (u:s.heap.FunFrames base (env::outer)) (h:env.frame=lD L) (F:Fh s.heap e c dx B hd)
  (k:∀h' T,s.heap.objs.size<=T->Fh h' e c dx B (lD T)->Lft (env::outer) e hd s.heap h'->Q () {s with heap:=h'}):
  wpAny M A (noteFrame (.ref e) env) (λ_ s2=>wpAny M A (setFlight (.ref e) Uh) Q E s2) E s:=by
 obtain⟨O,fs,q,J,I,d,w,r⟩:=F;subst J I;cases hd with
 |none=>have r:fs[1]?=lD .none:=r;unfold noteFrame;simp only[h];refine Ug (U7 q d r ?_);rw[ax (by decide)];exact jd v u h q d (U3.mp r).1 w k
 |some T=>
  obtain⟨r,G,P,C,g,dT,p⟩:=r;unfold noteFrame;simp only[h];refine Ug (U7 q d r ?_);rw[av (show(Uj.ref T !=Uj.none)=Um from by simp)];refine Ug (U7 g dT p ?_);rw[ax (show¬((Uj.none==rawInt L)=Um)from by simp[rawInt])];refine Ug (VS g dT (U3.mp p).1 ?_);have f:∀b,b≠T->(s.heap.update T (Obj.mapFields (·.setIfInBounds 3 Uj.none))).get? b=s.heap.get? b:=λb ne=>cn _ _ ne.symm;have a:=cv (Obj.mapFields (·.setIfInBounds 3 Uj.none)) g (dt (dk dT _));have m:∀b o,s.heap.get? b=lD o->(∀vs,o.data≠.fields vs)->b≠T:=λb o z n y=>by rw[y,g]at z;cases z;exact n C dT
  refine jd v (u.of_keeps λb o z n=>⟨o,(f b (m b o z n)).trans z,rfl⟩) h ((f e G.symm).trans q) d (U3.mp r).1 w λh' K t N i=>k h' K (by rw[Heap.size_after_update]at t;exact t) N ⟨λb o z l j H=>?_,λb o z l j=>?_,λb o z=>?_⟩
  .exact i.keep b o ((f b λy=>j (by rw[y])).trans z) l (by simp) H
  .exact i.slot b o ((f b λy=>j (by rw[y])).trans z) l (by simp)
  .by_cases y:b=T
   .subst y;exact i.here b _ a
   .exact i.here b o ((f b y).trans z)
theorem QH{e T:Uq}{c j:Uj}{dx:bg Uq}{Q:Unit->Ur->Prop}(F:Fh s.heap e c dx j (lD T))
  (k:∀h',Fh h' e c dx j (lD T)->(∀b,b≠T->h'.get? b=s.heap.get? b)->(∃o,h'.get? T=lD o)->Q () {s with heap:=h'}):wpAny M A (setFlight (.ref e) Uh) Q E s:=by
 obtain⟨n,fs,q,t,p,d,u,r,i,w,v,h,dT,m⟩:=F;unfold setFlight;refine Ug (U7 q d r ?_);rw[av (show(Uj.ref T !=Uj.none)=Um from by simp)];have g:=(U3.mp m).1;refine VS h dT g ?_;have l:∀b,b≠T->(s.heap.update T (Obj.mapFields (·.setIfInBounds 3 ((Uh:bg Uq).elim Uj.none λf=>rawInt f)))).get? b=s.heap.get? b:=λb ne=>cn _ _ ne.symm;have a:=cv (Obj.mapFields (·.setIfInBounds 3 ((Uh:bg Uq).elim Uj.none λf=>rawInt f))) h (dt (dk dT _));refine k _ ⟨n,fs,(l e i.symm).trans q,t,p,d,u,r,i,_,_,a,dk dT _,?_⟩ l ⟨_,a⟩;rw[V7 g];rfl
end
section
variable{P:US}{w:Vb}{K:Ld}{mg:Str->bg Uj}{base:Heap}{N:bb Str}{qual:Str}{scope:Xg}{f:Uq}{cd:Uj}{A:U4}{outer:bb Env}{s0:Ur}{H0:Hp}{E:XK}{CX:xT}
  {σ:L2.St} {H:Hp} {s:Ur} {h':Heap} {X:Cx}
theorem uS(I:L2.Inv X [] σ H s)(S:Uq->Prop)(L:X.ex=[])(F:∀p∈X.pn,¬S p.1)(keep:∀b o,s.heap.get? b=lD o->¬S b->b∉yP X.stack->h'.get? b=lD o)
  (a:∀b o,s.heap.get? b=lD o->¬S b->∃sl,h'.get? b=lD {o with slots:=sl}) (t:∀b o,s.heap.get? b=lD o->∃o',h'.get? b=lD o')
  (Y:∀b,S b->X.s₀.heap.get? b=Uh) (R:¬S X.env.locals) (U:∀x c,X.env.cells.lookup x=lD c->¬S c) (T:∀b,S b->H b=Uh):L2.Inv X [] σ H {s with heap:=h'}:=by
 have O:∀b o,X.s₀.heap.get? b=lD o->¬S b:=λb o z y=>by rw[Y b y]at z;cases z
 have j:∀b,b∉X.ex:=λb z=>by rw[L]at z;cases z
 have B:=I.base;have e:∀x c,X.env.cells.lookup x=lD c->∀v,s.heap.IsCell c v->h'.IsCell c v:=λx c z v ⟨o,J,M⟩=>by obtain⟨sl,q⟩:=a c o J (U x c z);exact⟨_,q,M⟩
 refine⟨I.ok,I.os,I.bare,⟨λb o z n h _=>?_,λb o z n hf _=>?_,λb o z n x=>B.free b o z n x,λb o z x=>?_,B.aaQ,B.aaw,B.aaI⟩,?_,λx c z=>?_,I.free,I.X2,λp G=>?_,λb u q=>?_,I.len⟩
 .have g:=B.keep b o z n h (j b)
  refine keep b o g (O b o z) λy=>?_;rcases U2.mp (I.ZD b y)with y|y
  .rw[y]at z;exact a5 (bP z) (Nat.not_lt_of_le I.ok.above)
  .exact h y
 .obtain⟨sl,g⟩:=B.slot b o z n hf (j b);obtain⟨C,Q⟩:=a b _ g (O b o z);exact⟨C,Q⟩
 .obtain⟨o',g⟩:=B.there b o z x;exact t b o' g
 .obtain⟨m,hn,Z⟩:=I.loc
  obtain⟨o,es,ep,J,M,r⟩:=hn;obtain⟨sl,q⟩:=a _ o J R;refine⟨m,⟨_,es,ep,q,M,r⟩,λi x v a1 a2 a3=>?_⟩;obtain⟨u,rv,l⟩:=Z i x v a1 a2 a3;refine⟨u,rv,?_⟩;rcases l with l|⟨kd,c,z,y⟩
  .exact .inl l
  .exact .inr ⟨kd,c,z,e x c z _ y⟩
 .obtain⟨v,y⟩:=I.cell x c z;exact⟨v,e x c z v y⟩
 .obtain⟨z,n,ne,h,dd⟩:=I.pin p G
  rw[UT]at G;refine⟨keep p.1 p.2 z (F p G) (λy=>?_),n,ne,h,dd⟩;rcases U2.mp (I.ZD _ y)with y|y
  .exact ne y
  .exact h y
 .have free:∀c v,H c=lD v->¬S c/\c∉yP X.stack:=λc v z=>⟨(λy=>by rw[T c y]at z;cases z),(λy=>by rw[I.ZY c y]at z;cases z)⟩
  refine(I.VR b u q).Yt (λc v hc z=>?_) (λ_ z=>z) λ_ _ z=>z;rcases hc with y|y
  .rw[y]at z⊢;exact keep b v z (free b u q).1 (free b u q).2
  .exact keep c v z (free c _ y).1 (free c _ y).2
end
section
variable{M:adg}{A:U4}{E:Uj->Ur->Prop}{h:Heap}{g:Array Zc}{d:adf}{t:Nat}{os:ab4}
theorem Jf{C U e:Uq}{j:Obj}{z w y v:Str}{N1 N2:Uq}{b1 l b2 a:bb Uj}{Z Y:Bool}{u r:bb Str}{q p:bb Uj}{a1 a2:Bool}{c1 c2:bg Bool}{o n:bg Uq}{O N L K J I H G F B:bg Uj}{f b:String}{Q:Bool->Ur->Prop}
  (X:h.get? C=lD (excClassObj z w C N1 b1 l Z u q a1 c1 o O N L K J f)) (m:h.get? U=lD (excClassObj y v U N2 b2 a Y r p a2 c2 n I H G F B b)) (R:h.get? e=lD j) (S:j.cls=.ref C)
  (T:a.contains (.type "BaseException")=Um) (hm:(Uj.ref C::l).contains (.ref U)=Um) (P:Q Um ⟨h,g,d,t,os⟩):wpAny M A (excMatches (.ref e) (.ref U)) Q E ⟨h,g,d,t,os⟩:=by
 have i:(Uj.ref U::a).contains (.type "BaseException")=Um:=by rw[Z7,T,aaj]
 have ft:=tc_notTuple;unfold excMatches
 repeat (first|(specialize Wz R ?_;rw[S])|specialize Wz m ?_|(specialize Yn m ?_;rw[i])|(specialize Yn X ?_;rw[hm])|wp_step)
 exact P
end
abbrev Cx.marked(X:Cx)(e:Uq):Cx:={X with A:=X.A.mark (lD (.ref e)),calm:=Uw,xe:=λ_ _=>False}
section
variable{X:Cx}{Z:L2.St}{H:Hp}{s:Ur}{h':Heap}{e:Uq}
theorem uL(I:L2.Inv X [] Z H s)(e:Uq):L2.Inv (Cx.marked X e) [] Z H s:=
 ⟨⟨I.ok.mod,I.ok.kind,I.ok.glob,I.ok.blt,I.ok.above,I.ok.inj,I.ok.has,I.ok.cab,(λz=>nomatch z),I.ok.frames,I.ok.stk,I.ok.exf,I.ok.bs,I.ok.bsz,I.ok.abS,I.ok.abP,I.ok.ZA,I.ok.frf⟩,I.os,I.bare,I.base,I.loc,I.cell,I.free,I.X2,I.pin,I.VR,I.len⟩
theorem A3(ok:X.Ok)(I:L2.Inv (Cx.marked X e) [] Z H s):L2.Inv X [] Z H s:=
 ⟨ok,I.os,I.bare,I.base,I.loc,I.cell,I.free,I.X2,I.pin,I.VR,I.len⟩
end
def yV(K:Ld)(C:Uq)(m:bb Uj):Prop:=∃nm q N bs hd sn sub ab col dd k0 k1 k2 k3 k5 id,K.lookup C=lD (excClassObj nm q C N bs m hd sn sub ab col dd k0 k1 k2 k3 k5 id)
structure Apart(X:Cx)(a:Uq):Prop where
 n0:X.s₀.heap.get? a=Uh
 nL:a≠X.env.locals
 nC:∀y c,X.env.cells.lookup y=lD c->c≠a
 nP:∀p∈X.pn,p.1≠a
def GU(X:Cx)(E2:XK):Uj->Ur->Prop:=λx a=>∃σ' H1 e c dx a0 T,x=.ref e/\L2.Inv X [] σ' H1 a/\Fh a.heap e c dx a0 (lD T)/\Apart X e/\Apart X T/\H1 e=Uh/\H1 T=Uh/\E2 c dx H1
theorem uK(I:L2.Inv X pins σ H s)(e:X.ex=[])(n:s.heap.get? a=Uh):Apart X a:=by
 have ne:∀b o,s.heap.get? b=lD o->b≠a:=λb o z y=>by rw[y,n]at z;cases z
 refine⟨?_,?_,λy c z=>?_,λp h=>?_⟩
 .cases z:X.s₀.heap.get? a with
  |none=>rfl
  |some o=>obtain⟨g,y⟩:=I.base.there a o z (by rw[e];simp);exact a5 rfl (ne a g y)
 .obtain⟨m,⟨o,_,_,z,_⟩,_⟩:=I.loc;exact(ne _ o z).symm
 .obtain⟨v,o,f,_⟩:=I.cell y c z;exact ne c o f
 .exact ne _ _ (I.pin p (X0 _ h)).1
theorem Cj{X:Cx}(a:X.ex=[]):fW (jb X.prog X.w) (X.Y6 (GU X E2)) E2:=by rintro g h H s x m I ⟨e,c,dx,i,T,l,rfl,le,lT,F,ne,nT,os,bare,un,VR,q⟩;have f:=I.XZ;have j:=f.abW os un VR bare (λb z=>nomatch z);exact⟨h,l,e,c,dx,i,T,rfl,j.abt (λp z=>nomatch z),F,uK f a le,uK f a lT,ne,nT,q⟩
abbrev Cx.pinned(X:Cx)(l:bb (Uq×Obj)):Cx:={X with pn:=l}
theorem Lw(I:L2.Inv X pins σ H s):L2.Inv (Cx.pinned X (X.pn++pins)) [] σ H s:=
 ⟨⟨I.ok.mod,I.ok.kind,I.ok.glob,I.ok.blt,I.ok.above,I.ok.inj,I.ok.has,I.ok.cab,I.ok.hd,I.ok.frames,I.ok.stk,I.ok.exf,I.ok.bs,I.ok.bsz,I.ok.abS,I.ok.abP,I.ok.ZA,I.ok.frf⟩,I.os,I.bare,I.base,I.loc,I.cell,I.free,I.X2,(λp a=>I.pin p (by rw[UT]at a;exact a)),I.VR,I.len⟩
theorem ke(ok:X.Ok)(I:L2.Inv (Cx.pinned X (X.pn++pins)) [] σ H s):L2.Inv X pins σ H s:=
 ⟨ok,I.os,I.bare,I.base,I.loc,I.cell,I.free,I.X2,(λp a=>I.pin p (by rw[UT];exact a)),I.VR,I.len⟩
end L4
namespace L4
open PySem PySem.Spec PySem.W PyProof.Rows L2 L3
section
variable{prog:US}{w:Vb}{A:U4}{E:Uj->Ur->Prop}{h:Heap}{g:Array Zc}{d:adf}{t:Nat}{os:ab4}{a C:Uq}{o:Obj}{K:Ld}
  {n1 q1:Str} {N1:Uq} {b1 m1:bb Uj} {d1:Bool} {s1:bb Str} {u1:bb Uj} {a1:Bool} {c1:bg Bool} {x1:bg Uq} {i0 i1 i2 i3 i5:bg Uj} {id1:String}
structure aiX(K:Ld)(C:Uq)(m:bb Uj):Prop where
 cl:yV K C m
 be:m.contains (.type "BaseException")=Um
 ga:findIn K (.ref C) "__getattribute__"=lD (lD (.builtin "BaseException.__getattribute__"))
 gt:findIn K (.ref C) "__getattr__"=lD Uh
 cs:findIn K (.ref C) "__class__"=lD (lD (.builtin "object.__class__"))
 ob:mroIn K C (.type "object")=lD Um
end
end L4
namespace L3
open PySem PySem.Spec PyProof.Rows L2
def Fb:bb Int->Int
 |[]=>0
 |[a]=>a
 |a::r=>if Fb r<=a then a else Fb r
theorem xk:∀{ns:bb Int},0<ns.length->Fb ns∈ns/\∀i,i∈ns->i<=Fb ns
 |[a],_=>⟨UE,λi h=>by rw[UR.mp h];exact Yz _⟩
 |a::b::r,_=>by
  obtain⟨f,e⟩:=xk (ns:=b::r) (by rw[UD];ext);show(if Fb (b::r)<=a then a else Fb (b::r))∈a::b::r/\∀i,i∈a::b::r->i<=(if Fb (b::r)<=a then a else Fb (b::r));by_cases q:Fb (b::r)<=a
  .rw[av q]
   refine⟨UE,λi h=>?_⟩;rcases U2.mp h with z|z
   .omega
   .have:=e i z;ext
  .rw[ax q]
   refine⟨UC _ f,λi h=>?_⟩;rcases U2.mp h with z|z
   .omega
   .exact e i z
end L3
namespace L3
open PySem PySem.Spec PyProof.Rows L2
section
variable{K:Ld}{E:XK}
end
end L3
namespace L9
open PySem PySem.Spec PyProof.Rows
section
variable{M:adg}{A:U4}{E:Uj->Ur->Prop}{env:Env}
variable{nm q:Str}{C N:Uq}{bs Z:bb Uj}{hdct:Bool}{sn:bb Str}{sub:bb Uj}{ab:Bool}{col:bg Bool}{dd:bg Uq}{k0 k1 k2 k3 k5:bg Uj}{newId:String}
theorem jM(r:Z.contains (.type "BaseException")=Um)(n:A.handled=Uh)
  (h:wpAny M A x (λv s₁=>∃e ob,v=.ref e/\s₁.heap.get? C=lD (excClassObj nm q C N bs Z hdct sn sub ab col dd k0 k1 k2 k3 k5 newId)/\s₁.heap.get? e=lD ob/\ob.cls=.ref C/\(∃fs,ob.data=.fields fs/\fs[1]?=lD Uj.none)/\E (.ref e) s₁) E s):
  wpAny M A (raiseStmt env (lD x) Uh) Q E s:=by
 have f:(Uj.ref C::Z).contains (.type "BaseException")=Um:=by rw[Z7,r,aaj]
 unfold raiseStmt;refine Ug (wpAny_mono h (λv s₁ a=>?_) λ_ _ x=>x);obtain⟨e,ob,rfl,l,o,j,⟨fs,i,b⟩,p⟩:=a;obtain⟨y,w,m⟩:=ob;dsimp only at j i;subst j i;obtain⟨z,g,d,t,u⟩:=s₁
 repeat (first|specialize Wz o ?_|specialize Wz l ?_|(specialize Yn l ?_;rw[f])|wp_step)
 rw[b]
 repeat wp_step
 exact aeM n p
end
section
variable{prog:US}{w:Vb}{A:U4}{E:Uj->Ur->Prop}{h:Heap}{g:Array Zc}{d:adf}{t:Nat}{os:ab4}
variable{nm q:Str}{C N:Uq}{bs S Z:bb Uj}{hdct:Bool}{sn:bb Str}{sub:bb Uj}{ab:Bool}{col:bg Bool}{dd:bg Uq}{k0 k1 k2 k3 k5:bg Uj}{B R newId Y ZE X:String}{U:bb Uj}
theorem rX(y:XY R newId X U)(j:Z.contains (.type R)=Um)(F:XY B Y ZE Z)(T:afR h Z S)
  (i:h.get? C=lD (excClassObj nm q C N bs S hdct sn sub ab col dd k0 k1 k2 k3 k5 newId)) (hn:h.Ns N mN) (hi:mN "__init__"=lD (.ref fI)) (p:h.get? fI=lD oI) (n:oI.cls=.type "function")
  (G:∀h' e,Heap.MadeExcOf h h' e (.ref C) rest->wpAny (model prog w) A (call (.ref fI) (.ref e::rest)) (λr s'=>r=.none/\Q (.done (.ret (.ref e))) s') E ⟨h',g,d,t,os⟩) (hrest:rest.length<=UB):
  wpAny (model prog w) A (Vf.«type.__call__» ⟨.ref C::rest,[]⟩) Q E ⟨h,g,d,t,os⟩:=by
 repeat (first|specialize Wz i ?_|specialize wpAny_madeBy_exc i ?_|wp_step)
 refine codeAny_call_builtin_code (acd.quiet_builtin _ y.quiet) (wpAny_check_new_subU y j T i ?_);refine codeAny_exc_new_subU y j F T i ?_ hrest
 have a:=br {cls:=.ref C,data:=.fields #[.ref h.objs.size,.none,.none,.none,.bool Uw,.none]}
  (br {cls:=.type "tuple",data:=.seq rest.toArray} i)
 have v:=br {cls:=.ref C,data:=.fields #[.ref h.objs.size,.none,.none,.none,.bool Uw,.none]}
  (br {cls:=.type "tuple",data:=.seq rest.toArray} p)
 have f:((h.push {cls:=.type "tuple",data:=.seq rest.toArray}).push {cls:=.ref C,data:=.fields #[.ref h.objs.size,.none,.none,.none,.bool Uw,.none]}).Ns N mN:=
  let⟨o,es,ep,e,r⟩:=hn;⟨o,es,ep,br _ (br _ e),r⟩
 have l:((h.push {cls:=.type "tuple",data:=.seq rest.toArray}).push
   {cls:=.ref C,data:=.fields #[.ref h.objs.size,.none,.none,.none,.bool Uw,.none]}).get? (h.objs.size+1)=lD
   {cls:=.ref C,data:=.fields #[.ref h.objs.size,.none,.none,.none,.bool Uw,.none]}:=by heap_get
 have u:(Uj.ref C::S).contains (.ref C)=Um:=by simp
 have m:=T.keeps (h':=(h.push {cls:=.type "tuple",data:=.seq rest.toArray}).push {cls:=.ref C,data:=.fields #[.ref h.objs.size,.none,.none,.none,.bool Uw,.none]})
  λb o e=>br _ (br _ e)
 unfold isInstance
 repeat (first|specialize Wz l ?_|(specialize Yn a ?_;rw[u])|wp_step)
 refine wpAny_typeLookup_tail a f m F.mroIs F.init.lookup ?_;rw[hi];refine V1 (Ug ?_);unfold bindSpecial;refine Ug (aaW ⟨_,v,n⟩ ?_);rw[av (by decide)];refine Ut (Ug (wpAny_mono (G _ (h.objs.size+1) ⟨λb o H=>br _ (br _ H),da (aaS _),h.objs.size,l,da (Ux _),?_⟩) (λr s' z=>?_) λ_ _ x=>x))
 .exact br _ (Heap.get?_push_at rfl rfl)
 .obtain⟨rfl,I⟩:=z
  wp_walk
  exact I
theorem BV(l:XY R newId X U)(i:Z.contains (.type R)=Um)(F:XY B Y ZE Z)(T:afR h Z S)
  (a:h.get? C=lD (excClassObj nm q C N bs S hdct sn sub ab col dd k0 k1 k2 k3 k5 newId)) (hn:h.Ns N mN) (hi:mN "__init__"=lD (.ref fI)) (f:h.get? fI=lD oI) (b:oI.cls=.type "function")
  (j:∀h' e,Heap.MadeExcOf h h' e (.ref C) rest->wpAny (model prog w) (A.under (.builtin "type.__call__" ⟨.ref C::rest,[]⟩)) (call (.ref fI) (.ref e::rest)) (λr s'=>r=.none/\Q (.ref e) s') E ⟨h',g,d,t,os⟩) (hrest:rest.length<=UB):
  wpAny (model prog w) A (call (.ref C) rest) Q E ⟨h,g,d,t,os⟩:=by
 have o:=tc_lookup;have n:=tc_bind (.ref C);have m:(⟨h,g,d,t,os⟩:Ur).TypeIs (.ref C) "type":=⟨_,a,rfl⟩;refine Zo (codeAny_of_tree ?_)
 repeat (any_goals (first|assumption|specialize Wz a ?_|wp_step))
 refine⟨rfl,?_⟩;refine codeAny_call_builtin_at (acd.quiet_builtin _ (by left)) entry_typeCall (wpAny_check_type_call_sub a (rX (hrest:=hrest) l i F T a hn hi f b λh' e hm=>?_));exact j h' e hm
end
section
variable{prog:US}{w:Vb}{A:U4}{E:Uj->Ur->Prop}{s:Ur}{env:Env}
variable{nm q:Str}{C N:Uq}{bs Y Z:bb Uj}{hdct:Bool}{sn:bb Str}{sub:bb Uj}{ab:Bool}{col:bg Bool}{dd:bg Uq}{k0 k1 k2 k3 k5:bg Uj}{B Bn newId X ZE U:String}{S:bb Uj}
theorem Az(R:XY Bn newId U S)(t:Z.contains (.type Bn)=Um)(F:XY B X ZE Z)
  (y:Y.contains (.type "BaseException")=Um) (o:A.handled=Uh) (u:(backTo Xb (U1 args env)).any (·.1)=Uw) (hi:mN "__init__"=lD (.ref fI)) (p:oI.cls=.type "function")
  (h:wpAny (model prog w) A (eval (.Name x np) env) (λf s₁=>f=.ref C/\wpAny (model prog w) A (evalArgs (.ref C) Um (backTo Xb (U1 args env)) [])
   (λa s₂=>a.kw=[]/\a.pos.length<=UB/\s₂.heap.get? C=lD (excClassObj nm q C N bs Y hdct sn sub ab col dd k0 k1 k2 k3 k5 newId)/\s₂.heap.Ns N mN/\s₂.heap.get? fI=lD oI/\afR s₂.heap Z Y/\
    ∀h' e,Heap.MadeExcOf s₂.heap h' e (.ref C) a.pos->wpAny (model prog w) (A.under (.builtin "type.__call__" ⟨.ref C::a.pos,[]⟩)) (call (.ref fI) (.ref e::a.pos)) (λr s'=>r=.none/\∃ob,s'.heap.get? C=lD (excClassObj nm q C N bs Y hdct sn sub ab col dd k0 k1 k2 k3 k5 newId)/\s'.heap.get? e=lD ob/\ob.cls=.ref C/\(∃fs,ob.data=.fields fs/\fs[1]?=lD Uj.none)/\E (.ref e) s') E {s₂ with heap:=h'}) E s₁) E s):
  wpAny (model prog w) A (exec (.Raise (lD (.Call (.Name x np) args [] Xb)) Uh pos) env) Q E s:=by
 rw[arm_exec_Raise]
 first
  |refine Ug (WE (jM y o (Ug (wpAny_mono (aaZ (wpAny_mono h (λf s₁ i=>?_) λ_ _ x=>x)) (λv l b=>Ug (WE (Ut b))) λ_ _ x=>x))))
  |(simp only[evalOpt,Option.map];refine Ug (WE (jM (C:=C) (nm:=nm) (q:=q) (N:=N) (bs:=bs) (hdct:=hdct) (sn:=sn) (sub:=sub) (ab:=ab) (col:=col) (dd:=dd) (k0:=k0) (k1:=k1) (k2:=k2) (k3:=k3) (k5:=k5) (newId:=newId) y o (Ug (wpAny_mono (aaZ (wpAny_mono h (λf s₁ i=>?_) λ_ _ x=>x)) (λv l b=>Ug (WE (Ut b))) λ_ _ x=>x)))))
  |(refine Ug (WE (jM y o ?_));refine Ug (wpAny_mono (aaZ (wpAny_mono h (λf s₁ i=>?_) λ_ _ x=>x)) (λv l b=>Ug (WE (Ut b))) λ_ _ x=>x))
 obtain⟨rfl,i⟩:=i;unfold callWith;refine Ug (V1 (wpAny_mono i (λa s₂ j=>Ug (WE ?_)) λ_ _ x=>x));obtain⟨G,P⟩:=a;obtain⟨n,m,z,hn,I,T,j⟩:=j;obtain rfl:=n;obtain⟨hp,g,d,tk,os⟩:=s₂;simp only[u];refine Ug (wpAny_keeperOf_exc z ?_);refine Ug (BV (hrest:=m) R t F T z hn hi I p λh' e hm=>wpAny_mono (j h' e hm) (λr s' ⟨H,ob,O,M,L,K,J⟩=>⟨H,Ug (V1 (wpAny_point (Ut ?_)))⟩) λ_ _ x=>x);exact⟨e,ob,rfl,O,M,L,K,J⟩
end
end L9
namespace L9
open PySem PySem.W PyProof.Rows Builtin Builtin.ObjectAttr
abbrev KH:bb Uj:=[.type "ValueError",.type "Exception",.type "BaseException",.type "object"]
section
variable{prog:US}{w:Vb}{A:U4}{K:Frag}{B C x:Uq}{s:Ur}{R:abb->Ur->Prop}{Z:ClassData}{name:Str}{Y:Tok}{v:Uj}{fs:Array Uj}
theorem LY(X:K.In s.heap)(z:clsIn K C=lD Z)(hm:Z.mro=.ref C:: .ref B::KH)(hd:Z.hasDict=Um)(hn:findIn K (.ref C) name=lD Uh)(i:s.heap.get? x=lD ⟨.ref C,Uh,.fields fs,#[]⟩)
  (H:∀h' tk',h'.get? x=lD ⟨.ref C,lD s.heap.objs.size,.fields fs,#[]⟩->h'.Ns1 s.heap.objs.size (λy=>if y=name then lD v else Uh)->(∀b o,b≠x->s.heap.get? b=lD o->h'.get? b=lD o)->R (.ok (.ret .none)) {s with heap:=h',toks:=tk'}):
  codeAny (model prog w) A (.call (.builtin "object.__setattr__") ⟨[.ref x,.str name Y,v],[]⟩) R s:=by
 have I:InstAt s.heap x ⟨.ref C,Uh,.fields fs,#[]⟩ C Uh:=⟨i,rfl,rfl,True.intro⟩;have m:=PySem.F.store_object;have sub:Looks (model prog w) s.heap (isInstance (.ref x) (.type "object")) Um:=I.type.andThen (looks_mroIn X (by unfold mroIn;rw[z,Option.bind_some,hm,ax (by simp)];simp));refine Yd m.slot.plain m.entry (@check_slot (model prog w) _ _ s "object.__setattr__" "object" "__setattr__" (.ref x) [.str name Y,v] [] _ m.kind m.split sub (m.args (.ref x) (.str name Y) v) ?_);have l:Looks (model prog w) s.heap (mroOf (.ref C)) Z.mro:=(looks_clsIn X z).andThen .now;rw[osa_eq,refuse_eq];refine Ug (Ug (I.type.here (Ug (l.here ?_))));rw[hm,aiJ,aiJ,PySem.F.store_ValueError.passes];refine Ut (Ug (I.type.here (Ug ((looks_findIn X hn).here (Ug (Ut ?_))))));unfold storeInOwnDict;refine Ug (Ut (Ug ?_));unfold ownDictForStores instanceDict;refine Ug (aiC i (Ug ((looks_clsIn X z).here ?_)));rw[hd,ax (by decide)];show wpAny _ _ (if(!Um|| !typeHasDict (.ref C))=Um then pure Uh else(do
        let d<-alloc {cls:=Uj.type "dict",data:=Data.dict #[]}
        update x λo=>{cls:=o.cls,dict:=lD d,data:=o.data,slots:=o.slots}
        dictMade (.ref C) x d)) _ _ _
 rw[ax (by simp[typeHasDict])];obtain⟨h,g,d,t,os⟩:=s;dsimp only at X i H I sub l⊢;have f:(h.push {cls:=.type "dict",data:=.dict #[]}).get? x=lD ⟨.ref C,Uh,.fields fs,#[]⟩:=br _ i;have a:=UX (bP i);refine Ug (wpAny_alloc' ?_);refine Ug (wpAny_update' f ?_);refine Ut ?_
 have q:((h.push {cls:=.type "dict",data:=.dict #[]}).update x λo=>{cls:=o.cls,dict:=lD h.objs.size,data:=o.data,slots:=o.slots}).get? h.objs.size
   =lD {cls:=.type "dict",data:=.dict #[]}:=
  (Heap.get?_update_ne _ _ _ _ a.symm).trans (Heap.get?_push_at rfl rfl)
 have p:((h.push {cls:=.type "dict",data:=.dict #[]}).update x λo=>{cls:=o.cls,dict:=lD h.objs.size,data:=o.data,slots:=o.slots}).Ns h.objs.size (λ_=>Uh):=
  ⟨_,#[],_,q,rfl,λe M=>a5 M (by simp),λ_=>rfl⟩
 unfold storeInDict newKeyGuard;refine Ug (Ut (Ug (wpAny_nsSet1 (Heap.Ns1.of_empty p) λh' j G=>?_)));obtain⟨oD,O,Q,n,r,u⟩:=j.count (Within.cons name v Within.nil);refine Ug (agn n (by rw[r];exact ago (Va u (by rw[UD,Wn,Wx];ext))) ?_);refine Ut (H h' _ ?_ ?_ λb ob E J=>?_)
 .exact(G.2 x a).trans (cv _ f rfl)
 .obtain⟨L,P,S,e1,e2,U,N,T⟩:=j;exact⟨L,P,S,e1,e2,U,N,λy=>by rw[T y]⟩
 .exact(G.2 b (UX (bP J))).trans ((Heap.get?_update_ne _ _ _ _ E).trans (br _ J))
theorem KN(X:K.In s.heap)(g:clsIn K C=lD Z)(hm:Z.mro=.ref C:: .ref B::KH)(hd:Z.hasDict=Um)(a:findIn K (.ref C) "__setattr__"=lD (lD (.builtin "object.__setattr__")))(hn:findIn K (.ref C) name=lD Uh)(e:s.heap.get? x=lD ⟨.ref C,Uh,.fields fs,#[]⟩)
  (f:∀h' tk',h'.get? x=lD ⟨.ref C,lD s.heap.objs.size,.fields fs,#[]⟩->h'.Ns1 s.heap.objs.size (λy=>if y=name then lD v else Uh)->(∀b o,b≠x->s.heap.get? b=lD o->h'.get? b=lD o)->Q () {s with heap:=h',toks:=tk'}):
  wpAny (model prog w) A (setAttr (.ref x) name v) Q E s:=
 set_plain X (⟨e,rfl,rfl,True.intro⟩:InstAt s.heap x ⟨.ref C,Uh,.fields fs,#[]⟩ C Uh) a (LY X g hm hd hn e f)
end
section
variable{prog:US}{w:Vb}{A:U4}{E:Uj->Ur->Prop}{h:Heap}{g:Array Zc}{d:adf}{t:Nat}{os:ab4}
variable{nm q:Str}{C N:Uq}{bs bm Z:bb Uj}{hdct:Bool}{sn:bb Str}{sub:bb Uj}{ab:Bool}{col:bg Bool}{dd:bg Uq}{k0 k1 k2 k3 k5:bg Uj}{B newId Y ZE:String}
theorem E6(F:XY B Y ZE Z)(T:afR h Z bm)
  (p:h.get? C=lD (excClassObj nm q C N bs bm hdct sn sub ab col dd k0 k1 k2 k3 k5 newId)) (j:h.get? e=lD ⟨.ref C,Uh,.fields fs,#[]⟩) (l:fs[0]?=lD (.ref t0))
  (m:∀h' fs',h'.get? e=lD ⟨.ref C,Uh,.fields fs',#[]⟩->fs'[0]?=lD (.ref h.objs.size)->(∀i,i≠0->fs'[i]?=fs[i]?)->(∀b o,b≠e->h.get? b=lD o->h'.get? b=lD o)->Q .none ⟨h',g,d,t,os⟩) (hrest:rest.length<=UB):
  wpAny (model prog w) A (call (.builtin ZE) (.ref e::rest)) Q E ⟨h,g,d,t,os⟩:=by
 refine Zo (Yd F.init.plain F.initEntry (wpAny_check_init_subU F T p j rfl ?_));unfold Vf.«BaseException.__init__»;dsimp only;rw[ax (by simp)];unfold newTuple Vf.BaseException.bexcPut;have f:=(U3.mp l).1;have a:(h.push {cls:=.type "tuple",data:=.seq rest.toArray}).get? e=lD ⟨.ref C,Uh,.fields fs,#[]⟩:=br _ j;refine Ug (VF (Ug (Ug (U7 a rfl l (Ug (VS a rfl f ?_))))) (by show rest.toArray.size<=UB;rw[UG];exact hrest));refine Xh (Ut (m _ (fs.setIfInBounds 0 (.ref h.objs.size)) ?_ (by simp[f]) (λi hi=>by rw[XF (dN hi)]) λb o n z=>?_))
 .exact cv (Obj.mapFields (·.setIfInBounds 0 (.ref h.objs.size))) a rfl
 .exact(cn _ _ (dN n)).trans (br _ z)
end
end L9
namespace L9
open PySem PySem.Spec PyProof.Rows L2
def SY(v:V):Prop:=v=.WA\/∃i:Int,v=.int i/\i.natAbs.log2<1920
theorem Lh{i:Int}(h:i.natAbs.log2<1920):(Str.ofString (toString i)).length<=5000:=by have e:=int_text_length_le (by decide) h;rw[PySem.ofString_length];ext
theorem OV(I:Inv X pins σ H s)(r:RelV v u)(f:SY v)
  (h:∀(y:Str) (t:Tok) (a:Ur),y.length<=5000->Inv X pins σ H a->Q (.str y t) a):wpAny (model X.prog X.w) A (formatField u Str.empty) Q E s:=by
 rcases f with rfl|⟨i,rfl,hi⟩
 .obtain rfl:=r;exact wpAny_formatField_none (h _ _ _ (by decide) (I.tok _))
 .obtain⟨t,rfl⟩:=r;exact formatField_int_small hi (h _ _ _ (Lh hi) (I.tok _))
def PJ(X:Cx)(es:bb Vq)(n:Nat)(t:L2.St->Hp->(Hp->Prop)->Prop):Prop:=
 ∀(a:bb (Uq×Obj)) (s:Ur) (e:L2.St) (H:Hp) (b:Str) (Q:Hp->Prop),Inv X a e H s->b.length+n<=1000000->t e H Q->
  wpAny (model X.prog X.w) X.A (joinParts b (evalEach es X.env)) (λv h=>∃(y:Str) (g:Tok) (f:Hp),v=.str y g/\Inv X a e f h/\Q f) X.xe s
section
variable{X:Cx}{e:Vq}{es:bb Vq}{n:Nat}{te:TE}{t:L2.St->Hp->(Hp->Prop)->Prop}{pos:Pos}
theorem Qf:PJ X [] 0 (λ_ H Q=>Q H):=by intro a s f H b Q I g h;exact joinParts_nil ⟨_,_,H,rfl,I.tok _,h⟩ (by rw[Wx];ext)
theorem Qp(i:x.length<=5000)(g:PJ X es n t):PJ X (.Constant (.str x) k pos::es) (n+5000) t:=by intro a s f H b Q I j h;refine joinParts_consE (joinParts_cons (Calls.Constant_str ?_));have e:=akJ b x;exact⟨by rw[Wx];ext,g a _ f H (b++x) Q (I.tok _) (by ext) h⟩
theorem P1(i:PE X e te)(g:PJ X es n t):PJ X (.FormattedValue e (-1) Uh pos::es) (n+5000) (λσ H Q=>te σ H λv H1=>SY v/\t σ H1 Q):=by intro a s σ H b Q I z h;refine joinParts_consE (joinParts_cons (FormattedValue_plain (cQ (i a s σ H _ I h) λu o ⟨v,H1,j,r,f,q⟩=>?_)));refine OV j r f λy m p w l=>?_;have e:=akJ b y;exact⟨by rw[Wx];ext,g a _ σ H1 (b++y) Q l (by ext) q⟩
theorem Mz(h:PJ X (g::e2::es) n t)(hn:n<=900000):PE X (.JoinedStr (g::e2::es) pos) (λσ H Q=>t σ H λH1=>∀y:Str,Q (.str y) H1):=by intro a s σ H Q I b;refine JoinedStr_many (cQ (h a s σ H Str.empty _ I (by show 0+n<=1000000;ext) b) λv l ⟨y,j,H1,f,i,q⟩=>?_);subst f;exact⟨.str y,H1,i,⟨_,rfl⟩,q y⟩
end
def LQ(C e:Uq):Heap->Prop:=λh=>∃fs t0,h.get? e=lD ⟨.ref C,Uh,.fields fs,#[]⟩/\fs[0]?=lD (.ref t0)/\fs[1]?=lD .none
def Si(C e p:Uq):Heap->Prop:=λh=>∃fs a0,h.get? e=lD ⟨.ref C,lD p,.fields fs,#[]⟩/\fs[0]?=lD a0/\fs[1]?=lD .none
structure XC(K:Ld)(C B fI:Uq):Prop where
 obj:∃nm q N bs sn sub ab col dd k0 k1 k2 k3 k5,K.lookup C=lD (excClassObj nm q C N bs (.ref B::KH) Um sn sub ab col dd k0 k1 k2 k3 k5 "ValueError.__new__")/\aaG K N=Um/\UP K N "__init__"=lD (lD (.ref fI))
 base:Zf K B KH "ValueError.__new__"=Um
 sa:Vi K (.ref C) "__setattr__"=lD (lD (.builtin "object.__setattr__"))
theorem yY{K:Ld}(q:Zf K B KH n=Um):YX K KH (.ref B::KH)=Um:=by
 unfold Zf at q;split at q
 .rename_i dd f e b
  split at q
  .simp only[UW,beq_iff_eq,Bool.not_eq_true']at q;obtain⟨⟨⟨⟨⟨_,_⟩,_⟩,_⟩,VR⟩,a⟩:=q;unfold YX;dsimp only;rw[b];dsimp only;rw[VR,a,show YX K KH KH=Um from by unfold YX;rw[ec,Xx],ec,WM,WM,aaj]
  .cases q
 .cases q
section
variable{X:Cx}{B C fI:Uq}{pos S U:Pos}{Y:Vq}{Z:bb Vq}{t:TA}{b:Str}
theorem GP(h:H a=lD o):bM H a o=H:=by
 funext c;by_cases z:c=a
 .rw[z,aV,h]
 .rw[aI z]
def Qs(C:Uq)(t:TA):TE:=λf H Q=>t f H λvs a=>∃e y,vs=[.ref e,.str y]/\a e=lD (.ext (LQ C e))/\Q .WA a
theorem Jc{pl:Sem Bool}(hg:Gl X b)(hm:X.mg b=lD (.ref B))(hr:aas X.K B (.type "type")=Um)(hf:aat X.K (.ref B) (.type "type") "__init__"=lD (.val (.builtin "ValueError.__init__")))
  (hs:Xs X.K (.ref B) "__getattribute__"=lD (lD (.builtin "type.__getattribute__"))) (E:XC X.K C B fI) (ha:PA X (Y::Z) t)
  (d5:U1 (Y::Z) X.env=(Uw,eval Y X.env)::U1 Z X.env:=by rfl) (l:(backTo pos (U1 Z X.env)).any (·.1)=Uw:=by rfl) (m:(b==("__debug__":Str))=Uw:=by decide)
  (ht:eval (.Call (.Attribute (.Name b S) "__init__" U) (Y::Z) [] pos) X.env=(do
   let ov<-eval (.Name b S) X.env
   standAt U.atName
   let(f,first)<-holding [ov] (getMethod ov "__init__" pl)
   callWith pos f first (backTo pos (U1 (Y::Z) X.env)) (backToKw pos (keywordEach [] X.env))):=by rfl):
  PE X (.Call (.Attribute (.Name b S) "__init__" U) (Y::Z) [] pos) (Qs C t):=by
 intro a s J H Q I h;refine YN (pl:=pl) (my I hg hm ?_ m) ht;refine PySem.W.method_cls I.Zv hs (PySem.W.cls_value I.Zv hr hf (by decide) ?_);have F:=ha pos a {s with toks:=s.toks+1} J H _ (I.tok _) h;rw[d5]at F⊢;refine Calls.callWith_builtin (by show(Uw||(backTo pos (U1 Z X.env)).any (·.1))=Uw;rw[l]<;>rfl) (Calls.evalArgs_plain (cQ F λus A ⟨vs,G,i,r,e,y,ev,n,q⟩=>?_));subst ev;obtain⟨P,u2,rfl,r1,r2⟩:=D8 r;obtain rfl:P=.ref e:=r1;obtain⟨tk,rfl⟩:=r2;obtain⟨⟨fs,t0,g1,g2,g3⟩,_,gk⟩:=(show ObjOk X.prog X.w G A.heap e (.ext (LQ C e))from i.VR e _ n);obtain⟨nm,q',N,bs,sn,sub,ab,col,dd,k0,k1,k2,k3,k5,lk,VR,hin⟩:=E.obj;have T:=acg i.Zv (yY E.base);obtain⟨h2,g,d,j,os⟩:=A;refine E6 WU T (i.Zv _ _ lk) g1 g2 (λh' p v e2 e3 e4=>?_) (by show 1<=UB;decide);refine⟨.WA,G,?_,rfl,q⟩;have w:=i.write (x:=e) (e:=e) (o:=.ext (LQ C e)) (h':=h') (t':=j) (by rw[n];exact True.intro) (.inl rfl) (λb u hb z=>e4 b u hb z) ⟨_,v⟩ ⟨⟨p,_,v,e2,by rw[e3 1 (by decide)];exact g3⟩,⟨_,v⟩,λh1 h2 ⟨f1,R,O,M,L⟩ hk=>⟨f1,R,hk _ O,M,L⟩⟩;rw[GP n]at w;exact w
def Sy(C:Uq)(f:Str)(i h:TE):TS:=λD a H=>h a H λv j=>i a j λx g=>∃e,x=.ref e/\g e=lD (.ext (LQ C e))/\∀p,g p=Uh->p≠e->D.nx a (bM (bM g e (.ext (Si C e p))) p (.xd [(f,v)]))
theorem MP(Q:XC X.K C B fI)(hn:Vi X.K (.ref C) f=lD Uh)(ha:PE X o ta)(hv:PE X value tv)(hs:V3 value (lD (.Attribute o f pos')) pos.line X.env=pure Uw):PS X (.Assign [.Attribute o f pos'] value pos) (Sy C f ta tv):=by
 intro l s G H D I h;refine aa3 (cQ (hv l s G H _ I h) λu s1 ⟨v,H1,I1,rv,q⟩=>cQ (ha l s1 G H1 _ I1 q) λov p ⟨x,T,A,rx,e,ex,j,q2⟩=>?_) hs;subst ex;obtain rfl:=rx;obtain⟨⟨fs,t0,R,g2,g3⟩,_,gk⟩:=(show ObjOk X.prog X.w T p.heap e (.ext (LQ C e))from A.VR e _ j);obtain⟨nm,q',N,bs,sn,sub,ab,col,dd,k0,k1,k2,k3,k5,lk,VR,hin⟩:=Q.obj;obtain⟨F,hc,L,M⟩:∃F,ad6 X.K C=lD F/\F.mro=.ref C:: .ref B::KH/\F.hasDict=Um:=by unfold ad6;rw[lk];exact⟨_,rfl,rfl,rfl⟩
 refine KN A.Zv hc L M Q.sa hn R λh' tk' O e2 E=>?_;have pe:=VN (bP R);have r:=A.VR.fresh (Ux _);refine⟨G,_,?_,q2 p.heap.objs.size r pe⟩;have m:∀b o,p.heap.get? b=lD o->b≠p.heap.objs.size:=λb o z=>UX (bP z);refine A.un ⟨λb o z n _ _=>E b o (λy=>by rw[y,j]at n;cases n) z,λb o z n _ _=>⟨o.slots,E b o (λy=>by rw[y,j]at n;cases n) z⟩,λb o z n _=>?_,λb o z _=>?_,λb xs z=>?_,λb o u z=>?_,λb ps z=>⟨#[],?_⟩⟩ ?_
 .rw[aI (m b o z),aI (λy=>by rw[y,j]at n;cases n)];exact n
 .by_cases y:b=e
  .subst y;exact⟨_,O⟩
  .exact⟨o,E b o y z⟩
 .rw[aI (λy=>by rw[y,r]at z;cases z),aI (λy=>by rw[y,j]at z;cases z)];exact z
 .rw[aI (λy=>by rw[y,r]at z;cases z),aI (λy=>by rw[y,j]at z;cases z)];exact z
 .rw[aI (λy=>by rw[y,r]at z;cases z),aI (λy=>by rw[y,j]at z;cases z),z];simp
 .intro a o z
  by_cases P:a=p.heap.objs.size
  .subst P
   rw[aV]at z;cases z;refine⟨_,e2,λg=>?_⟩;show Ys (match g==f with|true=>lD v|false=>WH g []) (if g=f then lD u else Uh);cases i:g==f with
   |true=>rw[av (beq_iff_eq.mp i)];exact rv
   |false=>rw[ax (λw=>by rw[beq_iff_eq.mpr w]at i;cases i)];exact True.intro
  .rw[aI P]at z
   by_cases J:a=e
   .subst J;rw[aV]at z;cases z;exact⟨⟨fs,_,O,g2,g3⟩,⟨_,O⟩,λh1 h2 ⟨f1,t1,z1,z2,z3⟩ hk=>⟨f1,t1,hk _ z1,z2,z3⟩⟩
   .rw[aI J]at z
    have own:∀b,T b=lD (.own a)->b≠e/\b≠p.heap.objs.size:=λb y=>⟨(λk=>by rw[k,j]at y;cases y),(λk=>by rw[k,r]at y;cases y)⟩;refine(A.VR a o z).Yt (λb w i y=>E b w (λk=>?_) y) (λb y=>by rw[aI (own b y).2,aI (own b y).1];exact y) λb xs y=>by rw[aI (λk=>by rw[k,r]at y;cases y),aI (λk=>by rw[k,j]at y;cases y)];exact y
    rcases i with i|i
    .exact J (i.symm.trans k)
    .exact(own b i).1 k
end
end L9
namespace L9
open PySem PySem.Spec PyProof.Rows L2 L4
def Rn(H:Hp)(e:Uq):Hp:=λa=>if a=e then Uh else H a
theorem tO:Rn H e e=Uh:=av rfl
theorem kB(h:a≠e):Rn H e a=H a:=ax h
theorem A4{K:Ld}(X:K.In h)(G:h.Ns N mg)(e:UP K N n=lD (lD v)):mg n=lD v:=by
 obtain⟨o,p,q,f,j,_,g⟩:=G;unfold UP at e;split at e
 .rename_i l m b a
  have:=(X _ _ a).symm.trans f;cases this;cases j;split at e
  .rename_i r i;cases e;rw[<-g];unfold nsFind findBy;rw[<-acX,i];rfl
  .split at e<;>cases e
 .cases e
theorem Qn{K:Ld}(i:W0 K (.ref f)=Um)(l:K.lookup f=lD o):o.cls=.type "function":=by unfold W0 adv at i;dsimp only at i;rw[l]at i;exact UH (beq_iff_eq.mp i)
section
variable{X:Cx}{Z:bb (Uq×Obj)}{Y:L2.St}{H:Hp}{s:Ur}{h':Heap}{e:Uq}{o:HO}
theorem ME(I:L2.Inv X Z Y H s)(k:∀b u,s.heap.get? b=lD u->h'.get? b=lD u)(n:s.heap.get? e=Uh)(new:ObjOk X.prog X.w (bM H e o) h' e o):L2.Inv X Z Y (bM H e o) {s with heap:=h',toks:=t'}:=by
 have hn:=zh I.VR n;have ne:∀b u,s.heap.get? b=lD u->b≠e:=λb u z y=>by rw[y,n]at z;cases z
 refine I.un ⟨λb u z _ _ _=>k b u z,λb u z _ _ _=>⟨u.slots,k b u z⟩,λb u z q _=>by rw[aI (ne b u z)];exact q,λb u z _=>⟨u,k b u z⟩,λb xs z=>?_,λb u v z=>?_,λb ps z=>⟨#[],?_⟩⟩ ?_
 .rw[aI (λy=>by rw[y,hn]at z;cases z)];exact z
 .rw[aI (λy=>by rw[y,hn]at z;cases z)];exact z
 .rw[aI (λy=>by rw[y,hn]at z;cases z),z];simp
 .intro a u z
  by_cases y:a=e
  .subst y;rw[aV]at z;cases z;exact new
  .rw[aI y]at z;refine(I.VR a u z).Yt (λb w _ q=>k b w q) (λb q=>by rw[aI (λw=>by rw[w,hn]at q;cases q)];exact q) λb xs q=>by rw[aI (λw=>by rw[w,hn]at q;cases q)];exact q
theorem Mm(I:L2.Inv X Z Y H s)(f:H e=lD (.ext φ)):L2.Inv X Z Y (Rn H e) s:=by
 have:=I.un (t':=s.toks) (H':=Rn H e) ⟨λb u z _ _ _=>z,λb u z _ _ _=>⟨u.slots,z⟩,λb u z q _=>?_,λb u z _=>⟨u,z⟩,λb xs z=>?_,λb u v z=>?_,λb ps z=>⟨#[],?_⟩⟩ ?_
 .exact this
 .by_cases y:b=e
  .rw[y];exact tO
  .rw[kB y];exact q
 .rw[kB (λy=>by rw[y,f]at z;cases z)];exact z
 .rw[kB (λy=>by rw[y,f]at z;cases z)];exact z
 .rw[kB (λy=>by rw[y,f]at z;cases z),z];simp
 .intro a u z
  have y:a≠e:=λy=>by rw[y,tO]at z;cases z
  rw[kB y]at z;exact(I.VR a u z).Yt (λb w _ q=>q) (λb q=>by rw[kB (λw=>by rw[w,f]at q;cases q)];exact q) λb xs q=>by rw[kB (λw=>by rw[w,f]at q;cases q)];exact q
end
def C0(C:Uq)(sp:Sp)(E:XK)(g:TA):TS:=λ_ f H=>g f H λvs b=>vs.length<=UB/\∀e,b e=Uh->sp (.ref e::(vs++[])) (bM b e (.ext (LQ C e))) (λv a=>v=.WA/\∃p,a e=lD (.ext (Si C e p))/\E (.ref C) (lD p) (Rn a e)) E0
theorem F0{K:Ld}
  (hC:XC K C B fI) (X:K.lookup fI=lD oI) (iI:W0 K (.ref fI)=Um) (FI:FnOk P w K mg base d4 k fI fdI ps sp) (bI:Binds K fdI ps [])
  (hr:Wt (k+1) (gb (jb P w) P w K mg base N qual scope f cd A outer s0 H0 E).A)
  (hg:Gl (gb (jb P w) P w K mg base N qual scope f cd A outer s0 H0 E) x) (hm:mg x=lD (.ref C)) (ha:PA (gb (jb P w) P w K mg base N qual scope f cd A outer s0 H0 E) (e0::es) ta)
  (L:(x==("__debug__":Str))=Uw:=by decide)
  (Z:U1 (e0::es) (gb (jb P w) P w K mg base N qual scope f cd A outer s0 H0 E).env=(Uw,eval e0 (gb (jb P w) P w K mg base N qual scope f cd A outer s0 H0 E).env)::U1 es (gb (jb P w) P w K mg base N qual scope f cd A outer s0 H0 E).env:=by rfl)
  (G:(backTo Xb (U1 es (gb (jb P w) P w K mg base N qual scope f cd A outer s0 H0 E).env)).any (·.1)=Uw:=by rfl):
  PS (gb (jb P w) P w K mg base N qual scope f cd A outer s0 H0 E) (.Raise (lD (.Call (.Name x np) (e0::es) [] Xb)) Uh pos) (C0 C sp E ta):=by
 intro l s σ H D I h;obtain⟨nm,qn,Nn,bs,sn,sub,ab,col,dd,k0,k1,k2,k3,k5,U,VR,J⟩:=hC.obj;have a:=I.ok.mod.kin;have oC:=a _ _ U;have S:=Heap.Ns.of_isNs (PySem.W.isNs_of_in a VR);have ni:=A4 a S J;have oF:=a _ _ X;have T:=acg a (yY hC.base);refine Az (nm:=nm) (q:=qn) (N:=Nn) (bs:=bs) (hdct:=Um) (sn:=sn) (sub:=sub) (ab:=ab) (col:=col) (dd:=dd) (k0:=k0) (k1:=k1) (k2:=k2) (k3:=k3) (k5:=k5) WU (by left) WU (T.hasType WU.hasBase) (I.ok.hd rfl)
  (by rw[Z];exact(Yy _).trans G) ni (Qn iI X) (my I hg hm ⟨rfl,?_⟩ L)
 have go:=ha Xb l s σ H _ I h;rw[Z]at go⊢;refine Calls.evalArgs_plain (cQ go λg j ⟨vs,H1,i,r,hl,q⟩=>?_);refine⟨rfl,by rw[<-r.length];exact hl,i.bk _ _ oC,S.keeps i.bk,i.bk _ _ oF,T.keeps i.bk,λh' e m=>?_⟩;obtain⟨t,y,y2,y3⟩:=m.there;have hn:=zh i.VR m.new;have Y:=q e hn;have O:=ME (t':=j.toks) (o:=.ext (LQ C e)) i m.keeps m.new ⟨⟨_,t,y,rfl,rfl⟩,⟨_,y⟩,λh1 h2 ⟨f1,t1,z1,z2,z3⟩ hk=>⟨f1,t1,hk _ z1,z2,z3⟩⟩;have R:Vals (V.ref e::(vs++[])) (Uj.ref e::(g++[])):=.cons rfl (r.append .nil);have n:(Uj.ref e::g++[]).length=ps.length:=by have z:=R.length;rw[FI.len _ _ _ _ Y]at z;exact z.symm
 have F:s0.heap.get? e=Uh:=by
  cases z:s0.heap.get? e with
  |none=>rfl
  |some o=>obtain⟨o',Q⟩:=i.base.there e o z (λy=>nomatch y);rw[m.new]at Q;cases Q
 have bi:=bI {heap:=h',gens:=j.gens,drawn:=j.drawn,toks:=j.toks,os:=j.os} (Uj.ref e::g) O.Zv n;rw[ad7]at bi;refine Zo (Zp (FI.run _ (gb (jb P w) P w K mg base N qual scope f cd A outer s0 H0 E).stack _ _ ⟨Uj.ref e::g,[]⟩ (Uj.ref e::(g++[])) _ _ E0 (hr.make C g []) (O.afv.make C g []) bi R Y) λr s' b=>?_);cases r with
 |error e=>exact b.elim
 |ok fl=>
  cases fl with
  |ret u=>obtain⟨v,H',M,rv,ev,p,hE,q3⟩:=O.after b;subst ev;obtain⟨⟨fs,a0,g1,g2,g3⟩,_,_⟩:=(show ObjOk _ _ H' s'.heap e (.ext (Si C e p))from M.VR e _ hE);refine⟨rv,_,M.Zv _ _ U,g1,rfl,⟨fs,rfl,g3⟩,?_⟩;exact Op (hd:=Uh) (Mm M hE) ⟨_,_,g1,rfl,rfl,rfl,g2,g3⟩ F (λT z=>nomatch z) tO (λT z=>nomatch z) q3
  |next=>exact False.elim b
  |brk=>exact False.elim b
  |cont=>exact False.elim b
end L9
namespace L9
open PySem PySem.Spec PySem.W PyProof.Rows L2 L3 L4
section
variable{prog:US}{w:Vb}{A:U4}{E:Uj->Ur->Prop}{h:Heap}{g:Array Zc}{d:adf}{t:Nat}{os:ab4}{a C:Uq}{o:Obj}{K:Ld}{od:bg Obj}{name:Str}{v:Uj}
  {n1 q1:Str} {N1:Uq} {b1 m1:bb Uj} {d1:Bool} {s1:bb Str} {u1:bb Uj} {a1:Bool} {c1:bg Bool} {x1:bg Uq} {i0 i1 i2 i3 i5:bg Uj} {id1:String}
end
def yp(C:Uq)(f:Str):Sp:=λvs H Q _=>∃e v,vs=[.ref e,v]/\SY v/\H e=lD (.ext (LQ C e))/\∀p,H p=Uh->p≠e->Q .WA (bM (bM H e (.ext (Si C e p))) p (.xd [(f,v)]))
def RQ:D->Bool
 |.none=>Um
 |.int i=>decide (i.natAbs.log2<1920)
 |_=>Uw
end L9
namespace L3
open PySem PySem.Spec PyProof.Rows L2
mutual
def TU:Up->Bool
 |.tuple ds=>QD ds
 |.int _=>Um
 |.str _=>Um
 |.bool _=>Um
 |.none=>Um
 |_=>Uw
def QD:bb Up->Bool
 |[]=>Um
 |d::r=>TU d&&QD r
end
section
variable{K:Ld}{E:XK}{B:cz}{H0:Hp}{O Z:cz}{σ:L2.St}{H H':Hp}{ρ:bw}
theorem Mw(h:YA K H a xs)(l:H a=lD (.lst ys)):YA K (λ_=>Uh) a xs:=by
 rcases h with(h|⟨o,h⟩)|h
 .rw[l]at h;cases h
 .rw[l]at h;cases h
 .exact .inr h
mutual
theorem Lo(f:∀b,O b->¬Z b->∃ys,H b=lD (.lst ys)):∀{v:V} {d:D},DV Z K H v d->TU d=Um->DV O K H v d
 |_,_,.WA,_=>.WA
 |_,_,.bl b,_=>.bl b
 |_,_,.int i,_=>.int i
 |_,_,.str x,_=>.str x
 |_,_,.tup (a:=a) h hs,e=>.tup ⟨h.1,λz=>by
   by_cases y:Z a
   .exact h.2 y
   .obtain⟨ys,q⟩:=f a z y;exact Mw h.1 q⟩ (zJ f hs e)
 |_,_,.lst h hs,e=>by cases e
theorem zJ(a:∀b,O b->¬Z b->∃ys,H b=lD (.lst ys)):∀{vs:bb V} {ds:bb D},V9 Z K H vs ds->QD ds=Um->V9 O K H vs ds
 |_,_,.nil,_=>.nil
 |_,_,.cons h hs,e=>by have f:=Bool.and_eq_true_iff.mp e;exact .cons (Lo a h f.1) (zJ a hs f.2)
end
end
end L3
namespace PyProof.Rows
open PySem
section
variable{prog:US}{w:Vb}{A:U4}{E:Uj->Ur->Prop}{s:Ur}
theorem uV(b:h.get? a=lD (seqObj "list" vs.toArray n)):∃e,(sortedHeap h a vs out).get? a=lD (seqObj "list" out e):=by have f:=get?_update_seq b (λ_=> #[]);exact⟨_,get?_update_seq (br _ (br _ f)) _⟩
theorem rM(f:b≠a)(e:h.get? b=lD o):(sortedHeap h a vs out).get? b=lD o:=
 (cn _ _ (dN f)).trans (br _ (br _ ((cn _ _ (dN f)).trans e)))
theorem Bj{l:Uq}{vs:bb Uj}{ns:bb Int}{Q:Uj->Ur->Prop}(j:s.heap.IsTuple l vs.toArray)(v:IntsAre vs ns)(i:vs.length<64)
  (h:∀(a h':Heap) (out:Array Uj) (e:Nat) (f:bb Int),(∀b o,s.heap.get? b=lD o->a.get? b=lD o)->h'.get? a.objs.size=lD (seqObj "list" out e)->(∀b o,a.get? b=lD o->h'.get? b=lD o)->IntsAre out.toList f->f.Perm ns->f.Pairwise (·<=·)->Q (.ref a.objs.size) {s with heap:=h'}):
  wpAny (model prog w) A (call (.builtin "sorted") [.ref l]) Q E s:=by
 obtain⟨o,p,u,n,t⟩:=j;refine Calls.call_function_entry kind_sorted plain_sorted entry_sorted (args_sorted1 _) (Ug (m:=checkCount "sorted" 1 1 _) (Ut (Ug (wpAny_collect_seq l (.inr rfl) p u t (λa q=>Ug (akK ?_)) (by rw[UG,Wx];ext)))));have g:(a.push (seqObj "list" vs.toArray 0)).get? a.objs.size=lD (seqObj "list" vs.toArray 0):=cj _ rfl;refine Ug (V1 (WJ slot_list_sort ⟨_,g,rfl⟩ entry_list_sort (list_sort_tree g v i λout f C B y=>⟨_,rfl,Ut ⟨_,rfl,?_⟩⟩) (args_list_sort _)));obtain⟨e,r⟩:=uV (out:=out) g;exact h a _ out e f q r (λb F z=>rM (UX (bP z)) (br _ z)) C B y
end
end PyProof.Rows
namespace L9
open PySem PySem.Spec PyProof.Rows L2 L3
section
variable{K:Ld}{E:XK}
theorem yh:Xd X (.builtin "sorted") (λxs H Q=>∃(p:Uq) (ns:bb Int),xs=[.ref p]/\YA X.K H p (ns.map V.int)/\ns.length<64/\∀(l:Uq) (a:bb Int),H l=Uh->a.Perm ns->a.Pairwise (·<=·)->Q (.ref l) (bM H l (.lst (a.map V.int)))):=by
 intro i s B H xs C Q I r h;obtain⟨p,ns,rfl,t,z,q⟩:=h;obtain⟨u,rfl,n⟩:=k8 r;cases n;obtain⟨J,rv,pl,F⟩:=I.tuple t;have v:=rv.length;rw[Ui]at v;refine Bj pl (ku rv) (by ext) λA G f e a w y g hi j o=>?_;have b:=j.length_eq;have m:=I.kept (t':=s.toks) w;refine⟨.ref A.objs.size,_,m.laid g (Ux _) ?_,rfl,q _ a (m.VR.fresh (Ux _)) j o⟩;refine⟨?_,f.toList,e,jX hi,y⟩;rw[Ui,b];have:(64:Nat)<=UB:=by decide
 ext
theorem wS:Xd X (.builtin "sorted") (λxs H Q=>(∃(p:Uq) (ns:bb Int),xs=[.ref p]/\YL X.K H p (ns.map V.int)/\ns.length<64/\∀(l:Uq) (a:bb Int),H l=Uh->a.Perm ns->a.Pairwise (·<=·)->Q (.ref l) (bM H l (.lst (a.map V.int))))\/
  (∃(p:Uq) (ns:bb Int),xs=[.ref p]/\YA X.K H p (ns.map V.int)/\ns.length<64/\∀(l:Uq) (a:bb Int),H l=Uh->a.Perm ns->a.Pairwise (·<=·)->Q (.ref l) (bM H l (.lst (a.map V.int))))):=L2.Xd.or Ae yh
def iQ:bb D->bg RV
 |[.tuple ds]=>(match lz ds with
  |some a=>if a.length<64 then lD (.ow ((l8 a).map .int))else Uh
  |none=>Uh)
 |ds=>xK ds
theorem A6:Ks K (λxs H Q=>(∃(p:Uq) (ns:bb Int),xs=[.ref p]/\YL K H p (ns.map V.int)/\ns.length<64/\∀(l:Uq) (b:bb Int),H l=Uh->b.Perm ns->b.Pairwise (·<=·)->Q (.ref l) (bM H l (.lst (b.map V.int))))\/
  (∃(p:Uq) (ns:bb Int),xs=[.ref p]/\YA K H p (ns.map V.int)/\ns.length<64/\∀(l:Uq) (b:bb Int),H l=Uh->b.Perm ns->b.Pairwise (·<=·)->Q (.ref l) (bM H l (.lst (b.map V.int))))) iQ:=by
 intro O H xs ds rv Q n g e q;unfold iQ at e;split at e
 .split at e
  .rename_i ns i
   split at e
   .rename_i hn
    cases e;cases g with
    |cons o m=>cases m;obtain⟨a,vs,rfl,h,r⟩:=IG o;rw[mr r i]at h;refine .inr ⟨a,ns,rfl,h.1,hn,λl b j f d5=>?_⟩;have t:=mB (f.trans (fQ ns).symm) d5 (e9 ns);subst t;exact q.new (uj _) l j
   .cases e
  .cases e
 .exact .inl (wE O H xs ds rv Q n g e q)
end
end L9
namespace LD
open PySem PyProof.Rows L2 L3
mutual
def kd:Up->Bool
 |.none=>Um
 |.int _=>Um
 |.str x=>Up.strOk x
 |.tuple xs=>kds xs
 |_=>Uw
def kds:bb Up->Bool
 |[]=>Um
 |x::r=>kd x&&kds r
end
def keyD:Up->Bool
 |.tuple xs=>kds xs&&decide ((Up.tuple xs).depth<=8)
 |_=>Uw
mutual
theorem kd_lay:∀d:Up,kd d=Um->d.canLay0=Um
 |.none,_=>rfl
 |.int _,_=>rfl
 |.str x,h=>by unfold Up.canLay0;unfold kd at h;exact h
 |.tuple xs,h=>by unfold Up.canLay0;unfold kd at h;exact CP xs h
 |.bool _,h|.list _,h|.dict _,h=>by simp[kd]at h
theorem CP:∀xs:bb Up,kds xs=Um->Up.canLayAll0 xs=Um
 |[],_=>rfl
 |x::r,h=>by unfold kds at h;rw[UW]at h;unfold Up.canLayAll0;rw[kd_lay x h.1,CP r h.2];rfl
end
mutual
theorem kd_eqv:∀d e:Up,kd d=Um->kd e=Um->Up.eqv d e=Um->d=e
 |.none,e,_,h,q=>by cases e<;>simp_all [kd,Up.eqv]
 |.int i,e,_,h,q=>by cases e<;>simp_all [kd,Up.eqv]
 |.str x,e,_,h,q=>by cases e<;>simp_all [kd,Up.eqv]
 |.tuple xs,e,g,h,q=>by
  cases e with
  |tuple a=>rw[Up.eqv]at q;unfold kd at g h;rw[D5 xs a g h q]
  |_=>simp_all [kd,Up.eqv]
 |.bool _,_,h,_,_|.list _,_,h,_,_|.dict _,_,h,_,_=>by simp[kd]at h
theorem D5:∀xs ys:bb Up,kds xs=Um->kds ys=Um->Up.eqvAll xs ys=Um->xs=ys
 |[],[],_,_,_=>rfl
 |[],_::_,_,_,q=>by simp[Up.eqvAll]at q
 |_::_,[],_,_,q=>by simp[Up.eqvAll]at q
 |x::xs,y::ys,g,h,q=>by unfold kds at g h;rw[Up.eqvAll]at q;rw[UW]at g h q;rw[kd_eqv x y g.1 h.1 q.1,D5 xs ys g.2 h.2 q.2]
end
theorem GN[Decidable (d=e)](hd:kd d=Um)(a:kd e=Um):Up.eqv d e=decide (d=e):=by
 by_cases q:d=e
 .subst q;rw[aE rfl];exact SeqAt.eqv_refl d (kd_lay d hd)
 .rw[aP q]
  cases z:Up.eqv d e with
  |false=>rfl
  |true=>exact a5 (kd_eqv d e hd a z) q
theorem fL(h:keyD d=Um):kd d=Um/\d.depth<=8:=by
 cases d with
 |tuple xs=>unfold keyD at h;rw[UW]at h;exact⟨by unfold kd;exact h.1,a4 h.2⟩
 |_=>simp[keyD]at h
mutual
def ur(w:Vb):Up->Int
 |.none=>reduceHash 0xFCA86420
 |.int i=>hashInt i
 |.str x=>hashStr w x
 |.tuple xs=>reduceHash (Vf.Tuple.tupleHashOf (uZ w xs))
 |_=>0
def uZ(w:Vb):bb Up->bb Int
 |[]=>[]
 |x::r=>ur w x::uZ w r
end
mutual
def SI:Up->Nat
 |.tuple xs=>Nt xs+1
 |_=>1
def Nt:bb Up->Nat
 |[]=>0
 |x::r=>SI x+Nt r
end
section
variable{prog:US}{w:Vb}{E:Uj->Ur->Prop}
mutual
theorem C2:∀(d:Up) (v:Uj) (f:bb Uq) (A:U4) (s:Ur) (Q:Int->Ur->Prop),kd d=Um->aei s.heap v d f->A.units+d.depth<cLine->Q (ur w d) {s with toks:=s.toks+SI d}->wpAny (model prog w) A (pyHash v) Q E s
 |.none,_,_,A,s,Q,_,r,hu,h=>by cases r;exact ab5 (T:= "NoneType") rfl F.slot_NoneType_hash F.entry_NoneType_hash (F.args_NoneType_hash_1 _) (agu _) (.inr (by ext)) (Ug (Ut (Ug (ael (Ut ⟨_,_,rfl,h⟩)))))
 |.int i,_,_,A,s,Q,_,r,_,h=>by cases r;exact agj h
 |.str x,_,_,A,s,Q,_,r,_,h=>by cases r;exact agk h
 |.tuple xs,_,_,A,s,Q,hk,r,hu,h=>by
  cases r with
  | @tuple a o vs n _ _ h1 h2 h3 h4=>
   refine ab5 (T:= "tuple") ⟨_,h1,h2⟩ F.slot_tuple_hash F.entry_tuple_hash (F.args_tuple_hash_1 _) (agu _) (.inr (by ext)) ?_;show wpAny _ _ (Vf.Tuple.tupleItemsOf (.ref a)>>=_) _ _ s;refine Ug (wpAny_tupleItemsOf h1 h3 ?_);refine Ug ?_;rw[<-ac0];unfold kd at hk;refine wx xs vs.toList _ A.in1 s #[] _ hk h4 (by simp only[Up.depth,U4.in1_units]at hu⊢;ext) λb e=>?_;show wpAny _ _ (retInt (Vf.Tuple.tupleHashOf b.toList)) _ _ _;rw[e];refine Ug (ael (Ut ⟨_,_,rfl,?_⟩));unfold ur SI at h
   simpa [VU]using h
 |.bool _,_,_,_,_,_,h,_,_,_|.list _,_,_,_,_,_,h,_,_,_|.dict _,_,_,_,_,_,h,_,_,_=>by simp[kd]at h
theorem wx:∀(xs:bb Up) (vs:bb Uj) (g:bb Uq) (A:U4) (s:Ur) (b:Array Int) (Q:Array Int->Ur->Prop),kds xs=Um->ace s.heap vs xs g->A.units+Up.depthAll xs<cLine->
  (∀b':Array Int,b'.toList=b.toList++uZ w xs->Q b' {s with toks:=s.toks+Nt xs})->
  wpAny (model prog w) A (forIn vs b λx r=>do let h<-pyHash x;pure PUnit.unit;pure (ForInStep.yield (r.push h))) Q E s
 |[],_,_,A,s,b,Q,_,x,_,h=>by cases x;exact Ut (h b (by simp[uZ]))
 |k::xs,_,_,A,s,b,Q,hk,x,hu,h=>by
  cases x with
  |cons e a=>
   unfold kds at hk;simp only[UW,Up.depthAll]at hk hu;rw[YV];refine Ug (Ug (C2 k _ _ A s _ hk.1 e (by ext) ?_));refine Ug (Ut (Ut ?_));refine wx xs _ _ A _ _ Q hk.2 a (by ext) λb' f=>?_;have:=h b' (by simp[f,uZ]);unfold Nt at this
   simpa [VU]using this
end
theorem AF:∀(n:Nat) (d:Up) (v:Uj) (j:bb Uq) (A:U4) (s:Ur) (Q:Bool->Ur->Prop),kd d=Um->aei s.heap v d j->d.depth<=n->Q Um s->wpAny (model prog w) A (eqIsQuiet n v) Q E s
 |n,.none,_,_,A,s,Q,_,r,_,h=>by cases r;rw[aa0 _ rfl];exact Ut h
 |n,.int i,_,_,A,s,Q,_,r,_,h=>by cases r;rw[aa0 _ rfl];exact Ut h
 |n,.str i,_,_,A,s,Q,_,r,_,h=>by cases r;rw[aa0 _ rfl];exact Ut h
 |0,.tuple xs,_,_,A,s,Q,hk,r,hn,h=>by simp only[Up.depth]at hn;ext
 |n+1,.tuple xs,_,_,A,s,Q,hk,r,hn,h=>by
  cases r with
  | @tuple a o vs m _ _ h1 h2 h3 h4=>
   have g:s.TypeIs (.ref a) "tuple":=⟨_,h1,h2⟩;simp only[Up.depth]at hn;unfold eqIsQuiet;refine Ug (ahv g F.slot_tuple_eq.lookup ?_);refine Ug (abe g isSubtype_tuple_tuple ?_);simp only[abA,Xr,if_false];refine Ug (V2 h1 h3 ?_);refine Ug ?_;rw[<-ac0];unfold kd at hk;refine wpAny_forIn_list _ (λb r e=>r.1=Uh/\e=s/\∃ys bs,kds ys=Um/\ace s.heap b ys bs/\Up.depthAll ys<=n) _ ?_ ?_ _ _ ⟨rfl,rfl,xs,_,hk,h4,by ext⟩
   .rintro v b r e ⟨f,rfl,ys,bs,k1,k2,k3⟩
    cases k2 with
    | @cons _ _ y ys' _ _ g1 g2=>unfold kds at k1;simp only[UW,Up.depthAll]at k1 k3;refine Ug (AF n y v _ A e _ k1.1 g1 (by ext) ?_);simp only[abA,Xr,if_false];exact Ut ⟨rfl,rfl,ys',_,k1.2,g2,by ext⟩
   .rintro⟨p,l⟩ e ⟨f,rfl,_⟩;simp only at f;subst f;exact Ut h
 |_,.bool _,_,_,_,_,_,h,_,_,_|_,.list _,_,_,_,_,_,h,_,_,_|_,.dict _,_,_,_,_,_,h,_,_,_=>by simp[kd]at h
end
mutual
theorem wC{h h':Heap}{x:Uq}{b:Obj}{es:Array XM}{j:Nat}(e:h.get? x=lD b)(g:b.data=.dict es j)(f:Heap.SameBut x h h'):∀(d:Up) (v:Uj) (i:bb Uq),kd d=Um->aei h v d i->aei h' v d i
 |.none,_,_,_,r=>by cases r;exact .none
 |.int _,_,_,_,r=>by cases r;exact .int _ _
 |.str _,_,_,_,r=>by cases r;exact .str _ _
 |.tuple xs,_,_,k,r=>by
  cases r with
  | @tuple a o vs n _ _ h1 h2 h3 h4=>
   have l:a≠x:=by rintro rfl;rw[e]at h1;cases h1;rw[g]at h3;exact nomatch h3
   unfold kd at k;exact .tuple ((f.2 a l).trans h1) h2 h3 (tJ e g f xs _ _ k h4)
 |.bool _,_,_,h,_|.list _,_,_,h,_|.dict _,_,_,h,_=>by simp[kd]at h
theorem tJ{h h':Heap}{x:Uq}{a:Obj}{es:Array XM}{l:Nat}(b:h.get? x=lD a)(f:a.data=.dict es l)(e:Heap.SameBut x h h'):∀(ds:bb Up) (vs:bb Uj) (g:bb Uq),kds ds=Um->ace h vs ds g->ace h' vs ds g
 |[],_,_,_,r=>by cases r;exact .nil
 |d::ds,_,_,k,r=>by
  cases r with
  |cons j i=>unfold kds at k;rw[UW]at k;exact .cons (wC b f e d _ _ k.1 j) (tJ b f e ds _ _ k.2 i)
end
abbrev KD:={d:Up//keyD d=Um}
noncomputable instance kdDec:DecidableEq KD:=λ_ _=>Classical.propDecidable _
def jc(prog:US)(w:Vb):aiK prog w KD where
 is:=λh k a=>∃as,aei h (.ref a) k.1 as
 hash:=λk=>ur w k.1
 draws:=λk=>SI k.1
 room:=λA=>A.units+8<cLine
 inj:=λ⟨_,r⟩ ⟨_,f⟩=>Subtype.ext (aei.unique r _ _ f).1
 keeps:=λ{h h' k a d o es ep} ⟨as,r⟩ ho hd hs=>⟨as,wC ho hd hs k.1 _ _ (fL k.2).1 r⟩
 pyHash:=λ{A E s k a Q} hu ⟨as,r⟩ q=>C2 k.1 _ as A s Q (fL k.2).1 r (by have:=(fL k.2).2;ext) q
 eqBool:=λ{A E s x y a b Q} hu ⟨as,r⟩ ⟨bs,f⟩ q=>SeqAt.eqAt_reads x.1 y.1 A s _ _ as bs r f (kd_lay _ (fL x.2).1) (kd_lay _ (fL y.2).1) (by have:=(fL x.2).2;ext) prog w E Q (by
  haveI:Decidable (x.1=y.1):=Classical.propDecidable _
  rw[GN (fL x.2).1 (fL y.2).1];by_cases e:x=y
  .rw[aE e]at q;rw[aE (d3 Subtype.val e)];exact q
  .rw[aP e]at q;rw[aP λz=>e (Subtype.ext z)];exact q)
 quiet:=λ{A E s k a Q} ⟨as,r⟩ q=>AF 8 k.1 _ as A s Q (fL k.2).1 r (fL k.2).2 q
def T7(a:Uq)(xs:bb (KD×Uq×V))(w:Vb)(h:Heap):Prop:=
 (xs.length<=UB/\(a==VW)=Uw/\(xs.map (·.1)).Nodup)/\∃o es ep,h.get? a=lD o/\o.ExactDict/\o.data=.dict es ep/\Paired (λ(x:KD×Uq×V) (e:XM)=>e.hash=ur w x.1.1/\e.key=.ref x.2.1/\RelV x.2.2 e.val) xs es.toList
abbrev DkO(a:Uq)(xs:bb (KD×Uq×V)):HO:=.exw (T7 a xs)
abbrev PrD(O:cz)(K:Ld)(H:Hp):bb (KD×Uq×V)->bb (D×D)->Prop:=
 Paired λx a=>x.1.1=a.1/\L3.DV O K H (.ref x.2.1) a.1/\L3.DV O K H x.2.2 a.2
end LD
namespace L10
open PySem L2 L3
inductive AV where
 |fz (d:D)
 |rf (i:Nat)
inductive SV where
 |fz (d:D)
 |rf (i:Nat)
 |tp (l:bb AV)
def AV.sv:AV->SV
 |.fz d=>.fz d
 |.rf i=>.rf i
inductive Cell where
 |lst (xs:bb SV)
 |ZX (UY:bb (c7×SV))
 |obj (C:Str) (fs:bb (Str×SV))
 |dd (UY:bb (D×D))
 |dead
abbrev bh:=bb Cell
abbrev bz:=bb (bg SV)
inductive RS(α:Type) where
 |ok (a:α) (Z:bh)
 |er (x:Xc) (Z:bh)
 |bad
def RS.bind(r:RS α)(f:α->bh->RS β):RS β:=match r with
 |.ok a Z=>f a Z
 |.er x Z=>.er x Z
 |.bad=>.bad
def RS.Vm(Z:bh):bg α->RS α
 |some a=>.ok a Z
 |none=>.bad
theorem RS.bind_ok(a:α)(Z:bh)(f:α->bh->RS β):(RS.ok a Z).bind f=f a Z:=rfl
abbrev eh:=@RS.bind_ok
def Lv(α:bb Uq)(Z:bh):cz:=λb=>∃(i:Nat) (c:Cell),α[i]?=lD b/\Z[i]?=lD c/\c≠Cell.dead
def ow(B:cz)(α:bb Uq)(Z:bh):cz:=λb=>B b\/Lv α Z b
section
variable(O:cz)(K:Ld)(H:Hp)(Z:bb Uq)
def AOk(v:V):AV->Prop
 |.fz d=>DV O K H v d
 |.rf i=>∃a,Z[i]?=lD a/\v=.ref a
def Xu(v:V):SV->Prop
 |.fz d=>DV O K H v d
 |.rf i=>∃a,Z[i]?=lD a/\v=.ref a
 |.tp l=>∃a xs,v=.ref a/\Y5 O K H a xs/\Paired (AOk O K H Z) xs l
abbrev W3:bb V->bb SV->Prop:=Paired (Xu O K H Z)
def COk(a:Uq):Cell->Prop
 |.lst xs=>∃vs,H a=lD (.lst vs)/\W3 O K H Z vs xs
 |.ZX UY=>∃ws:bb (c7×V),H a=lD (.dK ws)/\Paired (λ(p:c7×V) (q:c7×SV)=>p.1=q.1/\Xu O K H Z p.2 q.2) ws UY
 |.obj C fs=>∃Ca dx ws,UP K UK C=lD (lD (.ref Ca))/\H a=lD (.ins Ca dx ws)/\Paired (λ(p:Str×V) (q:Str×SV)=>p.1=q.1/\Xu O K H Z p.2 q.2) ws fs
 |.dd UY=>∃xs,H a=lD (LD.DkO a xs)/\LD.PrD O K H xs UY
 |.dead=>True
def Xj(a:L2.St)(ρ:bz):Prop:=a.length=ρ.length/\∀(i:Nat) (x:SV),ρ[i]?=lD (lD x)->∃v,a[i]?=lD (lD v)/\Xu O K H Z v x
end
structure U8(B:cz)(K:Ld)(H:Hp)(α:bb Uq)(Z:bh):Prop where
 len:α.length=Z.length
 nd:∀(i j:Nat) (a:Uq),α[i]?=lD a->α[j]?=lD a->i=j
 bn:∀a,B a->H a≠Uh
 ba:∀a,B a->∀i:Nat,α[i]?≠lD a
 al:∀(i:Nat) (a:Uq),α[i]?=lD a->H a≠Uh
 cel:∀(i:Nat) (a:Uq) (c:Cell),α[i]?=lD a->Z[i]?=lD c->COk (ow B α Z) K H α a c
structure Wh(α:bb Uq)(Z:bh)(H:Hp)(α':bb Uq)(Z':bh)(H':Hp):Prop where
 pre:∀(i:Nat) (a:Uq),α[i]?=lD a->α'[i]?=lD a
 kp:∀b o,H b=lD o->¬Lv α Z b->H' b=lD o
 lv:∀b,Lv α' Z' b->Lv α Z b\/H b=Uh
section
variable{B O Q:cz}{K:Ld}{E:XK}{H H' R N:Hp}{Y X U S:bb Uq}{Z T Z1 M:bh}{σ:L2.St}{ρ:bz}{v:V}
theorem Wh.refl:Wh Y Z H Y Z H:=⟨λ_ _ h=>h,λ_ _ h _=>h,λ_ h=>.inl h⟩
theorem Wh.trans(a:Wh Y Z H U Z1 R)(b:Wh U Z1 R S M N):Wh Y Z H S M N:=by
 have e:∀b o,H b=lD o->¬Lv Y Z b->¬Lv U Z1 b:=λb o h n z=>(a.lv b z).elim n λq=>by rw[h]at q;cases q
 refine⟨λi p h=>b.pre i p (a.pre i p h),λp o h n=>b.kp p o (a.kp p o h n) (e p o h n),λp h=>?_⟩;rcases b.lv p h with h|h
 .exact a.lv p h
 .cases q:H p with
  |none=>exact .inr rfl
  |some o=>refine .inl (Classical.byContradiction λn=>?_);rw[a.kp p o q n]at h;cases h
theorem Wh.same(s:We H H'):Wh Y Z H Y Z H':=⟨λ_ _ h=>h,λb o h _=>s b o h,λ_ h=>.inl h⟩
theorem Wh.ev(e:Wh Y Z H X T H'):Ev (ow B Y Z) H (ow B X T) H':=λb o h n=>
 ⟨e.kp b o h λz=>n (.inr z),λz=>z.elim (λq=>n (.inl q)) λq=>(e.lv b q).elim (λq=>n (.inr q)) λq=>by rw[h]at q;cases q⟩
theorem AOk.ev(e:Ev O H Q H')(p:∀(i:Nat) (a:Uq),Y[i]?=lD a->X[i]?=lD a)(h:AOk O K H Y v x):AOk Q K H' X v x:=by
 cases x with
 |fz d=>exact DV.ev e h
 |rf i=>obtain⟨a,f,b⟩:=h;exact⟨a,p i a f,b⟩
theorem Xu.ev(e:Ev O H Q H')(p:∀(i:Nat) (a:Uq),Y[i]?=lD a->X[i]?=lD a)(h:Xu O K H Y v x):Xu Q K H' X v x:=by
 cases x with
 |fz d=>exact DV.ev e h
 |rf i=>obtain⟨a,f,b⟩:=h;exact⟨a,p i a f,b⟩
 |tp l=>obtain⟨a,xs,f,b,g⟩:=h;exact⟨a,xs,f,b.ev e,Paired.Yv g λ_ _ q=>q.ev e p⟩
theorem Xu.WN(e:Wh Y Z H X T H')(h:Xu (ow B Y Z) K H Y v x):Xu (ow B X T) K H' X v x:=h.ev e.ev e.pre
theorem W3.WN(e:Wh Y Z H X T H')(h:W3 (ow B Y Z) K H Y vs xs):W3 (ow B X T) K H' X vs xs:=Paired.Yv h λ_ _ q=>q.WN e
theorem Xj.WN(e:Wh Y Z H X T H')(h:Xj (ow B Y Z) K H Y σ ρ):Xj (ow B X T) K H' X σ ρ:=⟨h.1,λi x q=>let⟨v,h1,h2⟩:=h.2 i x q;⟨v,h1,h2.WN e⟩⟩
theorem COk.ev(e:Ev O H Q H')(p:∀(i:Nat) (a:Uq),Y[i]?=lD a->X[i]?=lD a)(ha:∀o,H a=lD o->H' a=lD o)(h:COk O K H Y a c):COk Q K H' X a c:=by
 cases c with
 |lst xs=>obtain⟨vs,f,b⟩:=h;exact⟨vs,ha _ f,Paired.Yv b λ_ _ q=>q.ev e p⟩
 |ZX UY=>obtain⟨ws,f,b⟩:=h;exact⟨ws,ha _ f,Paired.Yv b λ_ _ q=>⟨q.1,q.2.ev e p⟩⟩
 |obj C fs=>obtain⟨j,dx,ws,g,f,b⟩:=h;exact⟨j,dx,ws,g,ha _ f,Paired.Yv b λ_ _ q=>⟨q.1,q.2.ev e p⟩⟩
 |dd UY=>obtain⟨xs,f,b⟩:=h;exact⟨xs,ha _ f,Paired.Yv b λ_ _ q=>⟨q.1,q.2.1.ev e,q.2.2.ev e⟩⟩
 |dead=>trivial
theorem U8.noO(s:U8 B K H Y Z):oU (ow B Y Z) H:=λa h z=>z.elim (λq=>s.bn a q h) λ⟨i,c,q,_⟩=>s.al i a q h
theorem U8.owd(s:U8 B K H Y Z):∀a,ow B Y Z a->H a≠Uh:=λa z h=>s.noO a h z
theorem U8.grow(s:U8 B K H Y Z)(e:We H H'):U8 B K H' Y Z:=by have n:∀a,H a≠Uh->H' a≠Uh:=λa h z=>h (e.free z);exact⟨s.len,s.nd,λa h=>n a (s.bn a h),s.ba,λi a h=>n a (s.al i a h),λi a c f b=>(s.cel i a c f b).ev (Ev.grow e) (λ_ _ h=>h) λo h=>e _ _ h⟩
theorem U8.at(s:U8 B K H Y Z){i:Nat}(h:Z[i]?=lD c):∃a,Y[i]?=lD a:=by have:i<Z.length:=(Uk.mp h).1;rw[<-s.len]at this;exact⟨_,Us this⟩
theorem U8.aex(s:U8 B K H Y Z){i:Nat}(h:Y[i]?=lD a):¬B a:=λz=>s.ba a z i h
theorem Cg{i:Nat}{c m:Cell}(h:Z[i]?=lD c)(n:c≠.dead)(g:m≠.dead){b:Uq}:Lv Y (Z.set i m) b↔Lv Y Z b:=by
 constructor
 .rintro⟨j,d,f,a,l⟩
  rcases cG a with⟨rfl,rfl⟩|⟨_,a⟩
  .exact⟨j,c,f,h,n⟩
  .exact⟨j,d,f,a,l⟩
 .rintro⟨j,d,f,a,l⟩
  by_cases e:j=i
  .subst e;exact⟨j,m,f,by rw[Vt (Uk.mp h).1],g⟩
  .exact⟨j,d,f,by rw[Vo (λz=>e z.symm)];exact a,l⟩
theorem PU(h:Z[i]?=lD c)(e:c≠.dead)(a:c'≠.dead):ow B Y (Z.set i c')=ow B Y Z:=by funext b;exact propext ⟨λz=>z.imp id (Cg h e a).mp,λz=>z.imp id (Cg h e a).mpr⟩
theorem Wh.put(ha:Y[i]?=lD a)(h:Z[i]?=lD c)(g:c≠.dead)(f:c'≠.dead):Wh Y Z H Y (Z.set i c') (bM H a o):=
 ⟨λ_ _ h=>h,λb j q n=>by have z:b≠a:=λe=>n ⟨i,c,by rw[e];exact ha,h,g⟩;rw[aI z];exact q,λb z=>.inl ((Cg h g f).mp z)⟩
theorem U8.put(s:U8 B K H Y Z)(ha:Y[i]?=lD a)(h:Z[i]?=lD c)(m:c≠.dead)(f:c'≠.dead)(new:COk (ow B Y Z) K (bM H a o) Y a c'):U8 B K (bM H a o) Y (Z.set i c'):=by
 have e:Wh Y Z H Y (Z.set i c') (bM H a o):=Wh.put ha h m f;have n:∀b,H b≠Uh->bM H a o b≠Uh:=λb h=>by
  by_cases z:b=a
  .subst z;rw[aV];simp
  .rw[aI z];exact h
 refine⟨by rw[VG];exact s.len,s.nd,λb h=>n b (s.bn b h),s.ba,λj b h=>n b (s.al j b h),λj b d g l=>?_⟩;rcases cG l with⟨rfl,rfl⟩|⟨p,l⟩
 .rw[ha]at g;cases g;rw[PU h m f];exact new
 .exact(s.cel j b d g l).ev e.ev e.pre λu q=>by rw[aI (λz=>p (s.nd j i a (by rw[<-z];exact g) ha))];exact q
theorem qS{i:Nat}{a:Uq}{c:Cell}{o:HO}(ha:Y[i]?=lD a)(h:Z[i]?=lD c)(b:c≠.dead):Ev (ow B Y Z) H (ow B Y Z) (bM H a o):=Ev.mut (.inr ⟨i,c,ha,h,b⟩) o
theorem cF{Y:Type}{l:bb Y}{x y:Y}{i:Nat}(h:(l++[x])[i]?=lD y):l[i]?=lD y\/(i=l.length/\y=x):=by
 by_cases hi:i<l.length
 .rw[Uy hi]at h;exact .inl h
 .rw[U6 (by ext)]at h
  cases q:i - l.length with
  |zero=>rw[q]at h;cases h;exact .inr ⟨by ext,rfl⟩
  |succ n=>rw[q]at h;cases h
theorem jg{Y:Type}{l:bb Y}{x y:Y}{i:Nat}(h:l[i]?=lD y):(l++[x])[i]?=lD y:=by rw[Uy (Uk.mp h).1];exact h
theorem aQ:(l++[x])[l.length]?=lD x:=by simp
theorem xf(g:Y.length=Z.length)(h:Lv (Y++[p]) (Z++[c]) b):Lv Y Z b\/b=p:=by
 obtain⟨i,d,a,e,f⟩:=h;rcases cF a with a|⟨e1,e2⟩
 .rcases cF e with e|⟨e1,e2⟩
  .exact .inl ⟨i,d,a,e,f⟩
  .have:=(Uk.mp a).1;ext
 .exact .inr e2
theorem Wh.abO(g:Y.length=Z.length)(s:We H H')(f:H p=Uh):Wh Y Z H (Y++[p]) (Z++[c]) H':=
 ⟨λi a h=>jg h,λb u q _=>s b u q,λb z=>(xf g z).imp id λe=>by rw[e];exact f⟩
theorem U8.abO(s:U8 B K H Y Z)(e:We H H')(l:H p=Uh)(m:H' p≠Uh)(new:COk (ow B (Y++[p]) (Z++[c])) K H' (Y++[p]) p c):U8 B K H' (Y++[p]) (Z++[c]):=by
 have ev:Wh Y Z H (Y++[p]) (Z++[c]) H':=Wh.abO s.len e l;have n:∀b,H b≠Uh->H' b≠Uh:=λb h z=>h (e.free z);refine⟨by rw[Uo,Uo,s.len];rfl,λi j a f g=>?_,λa h=>n a (s.bn a h),λa h i q=>?_,λi a h=>?_,λi a d f g=>?_⟩
 .rcases cF f with g1|⟨e1,e2⟩<;>rcases cF g with g2|⟨e3,e4⟩
  .exact s.nd i j a g1 g2
  .exact a5 (by rw[e4];exact l) (s.al i a g1)
  .exact a5 (by rw[e2];exact l) (s.al j a g2)
  .omega
 .rcases cF q with q|⟨_,e2⟩
  .exact s.ba a h i q
  .subst e2;exact s.bn a h l
 .rcases cF h with h|⟨_,e2⟩
  .exact n a (s.al i a h)
  .subst e2;exact m
 .rcases cF g with g|⟨e1,e2⟩
  .rcases cF f with f|⟨e1,_⟩
   .exact(s.cel i a d f g).ev ev.ev ev.pre λo q=>e _ _ q
   .have:=(Uk.mp g).1;have:=s.len;ext
  .rcases cF f with f|⟨_,e3⟩
   .have:=(Uk.mp f).1;have:=s.len;ext
   .subst e2 e3;exact new
def WS(K:Ld)(E:XK)(B:cz)(H:Hp)(Y:bb Uq)(Z:bh)(P:A->bb Uq->bh->Hp->Prop):RS A->Prop
 |.ok a T=>∀X H',Wh Y Z H X T H'->U8 B K H' X T->P a X T H'
 |.er x T=>∀c dx X H',Wh Y Z H X T H'->U8 B K H' X T->XOk K (ow B X T) H' c dx x->E c dx H'
 |.bad=>False
theorem WS.from(e:Wh Y Z H U Z1 R)(h:WS K E B H Y Z P r):WS K E B R U Z1 P r:=by
 cases r with
 |ok a M=>exact λS N f b=>h S N (e.trans f) b
 |er x M=>exact λc dx S N f b=>h c dx S N (e.trans f) b
 |bad=>exact h
theorem WS.bind(h:WS K E B H Y Z P (r.bind k)):WS K E B H Y Z (λa U Z1 R=>WS K E B R U Z1 P (k a Z1)) r:=by
 cases r with
 |ok a Z1=>exact λU R b _=>WS.from b h
 |er x Z1=>exact h
 |bad=>exact h
theorem WS.Vm(h:WS K E B H Y Z P ((RS.Vm Z o).bind k)):∃a,o=lD a/\WS K E B H Y Z P (k a Z):=by
 cases o with
 |none=>exact h.elim
 |some a=>exact⟨a,rfl,h⟩
theorem WS.imp(h:WS K E B H Y Z P r)(g:∀a X T H',Wh Y Z H X T H'->U8 B K H' X T->P a X T H'->P' a X T H'):WS K E B H Y Z P' r:=by
 cases r with
 |ok a Z1=>exact λU R e b=>g a U Z1 R e b (h U R e b)
 |er x Z1=>exact h
 |bad=>exact h
theorem WS.now(s:U8 B K H Y Z)(h:WS K E B H Y Z P (.ok a Z)):P a Y Z H:=h Y H .refl s
end
abbrev dI:=bz->bh->RS SV
abbrev vM:=bz->bh->RS Bool
abbrev wD:=bz->bh->RS (bb SV)
def cW(K:Ld)(E:XK)(t:TE)(f:dI):Prop:=
 ∀(B:cz) (b:L2.St) (H:Hp) (α:bb Uq) (Z:bh) (ρ:bz) (Q:VK),U8 B K H α Z->Xj (ow B α Z) K H α b ρ->WS K E B H α Z (λx a g e=>∀v,Xu (ow B a g) K e a v x->Q v e) (f ρ Z)->t b H Q
def vT(K:Ld)(E:XK)(t:TT)(f:vM):Prop:=
 ∀(B:cz) (a:L2.St) (H:Hp) (α:bb Uq) (Z:bh) (ρ:bz) (Q:Bool->Hp->Prop),U8 B K H α Z->Xj (ow B α Z) K H α a ρ->WS K E B H α Z (λb _ _ e=>Q b e) (f ρ Z)->t a H Q
def v3(K:Ld)(E:XK)(t:TA)(f:wD):Prop:=
 ∀(B:cz) (b:L2.St) (H:Hp) (α:bb Uq) (Z:bh) (ρ:bz) (Q:bb V->Hp->Prop),U8 B K H α Z->Xj (ow B α Z) K H α b ρ->WS K E B H α Z (λxs a g e=>∀vs,W3 (ow B a g) K e a vs xs->Q vs e) (f ρ Z)->t b H Q
section
variable{B O M:cz}{K:Ld}{E:XK}{H H' T H2:Hp}{Y N X J:bb Uq}{Z Z' Z1 P:bh}{U:L2.St}{ρ:bz}{v:V}
def NS:bg SV->bg PV
 |some (.fz d)=>lD (.fz d)
 |_=>Uh
def bT(ρ:bz):bw:=ρ.map NS
theorem v5{i:Nat}(h:(bT ρ)[i]?=lD (lD x)):∃d,x=.fz d/\ρ[i]?=lD (lD (.fz d)):=by
 unfold bT at h;rw[Uu]at h;cases q:ρ[i]? with
 |none=>rw[q]at h;cases h
 |some o=>
  rw[q]at h;have a:=UH h;unfold NS at a;split at a
  .cases a;exact⟨_,rfl,rfl⟩
  .cases a
theorem Iw(s:U8 B K H Y Z)(a:Xj (ow B Y Z) K H Y U ρ):Rl K (ow B Y Z) H (ow B Y Z) U H (bT ρ):=by
 refine⟨We.refl _,λ_ h=>h,s.owd,s.noO,by unfold bT;rw[Ui];exact a.1,λi x h=>?_,λi j ds l w h=>?_⟩
 .obtain⟨d,rfl,b⟩:=v5 h;obtain⟨v,g,f⟩:=a.2 i _ b;exact⟨v,g,f⟩
 .obtain⟨d,e,_⟩:=v5 h;cases e
def nF(Z:bh):RV->RS SV
 |.fz d=>.ok (.fz d) Z
 |.ow ds=>.ok (.rf Z.length) (Z++[.lst (ds.map .fz)])
abbrev PQ(B:cz)(K:Ld)(Q:VK):SV->bb Uq->bh->Hp->Prop:=λx N Z' H'=>∀v,Xu (ow B N Z') K H' N v x->Q v H'
theorem kI(O:cz)(Y:bb Uq):∀{vs:bb V} {ds:bb D},V9 O K H vs ds->W3 O K H Y vs (ds.map .fz)
 |_,_,.nil=>.nil
 |_,_,.cons h t=>.cons h (kI O Y t)
theorem JP:∀{vs:bb V} {ds:bb D},W3 O K H Y vs (ds.map .fz)->V9 O K H vs ds
 |_,[],.nil=>.nil
 |_,_::_,.cons h t=>.cons h (JP t)
theorem uB(s:U8 B K H Y Z)(w:WS K E B H Y Z (PQ B K Q) (nF Z (.ow ds)))(e:We H H')(a:H p=Uh)(h:H' p=lD (.lst vs))(hd:V9 M K H' vs ds)(f:∀b,ow B Y Z b->M b)(g:M p):Q (.ref p) H':=by
 have sub:∀b,ow B (Y++[p]) (Z++[.lst (ds.map .fz)]) b->M b:=λb z=>z.elim (λq=>f b (.inl q)) λq=>(xf s.len q).elim (λq=>f b (.inr q)) λq=>by rw[q];exact g
 exact w (Y++[p]) H' (Wh.abO s.len e a) (s.abO e a (by rw[h];simp) ⟨vs,h,kI _ _ (hd.ev (Ev.sub sub))⟩) (.ref p) ⟨p,by rw[<-s.len];exact aQ,rfl⟩
theorem J4(s:U8 B K H Y Z)(w:WS K E B H Y Z (PQ B K Q) (nF Z rv)):Fin (ow B Y Z) K H Q rv:=by
 cases rv with
 |fz d=>exact λv H' e a=>w Y H' (Wh.same e) (s.grow e) v a
 |ow ds=>exact λp vs H' e f h a=>uB s w e f h a (λb z=>.inl z) (.inr rfl)
def ae(f:FE):dI:=λρ Z=>match f (bT ρ)with
 |.ok (.fz d,_)=>.ok (.fz d) Z
 |.ok (.ow ds,_)=>nF Z (.ow ds)
 |.ok (.pl _,_)=>.bad
 |.er x=>.er x Z
 |.bad=>.bad
theorem aq(h:EO K E t f):cW K E t (ae f):=by
 intro B U H Y Z ρ Q s g w;refine h (ow B Y Z) H (ow B Y Z) U H (bT ρ) Q (Iw s g) ?_;unfold ae at w;cases q:f (bT ρ)with
 |bad=>rw[q]at w;exact w.elim
 |er x=>rw[q]at w;exact λc dx H' e k=>w c dx Y H' (Wh.same e) (s.grow e) k
 |ok r=>
  obtain⟨pv,b⟩:=r;rw[q]at w;intro M v H' e R p;cases pv with
  |fz d=>exact w Y H' (Wh.same R.same) (s.grow R.same) v (DV.ev (Ev.sub R.bo) p)
  |ow ds=>obtain⟨a,vs,rfl,n,m,l,j,o⟩:=p;exact uB s w R.same m l j R.bo n
  |pl i=>exact w.elim
def cH(f:FT):vM:=λρ Z=>match f (bT ρ)with
 |.ok (b,_)=>.ok b Z
 |.er x=>.er x Z
 |.bad=>.bad
theorem Hz(h:TTO K E t f):vT K E t (cH f):=by
 intro B U H Y Z ρ Q s g w;refine h (ow B Y Z) H (ow B Y Z) U H (bT ρ) Q (Iw s g) ?_;unfold cH at w;cases q:f (bT ρ)with
 |bad=>rw[q]at w;exact w.elim
 |er x=>rw[q]at w;exact λc dx H' e k=>w c dx Y H' (Wh.same e) (s.grow e) k
 |ok r=>obtain⟨b,a⟩:=r;rw[q]at w;exact λM H' e R=>w Y H' (Wh.same R.same) (s.grow R.same)
def au(i:Nat):dI:=λρ Z=>match ρ[i]? with
 |some (lD x)=>.ok x Z
 |_=>.bad
theorem aF:cW K E (zO i) (au i):=by
 intro B U H Y Z ρ Q s a w;unfold au at w;cases q:ρ[i]? with
 |none=>rw[q]at w;exact w.elim
 |some o=>
  cases o with
  |none=>rw[q]at w;exact w.elim
  |some x=>rw[q]at w;obtain⟨v,e,b⟩:=a.2 i x q;exact⟨v,e,WS.now s w v b⟩
def gz(K:Ld)(C:Str)(fs:bb Str):Prop:=∃Ca,UP K UK C=lD (lD (.ref Ca))/\Cls K Ca/\∀f∈fs,Yk K Ca f
def aZ(C f:Str)(e:dI):dI:=λρ Z=>(e ρ Z).bind λx Z1=>match x with
 |.rf i=>(match Z1[i]? with
  |some (.obj D fs)=>if D=C then RS.Vm Z1 (fs.lookup f)else .bad
  |_=>.bad)
 |_=>.bad
theorem vS:∀{ws:bb (Str×V)} {fs:bb (Str×SV)},Paired (λ(p:Str×V) (q:Str×SV)=>p.1=q.1/\Xu O K H Y p.2 q.2) ws fs->fs.lookup f=lD x->∃v,ws.lookup f=lD v/\Xu O K H Y v x
 |_,_,.nil,h=>by cases h
 |(a,v)::ws,(b,y)::fs,.cons ⟨h1,h2⟩ t,h=>by
  cases h1;rw[UO]at h⊢;split at h
  .cases h;exact⟨v,rfl,h2⟩
  .exact vS t h
theorem ww:∀{ws:bb (Str×V)} {fs:bb (Str×SV)},Paired (λ(p:Str×V) (q:Str×SV)=>p.1=q.1/\Xu O K H Y p.2 q.2) ws fs->fs.lookup f=Uh->ws.lookup f=Uh
 |_,_,.nil,h=>rfl
 |(a,v)::ws,(b,y)::fs,.cons ⟨h1,h2⟩ t,h=>by
  cases h1;rw[UO]at h⊢;split at h
  .cases h
  .exact ww t h
theorem bE(p:gz K C L)(o:f∈L)(ha:cW K E ta fa):cW K E (Pt K ta f) (aZ C f fa):=by
 intro B U H Y Z ρ Q s j w;refine ha B U H Y Z ρ _ s j (w.bind.imp λx X Z1 T I e b v m=>?_);cases x with
 |fz d=>exact b.elim
 |tp l=>exact b.elim
 |rf i=>
  obtain⟨a,ha,rfl⟩:=m;dsimp only at b;cases q:Z1[i]? with
  |none=>rw[q]at b;exact b.elim
  |some c=>
   rw[q]at b;cases c with
   |obj D fs=>
    dsimp only at b;by_cases z:D=C
    .subst z
     rw[av rfl]at b;obtain⟨G,dx,ws,y,t,r⟩:=e.cel i a _ ha q;cases ql:fs.lookup f with
     |none=>rw[ql]at b;exact b.elim
     |some x=>rw[ql]at b;obtain⟨u,n,h⟩:=vS r ql;obtain⟨R,g,F,A⟩:=p;rw[y]at g;cases g;exact⟨a,G,dx,ws,u,rfl,t,F,A f o,n,WS.now e b u h⟩
    .rw[ax z]at b;exact b.elim
   |_=>exact b.elim
def aC{Y a:Type}(f:Y->bg a):bb Y->bg (bb a)
 |[]=>lD []
 |x::r=>match f x with
  |some y=>(match aC f r with
   |some b=>lD (y::b)
   |none=>Uh)
  |none=>Uh
def mZ:Nat->bh->SV->bg D
 |_,_,.fz d=>lD d
 |0,_,_=>Uh
 |n+1,Z,.rf i=>match Z[i]? with
  |some (.lst xs)=>(aC (mZ n Z) xs).map .list
  |_=>Uh
 |n+1,Z,.tp l=>(aC (λx=>mZ n Z x.sv) l).map .tuple
theorem cS{Y a:Type}{f:Y->bg a}{R:V->Y->Prop}{S:V->a->Prop}(h:∀v x y,R v x->f x=lD y->S v y):∀{vs:bb V} {xs:bb Y} {g:bb a},Paired R vs xs->aC f xs=lD g->Paired S vs g
 |_,_,_,.nil,e=>by cases e;exact .nil
 |_,_,_,.cons (b:=x) (l₂:=xs) r t,e=>by
  unfold aC at e;cases q:f x with
  |none=>rw[q]at e;cases e
  |some y=>
   rw[q]at e;dsimp only at e;cases q2:aC f xs with
   |none=>rw[q2]at e;cases e
   |some g=>rw[q2]at e;cases e;exact .cons (h _ _ _ r q) (cS h t q2)
theorem jS:∀{vs:bb V} {ds:bb D},Paired (DV O K H) vs ds->V9 O K H vs ds
 |_,_,.nil=>.nil
 |_,_,.cons h t=>.cons h (jS t)
theorem Om:Ev O H noO H:=Ev.sub λ_ z=>z.elim
theorem ki(s:U8 B K H Y Z):∀(n:Nat) {v:V} {x:SV} {d:D},Xu (ow B Y Z) K H Y v x->mZ n Z x=lD d->DV noO K H v d
 |n,v,.fz d',d,h,e=>by
  have g:lD d'=lD d:=by cases n<;>exact e
  cases g;exact DV.ev Om h
 |0,v,.rf i,d,h,e=>by cases e
 |0,v,.tp l,d,h,e=>by cases e
 |n+1,v,.rf i,d,h,e=>by
  obtain⟨a,ha,rfl⟩:=h;unfold mZ at e;cases q:Z[i]? with
  |none=>rw[q]at e;cases e
  |some c=>
   rw[q]at e;cases c with
   |lst xs=>
    dsimp only at e;cases q2:aC (mZ n Z) xs with
    |none=>rw[q2]at e;cases e
    |some ds=>rw[q2]at e;cases e;obtain⟨vs,f,b⟩:=s.cel i a _ ha q;exact .lst ⟨X9.of f,λz=>z.elim⟩ (jS (cS (R:=Xu (ow B Y Z) K H Y) (λv x y r e=>ki s n r e) b q2))
   |_=>cases e
 |n+1,v,.tp l,d,h,e=>by
  obtain⟨a,xs,rfl,f,b⟩:=h;unfold mZ at e;cases q2:aC (λx=>mZ n Z x.sv) l with
  |none=>rw[q2]at e;cases e
  |some ds=>rw[q2]at e;cases e;exact .tup (f.ev Om) (jS (cS (λv x y r e=>ki s n (by cases x<;>exact r) e) b q2))
def yQ:SV->bg D
 |.fz d=>lD d
 |_=>Uh
def sh(Z:bh):SV->bg D
 |.fz d=>lD d
 |.rf i=>match Z[i]? with
  |some (.lst xs)=>(aC yQ xs).map .list
  |_=>Uh
 |.tp _=>Uh
theorem Gq(s:U8 B K H Y Z)(h:Xu (ow B Y Z) K H Y v x)(e:sh Z x=lD d):DX (ow B Y Z) K H v d:=by
 cases x with
 |fz g=>cases e;exact DV.x h
 |tp l=>cases e
 |rf i=>
  obtain⟨a,ha,rfl⟩:=h;unfold sh at e;dsimp only at e;cases q:Z[i]? with
  |none=>rw[q]at e;cases e
  |some c=>
   rw[q]at e;cases c with
   |lst xs=>
    dsimp only at e;cases q2:aC yQ xs with
    |none=>rw[q2]at e;cases e
    |some ds=>
     rw[q2]at e;cases e;obtain⟨vs,f,b⟩:=s.cel i a _ ha q;refine⟨a,vs,rfl,X9.of f,jS (cS (λv x y r e=>?_) b q2)⟩;cases x with
     |fz d=>cases e;exact r
     |rf i=>cases e
     |tp l=>cases e
   |_=>cases e
def BF:D->Bool
 |.none=>Um
 |.bool _=>Um
 |.int _=>Um
 |.str _=>Um
 |_=>Uw
theorem LU(h:BF d=Um)(a:DV O K H v d):DV M K H' v d:=by
 cases a with
 |WA=>exact .WA
 |bl b=>exact .bl b
 |int i=>exact .int i
 |str x=>exact .str x
 |tup _ _=>cases h
 |lst _ _=>cases h
def pp(Z:bh):RV->RS SV
 |.fz d=>if BF d=Um then .ok (.fz d) Z else .bad
 |.ow _=>.bad
theorem CH(s:U8 B K H Y Z)(w:WS K E B H Y Z (PQ B K Q) (pp Z rv)):Fin noO K H Q rv:=by
 cases rv with
 |fz d=>
  have w:WS K E B H Y Z (PQ B K Q) (if BF d=Um then RS.ok (SV.fz d) Z else RS.bad):=w;by_cases z:BF d=Um
  .rw[av z]at w;exact λv H' e a=>w Y H' (Wh.same e) (s.grow e) v (LU z a)
  .rw[ax z]at w;exact w.elim
 |ow ds=>exact w.elim
theorem JT:oU noO H:=λ_ _ z=>z
def r9(f:D->D->bg RV)(x y:SV)(Z:bh):RS SV:=match sh Z x,sh Z y with
 |some dx,lD a=>(RS.Vm Z (f dx a)).bind λrv Z1=>nF Z1 rv
 |_,_=>(RS.Vm Z (mZ 6 Z x)).bind λdx Z1=>(RS.Vm Z1 (mZ 6 Z1 y)).bind λa P=>(RS.Vm P (f dx a)).bind λrv b=>pp b rv
theorem Kx(n:qD K r f)(s:U8 B K H Y Z)(m:Xu (ow B Y Z) K H Y x a)(l:Xu (ow B Y Z) K H Y y b)(w:WS K E B H Y Z (PQ B K Q) (r9 f a b Z)):r x y H Q:=by
 have e:WS K E B H Y Z (PQ B K Q) ((RS.Vm Z (mZ 6 Z a)).bind λdx Z1=>(RS.Vm Z1 (mZ 6 Z1 b)).bind λi P=>(RS.Vm P (f dx i)).bind λrv o=>pp o rv)->r x y H Q:=λw=>by obtain⟨dx,g,w⟩:=w.Vm;obtain⟨i,h,w⟩:=w.Vm;obtain⟨rv,j,w⟩:=w.Vm;exact n noO H x y dx i rv Q JT (DV.x (ki s 6 m g)) (DV.x (ki s 6 l h)) j (CH s w)
 unfold r9 at w;cases g:sh Z a with
 |none=>rw[g]at w;exact e w
 |some dx=>
  cases h:sh Z b with
  |none=>rw[g,h]at w;exact e w
  |some i=>rw[g,h]at w;obtain⟨rv,j,w⟩:=w.Vm;exact n _ H x y dx i rv Q s.noO (Gq s m g) (Gq s l h) j (J4 s w)
def lC(f:D->D->bg RV)(fa fb:dI):dI:=λρ Z=>(fa ρ Z).bind λx Z1=>(fb ρ Z1).bind λy P=>r9 f x y P
theorem gP(l:qD K r f)(ha:cW K E ta fa)(m:cW K E tb fb):cW K E (Qv r ta tb) (lC f fa fb):=by intro B U H Y Z ρ Q s a w;refine ha B U H Y Z ρ _ s a (w.bind.imp λx X Z1 T o h e v i=>?_);refine m B U T X Z1 ρ _ h (a.WN o) (e.bind.imp λy J P H2 n g b u j=>?_);exact Kx l g (i.WN n) j b
def MJ:SV->bg Bool
 |.fz (.bool b)=>lD b
 |_=>Uh
theorem Mp(e:MJ x=lD b)(h:Xu O K H Y v x):v=.bl b:=by
 unfold MJ at e;split at e
 .cases e;cases h;rfl
 .cases e
def bK(fa:dI):vM:=λρ Z=>(fa ρ Z).bind λx Z1=>RS.Vm Z1 (MJ x)
theorem fH(ha:cW K E ta fa):vT K E (Hc ta) (bK fa):=by
 intro B U H Y Z ρ Q s e w;refine ha B U H Y Z ρ _ s e (w.bind.imp λx X Z1 T h f a v g=>?_);cases q:MJ x with
 |none=>rw[q]at a;exact a.elim
 |some b=>rw[q]at a;exact⟨b,Mp q g,WS.now f a⟩
theorem Ot(ha:cW K E ta fa):vT K E (tB ta) (bK fa):=fH ha
def oP(fa fb:vM):vM:=λρ Z=>(fa ρ Z).bind λb Z1=>if b=Um then fb ρ Z1 else .ok Uw Z1
def Bb(fa fb:vM):vM:=λρ Z=>(fa ρ Z).bind λb Z1=>if b=Um then .ok Um Z1 else fb ρ Z1
def xC(fa:vM):vM:=λρ Z=>(fa ρ Z).bind λb Z1=>.ok (!b) Z1
theorem NG(j:vT K E t f)(i:vT K E u g):vT K E (QM t u) (oP f g):=by
 intro B U H Y Z ρ Q s e w;refine j B U H Y Z ρ _ s e (w.bind.imp λb X Z1 T l h a=>?_);cases b with
 |true=>exact i B U T X Z1 ρ Q h (e.WN l) a
 |false=>exact WS.now h a
theorem B1(j:vT K E t f)(i:vT K E u g):vT K E (To t u) (Bb f g):=by
 intro B U H Y Z ρ Q s e w;refine j B U H Y Z ρ _ s e (w.bind.imp λb X Z1 T l h a=>?_);cases b with
 |true=>exact WS.now h a
 |false=>exact i B U T X Z1 ρ Q h (e.WN l) a
theorem Lg(h:vT K E t f):vT K E (P0 t) (xC f):=by intro B U H Y Z ρ Q s e w;exact h B U H Y Z ρ _ s e (w.bind.imp λb X Z1 T i g a=>WS.now g a)
def cR:vM:=λ_ Z=>.ok Um Z
theorem fD:vT K E JW cR:=λB U H Y Z ρ Q s a w=>WS.now s w
def Fc(fa fb:dI):dI:=λρ Z=>(bK fa ρ Z).bind λb Z1=>if b=Um then fb ρ Z1 else .ok (.fz (.bool Uw)) Z1
theorem DA(ha:cW K E ta fa)(g:cW K E tb fb):cW K E (Kr ta tb) (Fc fa fb):=by
 intro B U H Y Z ρ Q s e w;refine fH ha B U H Y Z ρ (λc T=>if c=Um then tb U T Q else Q (.bl Uw) T) s e (w.bind.imp λb X Z1 T h f a=>?_);cases b with
 |true=>exact g B U T X Z1 ρ Q f (e.WN h) a
 |false=>exact WS.now f a _ (.bl Uw)
def OS(c:vM)(fa fb:dI):dI:=λρ Z=>(c ρ Z).bind λb Z1=>if b=Um then fa ρ Z1 else fb ρ Z1
theorem O0(h:vT K E t c)(ha:cW K E ta fa)(i:cW K E tb fb):cW K E (S8 t ta tb) (OS c fa fb):=by
 intro B U H Y Z ρ Q s a w;refine h B U H Y Z ρ _ s a (w.bind.imp λb X Z1 T g f e=>?_);cases b with
 |true=>exact ha B U T X Z1 ρ Q f (a.WN g) e
 |false=>exact i B U T X Z1 ρ Q f (a.WN g) e
def aH:wD:=λ_ Z=>.ok [] Z
def aj(fa:dI)(a:wD):wD:=λρ Z=>(fa ρ Z).bind λx Z1=>(a ρ Z1).bind λxs P=>.ok (x::xs) P
theorem bu:v3 K E ng aH:=λB U H Y Z ρ Q s a w=>WS.now s w [] .nil
theorem aA(ha:cW K E ta fa)(j:v3 K E tr fr):v3 K E (iH ta tr) (aj fa fr):=by intro B U H Y Z ρ Q s b w;refine ha B U H Y Z ρ _ s b (w.bind.imp λx X Z1 T m h f v i=>?_);refine j B U T X Z1 ρ _ h (b.WN m) (f.bind.imp λxs J P H2 l g e vs a=>?_);exact WS.now g e (v::vs) (.cons (i.WN l) a)
def SS:SV->bg AV
 |.fz d=>lD (.fz d)
 |.rf i=>lD (.rf i)
 |.tp _=>Uh
def SN(xs:bb SV):bg SV:=match aC yQ xs with
 |some ds=>lD (.fz (.tuple ds))
 |none=>(aC SS xs).map .tp
def mh(fa:wD):dI:=λρ Z=>(fa ρ Z).bind λxs Z1=>if xs.length<=1000 then RS.Vm Z1 (SN xs)else .bad
theorem Cd(r:Xu O K H Y v x)(e:yQ x=lD d):DV O K H v d:=by
 cases x with
 |fz d=>cases e;exact r
 |rf i=>cases e
 |tp l=>cases e
theorem PN(r:Xu O K H Y v x)(e:SS x=lD d):AOk O K H Y v d:=by
 cases x with
 |fz d=>cases e;exact r
 |rf i=>cases e;exact r
 |tp l=>cases e
theorem mW(ha:v3 K E ta fa):cW K E (Qb ta) (mh fa):=by
 intro B U H Y Z ρ Q s m w;refine ha B U H Y Z ρ _ s m (w.bind.imp λxs X Z1 T n f a vs g=>?_);by_cases hn:xs.length<=1000
 .rw[av hn]at a
  refine⟨by rw[g.length];exact Ch hn,λp j=>?_⟩;have b:We T (bM T p (.tup vs)):=cD j _;have e:Wh X Z1 T X Z1 (bM T p (.tup vs)):=Wh.same b;have i:Y5 (ow B X Z1) K (bM T p (.tup vs)) p vs:=⟨YA.of aV,λz=>a5 z (f.noO p j)⟩;unfold SN at a;cases q:aC yQ xs with
  |some ds=>rw[q]at a;exact a X _ e (f.grow b) _ (.tup i (jS (cS (R:=Xu (ow B X Z1) K T X) (λv x y r h=>(Cd r h).ev e.ev) g q)))
  |none=>
   rw[q]at a;dsimp only at a;cases q2:aC SS xs with
   |none=>rw[q2]at a;exact a.elim
   |some l=>rw[q2]at a;exact a X _ e (f.grow b) _ ⟨p,vs,rfl,i,cS (R:=Xu (ow B X Z1) K T X) (λv x y r h=>(PN r h).ev e.ev e.pre) g q2⟩
 .rw[ax hn]at a;exact a.elim
def FV(f:bb D->bg RV)(xs:bb SV)(Z:bh):RS SV:=match aC (sh Z) xs with
 |some ds=>(RS.Vm Z (f ds)).bind λrv Z1=>nF Z1 rv
 |_=>(RS.Vm Z (aC (mZ 6 Z) xs)).bind λds Z1=>(RS.Vm Z1 (f ds)).bind λrv a=>pp a rv
def kg(f:bb D->bg RV)(fa:wD):dI:=λρ Z=>(fa ρ Z).bind λxs Z1=>FV f xs Z1
theorem fV(i:Ks K r f)(ha:v3 K E ta fa):cW K E (KF r ta) (kg f fa):=by
 intro B U H Y Z ρ Q s j w;refine ha B U H Y Z ρ _ s j (w.bind.imp λxs X Z1 T m b a vs h=>?_);unfold FV at a;cases q1:aC (sh Z1) xs with
 |none=>rw[q1]at a;obtain⟨ds,l,a⟩:=a.Vm;obtain⟨rv,g,a⟩:=a.Vm;exact i noO T vs ds rv Q JT (cS (R:=Xu (ow B X Z1) K T X) (λv x y r e=>DV.x (ki b 6 r e)) h l) g (CH b a)
 |some ds=>rw[q1]at a;obtain⟨rv,g,a⟩:=a.Vm;exact i _ T vs ds rv Q b.noO (cS (R:=Xu (ow B X Z1) K T X) (λv x y r e=>Gq b r e) h q1) g (J4 b a)
end
section
variable{B O O':cz}{K:Ld}{E:XK}{H H' M L:Hp}{Y J X U:bb Uq}{Z N Z1 T:bh}{S:L2.St}{ρ:bz}{v:V}
theorem B0:∀{vs:bb V} {xs:bb β} {i:Nat} {x:β},Paired R vs xs->xs[i]?=lD x->∃v,vs[i]?=lD v/\R v x
 |_,_,_,_,.nil,e=>by simp at e
 |_,_,0,_,.cons h _,e=>by simp at e;subst e;exact⟨_,rfl,h⟩
 |_,_,i+1,x,.cons _ t,e=>by obtain⟨v,b,a⟩:=B0 t (by simpa using e);exact⟨v,by simpa using b,a⟩
theorem Oj{vs:bb V}(h:Paired R vs xs)(e:nc xs i=lD x):∃v,nc vs i=lD v/\R v x:=by
 unfold nc at e⊢;rw[h.length];cases q:KG xs.length i with
 |none=>rw[q]at e;cases e
 |some j=>rw[q]at e;exact B0 h e
def Ja:SV->bg Int
 |.fz (.int i)=>lD i
 |_=>Uh
theorem EA(e:Ja x=lD i)(h:Xu O K H Y v x):v=.int i:=by
 unfold Ja at e;split at e
 .cases e;cases h;rfl
 .cases e
def Pb(x y:SV)(Z:bh):RS SV:=match x with
 |.fz _=>r9 bA x y Z
 |.rf j=>(match Z[j]? with
  |some (.lst xs)=>(RS.Vm Z (Ja y)).bind λi Z1=>RS.Vm Z1 (nc xs i)
  |_=>.bad)
 |.tp l=>(RS.Vm Z (Ja y)).bind λi Z1=>RS.Vm Z1 ((nc l i).map AV.sv)
def fP(fa fb:dI):dI:=λρ Z=>(fa ρ Z).bind λx Z1=>(fb ρ Z1).bind λy T=>Pb x y T
theorem dY(ha:cW K E ta fa)(C:cW K E tb fb):cW K E (Qv (SR K) ta tb) (fP fa fb):=by
 intro B S H Y Z ρ Q s r w;refine ha B S H Y Z ρ _ s r (w.bind.imp λx X Z1 M G A t v e=>?_);refine C B S M X Z1 ρ _ A (r.WN G) (t.bind.imp λy U T L F f b u n=>?_);have e:=e.WN F;unfold Pb at b;cases x with
 |fz d=>exact Kx cJ f e n b
 |rf j=>
  obtain⟨a,ha,rfl⟩:=e;dsimp only at b;cases q:T[j]? with
  |none=>rw[q]at b;exact b.elim
  |some c=>
   rw[q]at b;cases c with
   |lst xs=>
    obtain⟨i,h,b⟩:=WS.Vm b;cases qa:nc xs i with
    |none=>rw[qa]at b;exact b.elim
    |some x=>rw[qa]at b;obtain⟨vs,p,o⟩:=f.cel j a _ ha q;obtain⟨z,m,g⟩:=Oj o qa;exact .inl ⟨a,vs,i,z,rfl,EA h n,YL.of p,m,WS.now f b z g⟩
   |_=>exact b.elim
 |tp l=>
  obtain⟨a,xs,rfl,p,o⟩:=e;obtain⟨i,h,b⟩:=WS.Vm b;cases qa:nc l i with
  |none=>rw[qa]at b;exact b.elim
  |some x=>rw[qa]at b;obtain⟨z,m,g⟩:=Oj o qa;exact .inr (.inl ⟨a,xs,i,z,rfl,EA h n,p.1,m,WS.now f b z (by cases x<;>exact g)⟩)
theorem Nv(h:Lv Y (Z.set i .dead) b):Lv Y Z b:=by
 obtain⟨j,c,f,a,e⟩:=h;rcases cG a with⟨rfl,rfl⟩|⟨_,a⟩
 .exact a5 rfl e
 .exact⟨j,c,f,a,e⟩
theorem Wh.kill:Wh Y Z H Y (Z.set i .dead) H:=⟨λ_ _ h=>h,λ_ _ h _=>h,λ_ h=>.inl (Nv h)⟩
theorem U8.kill(s:U8 B K H Y Z)(i:Nat):U8 B K H Y (Z.set i .dead):=by
 have e:Wh Y Z H Y (Z.set i .dead) H:=Wh.kill;refine⟨by rw[VG];exact s.len,s.nd,s.bn,s.ba,s.al,λj b d f a=>?_⟩;rcases cG a with⟨rfl,rfl⟩|⟨g,a⟩
 .exact trivial
 .exact(s.cel j b d f a).ev e.ev e.pre λu q=>q
theorem U8.afo(s:U8 B K H Y Z)(ha:Y[i]?=lD a):¬ow B Y (Z.set i .dead) a:=by
 rintro(z|⟨j,c,f,e,b⟩)
 .exact s.aex ha z
 .have:=s.nd j i a f ha
  subst this;rcases cG e with⟨_,rfl⟩|⟨g,_⟩
  .exact b rfl
  .exact g rfl
def jP(g:bh->SV->bg (D×bh)):bh->bb SV->bg (bb D×bh)
 |Z,[]=>lD ([],Z)
 |Z,x::r=>match g Z x with
  |some (d,Z1)=>(match jP g Z1 r with
   |some (ds,T)=>lD (d::ds,T)
   |none=>Uh)
  |none=>Uh
def frz:Nat->bh->SV->bg (D×bh)
 |_,Z,.fz d=>lD (d,Z)
 |0,_,_=>Uh
 |n+1,Z,.rf i=>match Z[i]? with
  |some (.lst xs)=>(match jP (frz n) Z xs with
   |some (ds,Z1)=>lD (.list ds,Z1.set i .dead)
   |none=>Uh)
  |_=>Uh
 |n+1,Z,.tp l=>match jP (frz n) Z (l.map AV.sv)with
  |some (ds,Z1)=>lD (.tuple ds,Z1)
  |none=>Uh
theorem xh(a:∀{Z N:bh} {v:V} {x:SV} {d:D},U8 B K H Y Z->Xu (ow B Y Z) K H Y v x->g Z x=lD (d,N)->U8 B K H Y N/\Wh Y Z H Y N H/\L3.DV (ow B Y N) K H v d):
  ∀{vs:bb V} {xs:bb SV} {ds:bb D} {Z N:bh},U8 B K H Y Z->W3 (ow B Y Z) K H Y vs xs->jP g Z xs=lD (ds,N)->U8 B K H Y N/\Wh Y Z H Y N H/\L3.V9 (ow B Y N) K H vs ds
 |_,_,_,Z,N,s,.nil,e=>by cases e;exact⟨s,.refl,.nil⟩
 |_,_,_,Z,N,s,.cons (b:=x) (l₂:=xs) r t,e=>by
  unfold jP at e;cases q:g Z x with
  |none=>rw[q]at e;cases e
  |some p=>
   obtain⟨d,Z1⟩:=p;rw[q]at e;dsimp only at e;obtain⟨j,h,n⟩:=a s r q;cases q2:jP g Z1 xs with
   |none=>rw[q2]at e;cases e
   |some l=>obtain⟨ds,T⟩:=l;rw[q2]at e;cases e;obtain⟨i,f,m⟩:=xh a j (W3.WN h t) q2;exact⟨i,h.trans f,.cons (n.ev f.ev) m⟩
theorem yw:∀{vs:bb V} {l:bb AV},Paired (AOk O K H Y) vs l->W3 O K H Y vs (l.map AV.sv)
 |_,_,.nil=>.nil
 |_,_,.cons (b:=x) h t=>.cons (by cases x<;>exact h) (yw t)
theorem xa:∀(n:Nat) {Z N:bh} {v:V} {x:SV} {d:D},U8 B K H Y Z->Xu (ow B Y Z) K H Y v x->frz n Z x=lD (d,N)->U8 B K H Y N/\Wh Y Z H Y N H/\L3.DV (ow B Y N) K H v d
 |n,Z,N,v,.fz d',d,s,h,e=>by
  have o:lD (d',Z)=lD (d,N):=by cases n<;>exact e
  cases o;exact⟨s,.refl,h⟩
 |0,_,_,v,.rf i,d,s,h,e=>by cases e
 |0,_,_,v,.tp l,d,s,h,e=>by cases e
 |n+1,Z,N,v,.rf i,d,s,h,e=>by
  obtain⟨a,ha,rfl⟩:=h;unfold frz at e;cases q:Z[i]? with
  |none=>rw[q]at e;cases e
  |some c=>
   rw[q]at e;cases c with
   |lst xs=>
    dsimp only at e;obtain⟨vs,j,g⟩:=s.cel i a _ ha q;cases q2:jP (frz n) Z xs with
    |none=>rw[q2]at e;cases e
    |some p=>obtain⟨ds,Z1⟩:=p;rw[q2]at e;cases e;obtain⟨b,f,m⟩:=xh (λs h e=>xa n s h e) s g q2;exact⟨b.kill i,f.trans Wh.kill,x9 j (b.afo ha) (m.ev (Wh.kill).ev)⟩
   |_=>cases e
 |n+1,Z,N,v,.tp l,d,s,h,e=>by
  obtain⟨a,xs,rfl,j,g⟩:=h;unfold frz at e;cases q2:jP (frz n) Z (l.map AV.sv)with
  |none=>rw[q2]at e;cases e
  |some p=>obtain⟨ds,Z1⟩:=p;rw[q2]at e;cases e;obtain⟨b,f,m⟩:=xh (λs h e=>xa n s h e) s (yw g) q2;exact⟨b,f,.tup (j.ev f.ev) m⟩
def ND(x:SV)(Z:bh):RS SV:=match frz 4 Z x with
 |some (d,Z1)=>.ok (.fz d) Z1
 |none=>.bad
def jN(f:dI):dI:=λρ Z=>(f ρ Z).bind λx Z1=>ND x Z1
theorem kR(h:cW K E t f):cW K E t (jN f):=by
 intro B S H Y Z ρ Q s b w;refine h B S H Y Z ρ _ s b (w.bind.imp λx X Z1 M m g a v i=>?_);unfold ND at a;cases q:frz 4 Z1 x with
 |none=>rw[q]at a;exact a.elim
 |some p=>obtain⟨d,T⟩:=p;rw[q]at a;obtain⟨e,j,l⟩:=xa 4 g i q;exact a X M j e v l
theorem XOk.sub(h:∀b,O' b->O b)(k:XOk K O H c dx x):XOk K O' H c dx x:=by obtain⟨i,fs,g,a⟩:=k;exact⟨i,fs,g,λf d e=>let⟨g1,v,g2,g3⟩:=a f d e;⟨g1,v,g2,g3.ev (Ev.sub h)⟩⟩
def AB(F:FN)(n:Nat)(xs:bb SV)(Z:bh):RS SV:=if xs.length=n then(match aC yQ xs with
 |some ds=>(match F ds with
  |.ok rv=>nF Z rv
  |.er x=>.er x Z
  |.bad=>.bad)
 |none=>(RS.Vm Z (aC (mZ 6 Z) xs)).bind λds Z1=>(match F ds with
  |.ok rv=>pp Z1 rv
  |_=>.bad))else .bad
def iE:RS A->RS A
 |.er _ _=>.bad
 |r=>r
def j8(F:FN)(n:Nat)(fa:wD):dI:=λρ Z=>(fa ρ Z).bind λxs Z1=>iE (AB F n xs Z1)
theorem WS.e0(h:WS K E B H Y Z P (iE r)):WS K E0 B H Y Z P r:=by
 cases r with
 |ok a Z=>exact h
 |er x Z=>exact h.elim
 |bad=>exact h
theorem Lc(s:U8 B K H Y Z)(b:W3 (ow B Y Z) K H Y vs xs)(w:WS K E B H Y Z (PQ B K Q) (AB F n xs Z)):pT K n F vs H Q E:=by
 unfold AB at w;by_cases hn:xs.length=n
 .rw[av hn]at w
  refine⟨b.length.trans hn,?_⟩;cases q:aC yQ xs with
  |some ds=>
   rw[q]at w;refine⟨ow B Y Z,ds,s.owd,jS (cS (R:=Xu (ow B Y Z) K H Y) (λv x y r e=>Cd r e) b q),?_⟩;dsimp only at w;cases qF:F ds with
   |ok rv=>rw[qF]at w;exact J4 s w
   |er x=>rw[qF]at w;exact λc dx H' e k=>w c dx Y H' (Wh.same e) (s.grow e) k
   |bad=>rw[qF]at w;exact w.elim
  |none=>
   rw[q]at w;obtain⟨ds,f,w⟩:=WS.Vm w;refine⟨noO,ds,λa z=>z.elim,jS (cS (R:=Xu (ow B Y Z) K H Y) (λv x y r e=>ki s 6 r e) b f),?_⟩;cases qF:F ds with
   |ok rv=>rw[qF]at w;exact CH s w
   |er x=>rw[qF]at w;exact w.elim
   |bad=>rw[qF]at w;exact w.elim
 .rw[ax hn]at w;exact w.elim
theorem D7(ha:v3 K E ta fa):cW K E (lj (pT K n F) [] E0 ta) (j8 F n fa):=by intro B S H Y Z ρ Q s b w;refine ha B S H Y Z ρ _ s b (w.bind.imp λxs X Z1 M g e a vs f=>?_);rw[UT];exact Lc e f (WS.e0 a)
abbrev i8:=bb SV->bh->RS SV
def dg(K:Ld)(n:Nat)(F:i8):Sp:=λvs H Q E=>vs.length=n/\∃(B:cz) (Y:bb Uq) (Z:bh) (xs:bb SV),U8 B K H Y Z/\W3 (ow B Y Z) K H Y vs xs/\WS K E B H Y Z (PQ B K Q) (F xs Z)
def Pq(F:i8)(n:Nat)(fa:wD):dI:=λρ Z=>(fa ρ Z).bind λxs Z1=>if xs.length=n then F xs Z1 else .bad
def nG(F:i8)(n:Nat)(fa:wD):dI:=λρ Z=>(fa ρ Z).bind λxs Z1=>if xs.length=n then iE (F xs Z1)else .bad
theorem IK(ha:v3 K E ta fa):cW K E (lj (dg K n F) [] E ta) (Pq F n fa):=by
 intro B S H Y Z ρ Q s e w;refine ha B S H Y Z ρ _ s e (w.bind.imp λxs X Z1 M g f a vs b=>?_);rw[UT];by_cases hn:xs.length=n
 .rw[av hn]at a;exact⟨b.length.trans hn,B,X,Z1,xs,f,b,a⟩
 .rw[ax hn]at a;exact a.elim
theorem qY(ha:v3 K E ta fa):cW K E (lj (dg K n F) [] E0 ta) (nG F n fa):=by
 intro B S H Y Z ρ Q s e w;refine ha B S H Y Z ρ _ s e (w.bind.imp λxs X Z1 M g f a vs b=>?_);rw[UT];by_cases hn:xs.length=n
 .rw[av hn]at a;exact⟨b.length.trans hn,B,X,Z1,xs,f,b,WS.e0 a⟩
 .rw[ax hn]at a;exact a.elim
def nK(Z:bh)(C m:Str):SV->Bool
 |.rf i=>match Z[i]? with
  |some (.obj D fs)=>decide (D=C)&&(fs.lookup m).isNone
  |_=>Uw
 |_=>Uw
def rE(C m:Str)(F:i8)(n:Nat)(fo:dI)(fa:wD):dI:=λρ Z=>(fo ρ Z).bind λx Z1=>if nK Z1 C m x=Um then(fa ρ Z1).bind λxs T=>(if(x::xs).length=n then F (x::xs) T else .bad)else .bad
def a9(C m:Str)(F:i8)(n:Nat)(fo:dI)(fa:wD):dI:=λρ Z=>(fo ρ Z).bind λx Z1=>if nK Z1 C m x=Um then(fa ρ Z1).bind λxs T=>(if(x::xs).length=n then iE (F (x::xs) T)else .bad)else .bad
theorem GQ(g:UP K UK C=lD (lD (.ref Ca)))(s:U8 B K H Y Z)(f:Xu (ow B Y Z) K H Y v x)(h:nK Z C m x=Um):∃a dx fs,v=.ref a/\H a=lD (.ins Ca dx fs)/\fs.lookup m=Uh:=by
 cases x with
 |fz d=>cases h
 |tp l=>cases h
 |rf i=>
  obtain⟨a,ha,rfl⟩:=f;unfold nK at h;dsimp only at h;cases q:Z[i]? with
  |none=>rw[q]at h;cases h
  |some c=>
   rw[q]at h;cases c with
   |obj D fs=>rw[UW]at h;obtain⟨n,j⟩:=h;have e:=a4 n;subst e;obtain⟨r,dx,ws,b,p,o⟩:=s.cel i a _ ha q;rw[g]at b;cases b;exact⟨a,dx,ws,rfl,p,ww o (Option.isNone_iff_eq_none.mp j)⟩
   |_=>cases h
theorem G6(q:UP K UK C=lD (lD (.ref Ca)))(p:cW K E to fo)(ha:v3 K E ta fa):cW K E (wR Ca m (dg K n F) [] E to ta) (rE C m F n fo fa):=by
 intro B S H Y Z ρ Q s g w;refine p B S H Y Z ρ _ s g (w.bind.imp λx X Z1 M y i e v j=>?_);by_cases h:nK Z1 C m x=Um
 .rw[av h]at e
  obtain⟨a,dx,fs,rfl,t,r⟩:=GQ q i j h;refine⟨a,dx,fs,rfl,t,r,?_⟩;refine ha B S M X Z1 ρ _ i (g.WN y) (e.bind.imp λxs U T L u o b vs f=>?_);rw[UT];have l:W3 (ow B U T) K L U (.ref a::vs) (x::xs):=.cons (j.WN u) f;by_cases hn:(x::xs).length=n
  .rw[av hn]at b;exact⟨l.length.trans hn,B,U,T,_,o,l,b⟩
  .rw[ax hn]at b;exact b.elim
 .rw[ax h]at e;exact e.elim
theorem Fs(q:UP K UK C=lD (lD (.ref Ca)))(p:cW K E to fo)(ha:v3 K E ta fa):cW K E (wR Ca m (dg K n F) [] E0 to ta) (a9 C m F n fo fa):=by
 intro B S H Y Z ρ Q s g w;refine p B S H Y Z ρ _ s g (w.bind.imp λx X Z1 M y i e v j=>?_);by_cases h:nK Z1 C m x=Um
 .rw[av h]at e
  obtain⟨a,dx,fs,rfl,t,r⟩:=GQ q i j h;refine⟨a,dx,fs,rfl,t,r,?_⟩;refine ha B S M X Z1 ρ _ i (g.WN y) (e.bind.imp λxs U T L u o b vs f=>?_);rw[UT];have l:W3 (ow B U T) K L U (.ref a::vs) (x::xs):=.cons (j.WN u) f;by_cases hn:(x::xs).length=n
  .rw[av hn]at b;exact⟨l.length.trans hn,B,U,T,_,o,l,WS.e0 b⟩
  .rw[ax hn]at b;exact b.elim
 .rw[ax h]at e;exact e.elim
def Gd:SV->Bool
 |.fz .none=>Um
 |_=>Uw
def vR(C:Str)(F:i8)(n:Nat)(xs:bb SV)(Z:bh):RS SV:=if(SV.rf Z.length::xs).length=n then(F (.rf Z.length::xs) (Z++[.obj C []])).bind λr T=>(if Gd r=Um then .ok (.rf Z.length) T else .bad)else .bad
def vv(C:Str)(F:i8)(n:Nat)(fa:wD):dI:=λρ Z=>(fa ρ Z).bind λxs Z1=>vR C F n xs Z1
def vZ(C:Str)(F:i8)(n:Nat)(fa:wD):dI:=λρ Z=>(fa ρ Z).bind λxs Z1=>iE (vR C F n xs Z1)
theorem LN(h:Gd x=Um)(a:Xu O K H Y v x):v=.WA:=by
 unfold Gd at h;split at h
 .cases a;rfl
 .cases h
theorem JD(p:UP K UK C=lD (lD (.ref Ca)))(s:U8 B K H Y Z)(o:W3 (ow B Y Z) K H Y vs xs)(w:WS K E B H Y Z (PQ B K Q) (vR C F n xs Z)):
  ∀x dx,H x=Uh->H dx=Uh->dx≠x->dg K n F (.ref x::(vs++[])) (bM (bM H dx (.own x)) x (.ins Ca dx [])) (λv L=>v=.WA/\Q (.ref x) L) E:=by
 intro x dx f h t;rw[UT];unfold vR at w;have i:We H (bM (bM H dx (.own x)) x (.ins Ca dx [])):=(cD h _).trans (cD (by rw[aI (λz=>t z.symm)];exact f) _);have e:Wh Y Z H (Y++[x]) (Z++[.obj C []]) (bM (bM H dx (.own x)) x (.ins Ca dx [])):=Wh.abO s.len i f;have m:U8 B K (bM (bM H dx (.own x)) x (.ins Ca dx [])) (Y++[x]) (Z++[.obj C []]):=s.abO i f (by rw[aV];simp) ⟨Ca,dx,[],p,aV,.nil⟩;have a:∀{J:bb Uq} {N:bh} {H':Hp},Wh (Y++[x]) (Z++[.obj C []]) (bM (bM H dx (.own x)) x (.ins Ca dx [])) J N H'->Xu (ow B J N) K H' J (.ref x) (.rf Z.length):=λe=>⟨x,e.pre _ _ (by rw[<-s.len];exact aQ),rfl⟩;by_cases hn:(SV.rf Z.length::xs).length=n
 .rw[av hn]at w
  have j:W3 (ow B (Y++[x]) (Z++[.obj C []])) K (bM (bM H dx (.own x)) x (.ins Ca dx [])) (Y++[x]) (.ref x::vs) (.rf Z.length::xs):=.cons (a .refl) (W3.WN e o);refine⟨j.length.trans hn,B,_,_,_,m,j,?_⟩;refine WS.imp (WS.from e w.bind) λr U T L q l b v g=>?_;by_cases z:Gd r=Um
  .rw[av z]at b;exact⟨LN z g,WS.now l b _ (a q)⟩
  .rw[ax z]at b;exact b.elim
 .rw[ax hn]at w;exact w.elim
theorem K4(g:UP K UK C=lD (lD (.ref Ca)))(ha:v3 K E ta fa):cW K E (Aj Ca (dg K n F) [] E ta) (vv C F n fa):=by intro B S H Y Z ρ Q s b w;refine ha B S H Y Z ρ _ s b (w.bind.imp λxs X Z1 M h e a vs f=>?_);exact JD g e f a
theorem Ip(g:UP K UK C=lD (lD (.ref Ca)))(ha:v3 K E ta fa):cW K E (Aj Ca (dg K n F) [] E0 ta) (vZ C F n fa):=by intro B S H Y Z ρ Q s b w;refine ha B S H Y Z ρ _ s b (w.bind.imp λxs X Z1 M h e a vs f=>?_);exact JD g e f (WS.e0 a)
def gp(Z:bh):SV->bg (Nat×bb SV)
 |.rf i=>match Z[i]? with
  |some (.lst xs)=>lD (i,xs)
  |_=>Uh
 |_=>Uh
theorem yB(s:U8 B K H Y Z)(b:Xu (ow B Y Z) K H Y v x)(h:gp Z x=lD (i,xs)):Z[i]?=lD (.lst xs)/\∃a vs,Y[i]?=lD a/\v=.ref a/\H a=lD (.lst vs)/\W3 (ow B Y Z) K H Y vs xs:=by
 cases x with
 |fz d=>cases h
 |tp l=>cases h
 |rf j=>
  obtain⟨a,ha,rfl⟩:=b;unfold gp at h;dsimp only at h;cases q:Z[j]? with
  |none=>rw[q]at h;cases h
  |some c=>
   rw[q]at h;cases c with
   |lst m=>have e:=UH h;cases e;obtain⟨vs,g,f⟩:=s.cel i a _ ha q;exact⟨q,a,vs,ha,rfl,g,f⟩
   |_=>cases h
theorem Dc(h:Paired R vs xs)(r:R v x):Paired R (vs++[v]) (xs++[x]):=by
 induction h with
 |nil=>exact .cons r .nil
 |cons a _ b=>exact .cons a b
def kK(fo fe:dI):dI:=λρ Z=>(fo ρ Z).bind λo Z1=>(RS.Vm Z1 (gp Z1 o)).bind λ_ Z1=>(fe ρ Z1).bind λx T=>(RS.Vm T (gp T o)).bind λp a=>
 if p.2.length<1000000 then .ok (.fz .none) (a.set p.1 (.lst (p.2++[x])))else .bad
theorem oY(F:cW K E to fo)(G:cW K E te fe):cW K E (SX K "list" xy to (iH te ng)) (kK fo fe):=by
 intro B S H Y Z ρ Q s j w;refine F B S H Y Z ρ _ s j (w.bind.imp λo X Z1 M e1 m e v n=>?_);obtain⟨⟨i0,y⟩,A,e⟩:=WS.Vm e;obtain⟨_,t,f,_,rfl,P,_⟩:=yB m n A;refine⟨.inl ⟨rfl,f,YL.of P⟩,?_⟩;refine G B S M X Z1 ρ _ m (j.WN e1) (e.bind.imp λx U T L e2 l b u C=>?_);obtain⟨⟨i,xs⟩,q,b⟩:=WS.Vm b;obtain⟨g,a,vs,ha,R,I,p⟩:=yB l (n.WN e2) q;cases R;dsimp only at b;by_cases hn:xs.length<1000000
 .rw[av hn]at b;have ev:Ev (ow B U T) L (ow B U T) (bM L t (.lst (vs++[u]))):=qS ha g (by nofun);refine⟨t,vs,u,rfl,rfl,I,uU (by rw[p.length];exact hn),?_⟩;exact b U _ (Wh.put ha g (by nofun) (by nofun)) (l.put ha g (by nofun) (by nofun) ⟨_,aV,Dc (Paired.Yv p λ_ _ r=>r.ev ev λ_ _ h=>h) (C.ev ev λ_ _ h=>h)⟩) _ .WA
 .rw[ax hn]at b;exact b.elim
end
inductive FlS where
 |nx (ρ:bz)
 |bk (ρ:bz)
 |ct (ρ:bz)
 |rt (x:SV)
abbrev fu:=bz->bh->RS FlS
abbrev Bg:=SV->bz->bh->RS bz
abbrev IM:=bb SV->bz->bh->RS bz
def zV(B:cz)(K:Ld)(D:Ends):FlS->bb Uq->bh->Hp->Prop
 |.nx ρ,α,Z,H=>∀σ,Xj (ow B α Z) K H α σ ρ->D.nx σ H
 |.bk ρ,α,Z,H=>∀σ,Xj (ow B α Z) K H α σ ρ->D.bk σ H
 |.ct ρ,α,Z,H=>∀σ,Xj (ow B α Z) K H α σ ρ->D.ct σ H
 |.rt x,α,Z,H=>∀v,Xu (ow B α Z) K H α v x->D.rt v H
def pU(K:Ld)(E:XK)(t:TS)(g:fu):Prop:=
 ∀(B:cz) (a:L2.St) (H:Hp) (α:bb Uq) (Z:bh) (ρ:bz) (D:Ends),U8 B K H α Z->Xj (ow B α Z) K H α a ρ->WS K E B H α Z (zV B K D) (g ρ Z)->t D a H
def KB(K:Ld)(E:XK)(g:TG)(f:Bg):Prop:=
 ∀(B:cz) (e:L2.St) (H:Hp) (α:bb Uq) (Z:bh) (ρ:bz) (v:V) (x:SV) (Q:L2.St->Hp->Prop),U8 B K H α Z->Xj (ow B α Z) K H α e ρ->Xu (ow B α Z) K H α v x->WS K E B H α Z (λb a i h=>∀σ',Xj (ow B a i) K h a σ' b->Q σ' h) (f x ρ Z)->g v e H Q
def Lu(K:Ld)(E:XK)(g:Pd)(f:IM):Prop:=
 ∀(B:cz) (e:L2.St) (H:Hp) (α:bb Uq) (Z:bh) (ρ:bz) (vs:bb V) (xs:bb SV) (Q:L2.St->Hp->Prop),U8 B K H α Z->Xj (ow B α Z) K H α e ρ->W3 (ow B α Z) K H α vs xs->WS K E B H α Z (λb a i h=>∀σ',Xj (ow B a i) K h a σ' b->Q σ' h) (f xs ρ Z)->g vs e H Q
section
variable{B O O':cz}{K:Ld}{E:XK}{H H' P N:Hp}{U M T Y:bb Uq}{Z Z' Z1 X:bh}{S:L2.St}{ρ:bz}{v:V}
theorem Xj.set(a:Xj O K H U S ρ)(h:Xu O K H U v x):Xj O K H U (S.set i (lD v)) (ρ.set i (lD x)):=by
 refine⟨by rw[VG,VG];exact a.1,λj y f=>?_⟩;rcases cG f with⟨rfl,e⟩|⟨m,b⟩
 .cases e;refine⟨v,?_,h⟩;rw[Vt];have:=yk f;rw[a.1];exact this
 .obtain⟨u,l,g⟩:=a.2 j y b;exact⟨u,by rw[Vo (λz=>m z.symm)];exact l,g⟩
def cV(i:Nat):Bg:=λx ρ Z=>.ok (ρ.set i (lD x)) Z
theorem aX:KB K E (wB i) (cV i):=λB S H U Z ρ v x Q s a h w=>WS.now s w _ (a.set h)
def xA:IM:=λxs ρ Z=>match xs with
 |[]=>.ok ρ Z
 |_=>.bad
def l7(f:Bg)(g:IM):IM:=λxs ρ Z=>match xs with
 |x::r=>(f x ρ Z).bind λa Z1=>g r a Z1
 |[]=>.bad
theorem tm:Lu K E QY xA:=by
 intro B S H U Z ρ vs xs Q s a h w;cases h with
 |nil=>exact⟨rfl,WS.now s w _ a⟩
 |cons _ _=>exact w.elim
theorem jf(p:KB K E t f)(o:Lu K E u g):Lu K E (GY t u) (l7 f g):=by
 intro B S H U Z ρ vs xs Q s m h w;cases h with
 |nil=>exact w.elim
 |cons a b=>refine⟨_,_,rfl,p B S H U Z ρ _ _ _ s m a (WS.imp (WS.bind w) λi T Z1 P q n l e j=>?_)⟩;exact o B e P T Z1 i _ _ _ n j (W3.WN q b) l
def Hi:SV->bg (bb SV)
 |.fz (.tuple ds)=>lD (ds.map .fz)
 |.tp l=>lD (l.map AV.sv)
 |_=>Uh
theorem QN(h:Xu O K H U v x)(e:Hi x=lD xs):∃a vs,v=.ref a/\Y5 O K H a vs/\W3 O K H U vs xs:=by
 unfold Hi at e;split at e
 .cases e
  cases h with
  |tup h f=>exact⟨_,_,rfl,h,kI _ _ f⟩
 .cases e;obtain⟨a,b,rfl,i,g⟩:=h;exact⟨a,b,rfl,i,yw g⟩
 .cases e
def Nd(n:Nat)(f:IM):Bg:=λx ρ Z=>(RS.Vm Z (Hi x)).bind λxs Z1=>if xs.length=n then f xs ρ Z1 else .bad
theorem sT(h:Lu K E t f):KB K E (Q4 K n t) (Nd n f):=by
 intro B S H U Z ρ v x Q s e g w;obtain⟨xs,q,w⟩:=WS.Vm w;obtain⟨a,vs,rfl,i,b⟩:=QN g q;by_cases hn:xs.length=n
 .rw[av hn]at w;exact⟨a,vs,rfl,i.1,b.length.trans hn,h B S H U Z ρ vs xs Q s e b w⟩
 .rw[ax hn]at w;exact w.elim
def dH:fu:=λρ Z=>.ok (.nx ρ) Z
def aM(f g:fu):fu:=λρ Z=>(f ρ Z).bind λa Z1=>match a with
 |.nx ρ1=>g ρ1 Z1
 |a=>.ok a Z1
def bS(f:dI):fu:=λρ Z=>(f ρ Z).bind λ_ Z1=>.ok (.nx ρ) Z1
def cA(f:dI)(g:Bg):fu:=λρ Z=>(f ρ Z).bind λx Z1=>(g x ρ Z1).bind λa X=>.ok (.nx a) X
def cT(c:vM)(f g:fu):fu:=λρ Z=>(c ρ Z).bind λb Z1=>if b=Um then f ρ Z1 else g ρ Z1
def gI(f:dI):fu:=λρ Z=>(f ρ Z).bind λx Z1=>.ok (.rt x) Z1
def wJ:fu:=λ_ Z=>.ok (.rt (.fz .none)) Z
theorem lO:pU K E Kg dH:=λB S H U Z ρ D s a w=>WS.now s w S a
theorem Kb:pU K E NY wJ:=λB S H U Z ρ D s a w=>WS.now s w .WA .WA
theorem aJ(m:pU K E t f)(l:pU K E u g):pU K E (MZ t u) (aM f g):=by
 intro B S H U Z ρ D s j w;refine m B S H U Z ρ {D with nx:=u D} s j (WS.imp (WS.bind w) λn T Z1 P o e b=>?_);cases n with
 |nx a=>exact λh i=>l B h P T Z1 a D e i b
 |rt x=>exact WS.now (E:=E) e b
 |bk a=>exact WS.now (E:=E) e b
 |ct a=>exact WS.now (E:=E) e b
theorem im(h:cW K E t f):pU K E (Dr t) (bS f):=by intro B S H U Z ρ D s a w;exact h B S H U Z ρ _ s a (WS.imp (WS.bind w) λx T Z1 P g e b v i=>WS.now e b S (a.WN g))
theorem cB(h:cW K E t f)(p:KB K E g fg):pU K E (Fv t g) (cA f fg):=by intro B S H U Z ρ D s e w;refine h B S H U Z ρ _ s e (WS.imp (WS.bind w) λx T Z1 P q n l v o=>?_);exact p B S P T Z1 ρ v x _ n (e.WN q) o (WS.imp (WS.bind l) λi Y X N r m j a b=>WS.now m j a b)
theorem uh(j:vT K E c fc)(m:pU K E t f)(l:pU K E u g):pU K E (OP c t u) (cT fc f g):=by
 intro B S H U Z ρ D s a w;refine j B S H U Z ρ _ s a (WS.imp (WS.bind w) λb T Z1 P i h e=>?_);cases b with
 |true=>exact m B S P T Z1 ρ D h (a.WN i) e
 |false=>exact l B S P T Z1 ρ D h (a.WN i) e
theorem fq(h:cW K E t f):pU K E (QZ t) (gI f):=by intro B S H U Z ρ D s b w;exact h B S H U Z ρ _ s b (WS.imp (WS.bind w) λx T Z1 P i e a v g=>WS.now e a v g)
def eS(f:Str)(x:SV):bb (Str×SV)->bb (Str×SV)
 |[]=>[(f,x)]
 |(g,y)::r=>if g=f then(g,x)::r else(g,y)::eS f x r
theorem Iy(h:Xu O K H U v x):∀{ws:bb (Str×V)} {fs:bb (Str×SV)},Paired (λ(p:Str×V) (q:Str×SV)=>p.1=q.1/\Xu O K H U p.2 q.2) ws fs->Paired (λ(p:Str×V) (q:Str×SV)=>p.1=q.1/\Xu O K H U p.2 q.2) (jQ f v ws) (eS f x fs)
 |_,_,.nil=>.cons ⟨rfl,h⟩ .nil
 |(g,u)::ws,(g',y)::fs,.cons ⟨e,k⟩ t=>by
  cases e;unfold jQ eS;by_cases z:g=f
  .rw[av z,av z];exact .cons ⟨rfl,h⟩ t
  .rw[ax z,ax z];exact .cons ⟨rfl,k⟩ (Iy h t)
def J6(Z:bh)(C:Str):SV->bg (Nat×bb (Str×SV))
 |.rf i=>match Z[i]? with
  |some (.obj D fs)=>if D=C then lD (i,fs)else Uh
  |_=>Uh
 |_=>Uh
theorem Sq(s:U8 B K H U Z)(b:Xu (ow B U Z) K H U v x)(h:J6 Z C x=lD (i,fs)):Z[i]?=lD (.obj C fs)/\∃a Ca dx ws,U[i]?=lD a/\v=.ref a/\UP K UK C=lD (lD (.ref Ca))/\H a=lD (.ins Ca dx ws)/\Paired (λ(p:Str×V) (q:Str×SV)=>p.1=q.1/\Xu (ow B U Z) K H U p.2 q.2) ws fs:=by
 cases x with
 |fz d=>cases h
 |tp l=>cases h
 |rf j=>
  obtain⟨a,ha,rfl⟩:=b;unfold J6 at h;dsimp only at h;cases q:Z[j]? with
  |none=>rw[q]at h;cases h
  |some c=>
   rw[q]at h;cases c with
   |obj D n=>
    dsimp only at h;by_cases z:D=C
    .subst z;rw[av rfl]at h;have e:=UH h;cases e;obtain⟨Ca,dx,ws,m,g,f⟩:=s.cel i a _ ha q;exact⟨q,a,Ca,dx,ws,ha,rfl,m,g,f⟩
    .rw[ax z]at h;cases h
   |_=>cases h
def eY(C f:Str)(fo fe:dI):fu:=λρ Z=>(fe ρ Z).bind λx Z1=>(fo ρ Z1).bind λo X=>(RS.Vm X (J6 X C o)).bind λp a=>if p.2.length<100 then .ok (.nx ρ) (a.set p.1 (.obj C (eS f x p.2)))else .bad
theorem iO(hc:gz K C L)(R:f∈L)(Q:cW K E to fo)(he:cW K E te fe):pU K E (Q1 K to te f) (eY C f fo fe):=by
 intro B S H U Z ρ D s g w;refine he B S H U Z ρ _ s g (WS.imp (WS.bind w) λx T Z1 P A G F v I=>?_);refine Q B S P T Z1 ρ _ G (g.WN A) (WS.imp (WS.bind F) λo Y X N y l b u J=>?_);obtain⟨⟨i,fs⟩,q,b⟩:=WS.Vm b;obtain⟨j,a,e,dx,ws,ha,rfl,n,h1,m⟩:=Sq l J q;obtain⟨Cb,p,g1,g2⟩:=hc;rw[n]at p;cases p;dsimp only at b;by_cases hn:fs.length<100
 .rw[av hn]at b;have ev:Ev (ow B Y X) N (ow B Y X) (bM N a (.ins e dx (jQ f v ws))):=qS ha j (by nofun);have t:Wh Y X N Y (X.set i (.obj C (eS f x fs))) (bM N a (.ins e dx (jQ f v ws))):=Wh.put ha j (by nofun) (by nofun);have hl:=Paired.length m;refine⟨a,e,dx,ws,rfl,h1,g1,g2 f R,by ext,?_⟩;refine b Y _ t (l.put ha j (by nofun) (by nofun) ⟨e,dx,_,n,aV,Iy ((I.WN y).ev ev λ_ _ h=>h) (Paired.Yv m λ_ _ r=>⟨r.1,r.2.ev ev λ_ _ h=>h⟩)⟩) S ((g.WN (A.trans y)).WN t)
 .rw[ax hn]at b;exact b.elim
abbrev Lq:=bz->bh->RS (bb D)
def Rb(K:Ld)(E:XK)(b:TI)(e:Lq):Prop:=
 ∀(B:cz) (S:L2.St) (H:Hp) (U:bb Uq) (Z:bh) (ρ:bz) (a:It->Hp->Prop),U8 B K H U Z->Xj (ow B U Z) K H U S ρ->WS K E B H U Z (λds M Z' H'=>∀J,CD K J (ow B M Z') H' ds->a J H') (e ρ Z)->b S H a
def eT(f:FI):Lq:=λρ Z=>match f (bT ρ)with
 |.ok (ds,_)=>.ok ds Z
 |.er x=>.er x Z
 |.bad=>.bad
theorem gG(h:IO K E wi f):Rb K E wi (eT f):=by
 intro B S H U Z ρ l s g w;refine h (ow B U Z) H (ow B U Z) S H (bT ρ) l (Iw s g) ?_;unfold eT at w;cases q:f (bT ρ)with
 |bad=>rw[q]at w;exact w.elim
 |er x=>rw[q]at w;exact λc dx H' e k=>w c dx U H' (Wh.same e) (s.grow e) k
 |ok r=>obtain⟨ds,a⟩:=r;rw[q]at w;exact λO' J H' e R i=>w U H' (Wh.same R.same) (s.grow R.same) J λm N j n=>i m N (λb o h z=>j b o h λy=>z (R.bo b y)) n
def fZ(fe:dI):Lq:=λρ Z=>(fe ρ Z).bind λx Z1=>(match frz 4 Z1 x with
 |some (d,X)=>RS.Vm X (fY d)
 |none=>.bad)
theorem mF(h:cW K E tl fe):Rb K E (Kq K tl) (fZ fe):=by
 intro B S H U Z ρ n s g w;refine h B S H U Z ρ _ s g (WS.imp (WS.bind w) λx T Z1 P m i a v j=>?_);cases q:frz 4 Z1 x with
 |none=>rw[q]at a;exact a.elim
 |some p=>
  obtain⟨d,X⟩:=p;rw[q]at a;obtain⟨e,f,l⟩:=xa 4 i j q;dsimp only at a;cases qs:fY d with
  |none=>rw[qs]at a;exact a.elim
  |some ds=>
   rw[qs]at a;cases l with
   |tup h b=>cases qs;exact⟨_,rfl,.inr ⟨⟨_,h.1⟩,a T P f e _ (JA h b)⟩⟩
   |lst h b=>cases qs;exact⟨_,rfl,.inl ⟨⟨_,h.1.sq⟩,a T P f e _ (Da h b)⟩⟩
   |_=>cases qs
def jV(gt:Bg)(b:fu):bb D->fu
 |[],ρ,Z=>.ok (.nx ρ) Z
 |d::r,ρ,Z=>(gt (.fz d) ρ Z).bind λa Z1=>(b a Z1).bind λe X=>match e with
  |.nx ρ2=>jV gt b r ρ2 X
  |.ct ρ2=>jV gt b r ρ2 X
  |.bk ρ2=>.ok (.nx ρ2) X
  |.rt x=>.ok (.rt x) X
def pW(a:Lq)(gt:Bg)(b:fu):fu:=λρ Z=>(a ρ Z).bind λds Z1=>jV gt b ds ρ Z1
theorem pG(hi:Rb K E wi fi)(hg:KB K E g gt)(hb:pU K E tb b):pU K E (PK wi g tb) (pW fi gt b):=by
 intro B S H U Z ρ D s L w;refine hi B S H U Z ρ _ s L (WS.imp (WS.bind w) λds T Z1 P e1 s1 w1 J it=>?_);refine⟨λi m a H'=>m=ds.length - i/\i<=ds.length/\∃Y X ρ2,Wh T Z1 P Y X H'/\U8 B K H' Y X/\Xj (ow B Y X) K H' Y a ρ2/\WS K E B H' Y X (zV B K D) (jV gt b (ds.drop i) ρ2 X),⟨_,rfl,Vl _,T,Z1,ρ,.refl,s1,L.WN e1,w1⟩,?_⟩;rintro i m j N ⟨rfl,hi,Y,X,ρ2,e2,s2,sl2,w2⟩;obtain⟨go,n⟩:=it (ow B Y X) N e2.ev s2.noO;by_cases t:i<ds.length
 .obtain⟨g1,g2⟩:=go i t
  refine .inr ⟨g1,λa H'=>i+1<=ds.length/\∃Y X ρ2,Wh T Z1 P Y X H'/\U8 B K H' Y X/\Xj (ow B Y X) K H' Y a ρ2/\WS K E B H' Y X (zV B K D) (jV gt b (ds.drop (i+1)) ρ2 X),λa H' ⟨h1,h2⟩=>⟨ds.length - (i+1),by ext,rfl,h1,h2⟩,λx I y=>?_⟩;obtain⟨Q,d,hd,dv⟩:=g2 x I y;have ed:ds.drop i=d::ds.drop (i+1):=by obtain⟨_,q⟩:=Uk.mp hd;rw[W8 t,q]
  rw[ed]at w2;have G:Wh Y X N Y X I:=Wh.same Q;refine hg B j I Y X ρ2 x (.fz d) _ (s2.grow Q) (sl2.WN G) dv (WS.imp (WS.bind (WS.from G w2)) λA C Z4 H4 e4 s4 w3 z F=>?_);refine hb B z H4 C Z4 A _ s4 F (WS.imp (WS.bind w3) λfl l R H5 e5 r p=>?_);have o:=e2.trans (G.trans (e4.trans e5));cases fl with
  |nx f=>exact λu h=>⟨t,l,R,f,o,r,h,p⟩
  |ct f=>exact λu h=>⟨t,l,R,f,o,r,h,p⟩
  |bk f=>exact WS.now (E:=E) r p
  |rt x=>exact WS.now (E:=E) r p
 .have e:i=ds.length:=by ext
  subst e;rw[Xw (Ux _)]at w2;exact .inl ⟨n,WS.now s2 w2 j sl2⟩
def vH(c:vM)(b:fu):Nat->fu
 |0,_,_=>.bad
 |n+1,ρ,Z=>(c ρ Z).bind λk Z1=>if k=Um then(b ρ Z1).bind λa X=>match a with
  |.nx ρ2=>vH c b n ρ2 X
  |.ct ρ2=>vH c b n ρ2 X
  |.bk ρ2=>.ok (.nx ρ2) X
  |.rt x=>.ok (.rt x) X else .ok (.nx ρ) Z1
def rd(c:vM)(b:fu):fu:=vH c b 1000000
theorem qK(G:vT K E c fc)(I:pU K E tb b):pU K E (He c tb) (rd fc b):=by
 intro B S H U Z ρ D s C w;refine⟨λm e H'=>∃Y X a,Wh U Z H Y X H'/\U8 B K H' Y X/\Xj (ow B Y X) K H' Y e a/\WS K E B H' Y X (zV B K D) (vH fc b m a X),⟨_,U,Z,ρ,.refl,s,C,w⟩,?_⟩;rintro m g N ⟨Y,X,a,Q,F,i,y⟩;cases m with
 |zero=>exact y.elim
 |succ m=>
  refine G B g N Y X a _ F i (WS.imp (WS.bind y) λk t R H3 u z o=>?_);cases k with
  |true=>
   rw[av rfl]at o⊢;refine⟨λe H'=>∃Y X a,Wh U Z H Y X H'/\U8 B K H' Y X/\Xj (ow B Y X) K H' Y e a/\WS K E B H' Y X (zV B K D) (vH fc b m a X),λe H' q=>⟨m,XW m,q⟩,?_⟩;refine I B g H3 t R a _ z (i.WN u) (WS.imp (WS.bind o) λJ j A H5 L p n=>?_);have l:=Q.trans (u.trans L);cases J with
   |nx f=>exact λr h=>⟨j,A,f,l,p,h,n⟩
   |ct f=>exact λr h=>⟨j,A,f,l,p,h,n⟩
   |bk f=>exact WS.now (E:=E) p n
   |rt x=>exact WS.now (E:=E) p n
  |false=>rw[ax UM]at o⊢;exact WS.now z o g (i.WN u)
end
section
variable{B O O':cz}{K:Ld}{E:XK}{H H' S L:Hp}{U R X Y:bb Uq}{Z Z' Z1 T:bh}{M:L2.St}{ρ:bz}{v:V}
def cx(gt:Bg)(ft:vM)(fe:dI):bb D->bz->bh->bb SV->RS (bb SV)
 |[],_,Z,acc=>.ok acc Z
 |d::r,ρ,Z,acc=>(gt (.fz d) ρ Z).bind λa Z1=>(ft a Z1).bind λb T=>if b=Um then(fe a T).bind λx e=>(if acc.length<1000000 then cx gt ft fe r a e (acc++[x])else .bad)else cx gt ft fe r a T acc
def fy(n:Nat)(fj:bb Nat)(ρ:bz):bz:=Uz n Uh++fj.map λj=>(ρ[j]?).join
def eZ(n:Nat)(fj:bb Nat)(a:Lq)(gt:Bg)(ft:vM)(fe:dI):dI:=λρ Z=>(a ρ Z).bind λds Z1=>(iE (cx gt ft fe ds (fy n fj ρ) Z1 [])).bind λxs T=>.ok (.rf T.length) (T++[.lst xs])
theorem M9{own:bb Str}{fv:bb (Str×Nat)}{n:Nat}{fj:bb Nat}(hn:own.length=n)(g:fv.map (·.2)=fj)(h:Xj O K H U M ρ):Xj O K H U (jR own fv M) (fy n fj ρ):=by
 unfold jR fy;rw[Ep hn];have i:fv.length=fj.length:=by rw[<-g,Ui]
 refine⟨by rw[Uo,Uo,U9,U9,Ui,Ui,i],λj x b=>?_⟩;by_cases f:j<n
 .rw[Uy (by rw[U9];exact f),WB,av f]at b;cases b
 .rw[U6 (by rw[U9];ext),U9,Uu]at b⊢
  subst g;rw[Uu]at b;cases q:fv[j - n]? with
  |none=>rw[q]at b;cases b
  |some p=>
   rw[q]at b;have a:(ρ[p.2]?).join=lD x:=UH b;have e:ρ[p.2]?=lD (lD x):=by
    cases qq:ρ[p.2]? with
    |none=>rw[qq]at a;cases a
    |some o=>rw[qq]at a;exact d3 lD a
   obtain⟨u,m,l⟩:=h.2 p.2 x e;exact⟨u,by show lD ((M[p.2]?).join)=_;rw[m];rfl,l⟩
theorem IW{p:Uq}{c:Cell}(a:U.length=Z.length)(e:c≠.dead):ow (dz B p) U Z=ow B (U++[p]) (Z++[c]):=by
 funext b;refine propext ⟨λz=>?_,λz=>?_⟩
 .rcases z with(z|z)|⟨i,d,h1,h2,h3⟩
  .exact .inl z
  .exact .inr ⟨U.length,c,by rw[z];exact aQ,by rw[a];exact aQ,e⟩
  .exact .inr ⟨i,d,jg h1,jg h2,h3⟩
 .rcases z with z|z
  .exact .inl (.inl z)
  .rcases xf a z with z|z
   .exact .inr z
   .exact .inl (.inr z)
theorem U8.adopt{p:Uq}{vs:bb V}{xs:bb SV}(s:U8 (dz B p) K H U Z)(l:H p=lD (.lst vs))(m:W3 (ow (dz B p) U Z) K H U vs xs)(n:¬B p):U8 B K H (U++[p]) (Z++[.lst xs]):=by
 have t:ow (dz B p) U Z=ow B (U++[p]) (Z++[.lst xs]):=IW s.len (by nofun);have b:∀(i:Nat) (a:Uq),U[i]?=lD a->(U++[p])[i]?=lD a:=λi a h=>jg h;have g:∀i:Nat,U[i]?≠lD p:=s.ba p (.inr rfl);refine⟨by rw[Uo,Uo,s.len];rfl,λi j a e f=>?_,λa h=>s.bn a (.inl h),λa h i q=>?_,λi a h=>?_,λi a d e f=>?_⟩
 .rcases cF e with g1|⟨e1,e2⟩<;>rcases cF f with g2|⟨e3,e4⟩
  .exact s.nd i j a g1 g2
  .rw[e4]at g1;exact a5 g1 (g i)
  .rw[e2]at g2;exact a5 g2 (g j)
  .omega
 .rcases cF q with q|⟨_,e2⟩
  .exact s.ba a (.inl h) i q
  .subst e2;exact n h
 .rcases cF h with h|⟨_,e2⟩
  .exact s.al i a h
  .rw[e2,l];simp
 .rw[<-t]
  rcases cF f with g2|⟨e1,e2⟩
  .rcases cF e with g1|⟨e1,_⟩
   .exact(s.cel i a d g1 g2).ev .refl b λo q=>q
   .have:=(Uk.mp g2).1;have:=s.len;ext
  .rcases cF e with g1|⟨_,e3⟩
   .have:=(Uk.mp g1).1;have:=s.len;ext
   .rw[e2,e3];exact⟨vs,l,Paired.Yv m λ_ _ r=>r.ev .refl b⟩
theorem U8.hide{p:Uq}{o:HO}(s:U8 B K H U Z)(j:H p=Uh):U8 (dz B p) K (bM H p o) U Z:=by have f:We H (bM H p o):=cD j o;have g:=s.grow f;have ev:Ev (ow B U Z) H (ow (dz B p) U Z) (bM H p o):=λb u h n=>⟨f b u h,λz=>z.elim (λz=>z.elim (λz=>n (.inl z)) λz=>by rw[z,j]at h;cases h) λz=>n (.inr z)⟩;refine⟨g.len,g.nd,λa h=>h.elim (g.bn a) λe=>by rw[e,aV];simp,λa h i q=>h.elim (λh=>g.ba a h i q) λe=>by rw[e]at q;exact s.al i p q j,g.al,λi a c m l=>?_⟩;exact(s.cel i a c m l).ev ev (λ_ _ h=>h) λo q=>f _ _ q
theorem U8.aj5{p:Uq}{o e:HO}(s:U8 (dz B p) K H U Z)(j:H p=lD o):U8 (dz B p) K (bM H p e) U Z:=by
 have ev:Ev (ow (dz B p) U Z) H (ow (dz B p) U Z) (bM H p e):=Ev.mut (.inl (.inr rfl)) e;have n:∀b,H b≠Uh->bM H p e b≠Uh:=λb h=>by
  by_cases z:b=p
  .subst z;rw[aV];simp
  .rw[aI z];exact h
 refine⟨s.len,s.nd,λa h=>n a (s.bn a h),s.ba,λi a h=>n a (s.al i a h),λi a c f g=>(s.cel i a c f g).ev ev (λ_ _ h=>h) λu q=>?_⟩;have:a≠p:=λz=>s.ba p (.inr rfl) i (by rw[<-z];exact f);rw[aI this];exact q
theorem Wh.dd{p:Uq}{o:HO}(e:Wh X Z1 S U Z H)(a:S p=Uh):Wh X Z1 S U Z (bM H p o):=⟨e.pre,λb u h n=>by rw[aI (b9 h a)];exact e.kp b u h n,e.lv⟩
theorem U8.afI{p:Uq}(s:U8 (dz B p) K H U Z):U8 B K H U Z:=
 ⟨s.len,s.nd,λa h=>s.bn a (.inl h),λa h=>s.ba a (.inl h),s.al,λi a c f e=>(s.cel i a c f e).ev (λb o h n=>⟨h,λy=>n (y.elim (λy=>.inl (.inl y)) .inr)⟩) (λ_ _ h=>h) λ_ h=>h⟩
theorem vh{own:bb Str}{fv:bb (Str×Nat)}{g:TG}{tc:TT}{te:TE}{gt:Bg}{ft:vM}{fe:dI}{n:Nat}{fj:bb Nat}{J:It}{Q:VK}{ds:bb D}(hn:own.length=n)(hf:fv.map (·.2)=fj)
  (hg:KB K E g gt) (ht:vT K E tc ft) (he:cW K E te fe) (s1:U8 B K S X Z1) (sl1:Xj (ow B X Z1) K S X M ρ) (it:CD K J (ow B X Z1) S ds) (w1:WS K E B S X Z1 (PQ B K Q) ((cx gt ft fe ds (fy n fj ρ) Z1 []).bind λxs T=>.ok (.rf T.length) (T++[.lst xs]))):
  ∀D,S D=Uh->G8 J D (jR own fv M) g tc te S λH'=>Q (.ref D) H':=by
 intro p P;have slc:Xj (ow B X Z1) K S X (jR own fv M) (fy n fj ρ):=M9 hn hf sl1;generalize qr:cx gt ft fe ds (fy n fj ρ) Z1 []=rr at w1;by_cases w:rr=.bad
 .subst w;exact w1.elim
 .
  have hB:¬B p:=λz=>s1.bn p z P;have evH:∀{Y:bb Uq} {T:bh} {H':Hp},Wh X Z1 S Y T H'->Ev (ow B X Z1) S (ow (dz B p) Y T) H':=λe b o h n=>⟨e.kp b o h λz=>n (.inr z),λz=>by
   rcases z with(z|z)|z
   .exact n (.inl z)
   .rw[z,P]at h;cases h
   .exact(e.lv b z).elim (λq=>n (.inr q)) λq=>by rw[h]at q;cases q⟩
  refine⟨λi m σ' H'=>m=ds.length - i/\i<=ds.length/\∃Y T ρc acc ys,Wh X Z1 S Y T H'/\U8 (dz B p) K H' Y T/\Xj (ow (dz B p) Y T) K H' Y σ' ρc/\H' p=lD (.lst ys)/\W3 (ow (dz B p) Y T) K H' Y ys acc/\cx gt ft fe (ds.drop i) ρc T acc=rr,
   ⟨_,rfl,Vl _,X,Z1,fy n fj ρ,[],[],Wh.same (cD P _),s1.hide P,?_,aV,.nil,qr⟩,?_⟩
  .exact⟨slc.1,λj x hx=>let⟨v,h1,h2⟩:=slc.2 j x hx;⟨v,h1,h2.ev (evH (Wh.same (cD P _))) λ_ _ h=>h⟩⟩
  .rintro i m σ2 L ⟨rfl,hi,Y,T,ρ2,acc,ys,e2,s2,sl2,hy,vy,f⟩
   obtain⟨go,stop⟩:=it (ow (dz B p) Y T) L (evH e2) s2.noO;by_cases Yp:i<ds.length
   .obtain⟨g1,g2⟩:=go i Yp
    refine .inr ⟨g1,λσ5 C=>i+1<=ds.length/\∃Y T ρc acc ys,Wh X Z1 S Y T C/\U8 (dz B p) K C Y T/\Xj (ow (dz B p) Y T) K C Y σ5 ρc/\C p=lD (.lst ys)/\W3 (ow (dz B p) Y T) K C Y ys acc/\cx gt ft fe (ds.drop (i+1)) ρc T acc=rr,
     λσ5 C ⟨h1,h2⟩=>⟨ds.length - (i+1),by ext,rfl,h1,h2⟩,λx H3 y=>?_⟩
    obtain⟨s3,d,hd,dv⟩:=g2 x H3 y;have ed:ds.drop i=d::ds.drop (i+1):=by obtain⟨_,q⟩:=Uk.mp hd;rw[W8 Yp,q]
    rw[ed]at f;unfold cx at f;have e3:Wh Y T L Y T H3:=Wh.same s3;have kD:∀{αx αy:bb Uq} {Zx Zy:bh} {Hx Hy:Hp} {o:HO},U8 (dz B p) K Hx αx Zx->Wh αx Zx Hx αy Zy Hy->Hx p=lD o->Hy p=lD o:=λsx ex h=>ex.kp _ _ h λ⟨i,c,q,_⟩=>sx.ba p (.inr rfl) i q;have t:∀{G:bb Uq} {Z3:bh} {H3:Hp} {z:Xc} {A:bh},Wh X Z1 S G Z3 H3->RS.er z A=rr->∀c dx R H',Wh G Z3 H3 R A H'->U8 (dz B p) K H' R A->XOk K (ow (dz B p) R A) H' c dx z->E c dx H':=λ{G Z3 H3 z A} e3 q c dx R H' e s' x'=>by subst q;exact w1 c dx R H' (e3.trans e) s'.afI (XOk.sub (λb y=>y.elim (λy=>.inl (.inl y)) .inr) x')
    refine hg (dz B p) σ2 H3 Y T ρ2 x (.fz d) _ (s2.grow s3) (sl2.WN e3) dv ?_;cases qg:gt (.fz d) ρ2 T with
    |er z A=>rw[qg]at f;exact t (e2.trans e3) f
    |bad=>rw[qg]at f;exact w f.symm
    |ok l Z4=>
     rw[qg]at f;intro α4 H4 e4 s4 σ4 sl4;refine ht (dz B p) σ4 H4 α4 Z4 l _ s4 sl4 ?_;have f:((ft l Z4).bind λb T=>if b=Um then(fe l T).bind λx Z3=>(if acc.length<1000000 then cx gt ft fe (ds.drop (i+1)) l Z3 (acc++[x])else .bad)else cx gt ft fe (ds.drop (i+1)) l T acc)=rr:=f;cases qt:ft l Z4 with
     |er z A=>rw[qt]at f;exact t (e2.trans (e3.trans e4)) f
     |bad=>rw[qt]at f;exact w f.symm
     |ok b Z5=>
      rw[qt]at f;intro α5 C e5 s5;have I:=sl4.WN e5;have u:=e3.trans (e4.trans e5);cases b with
      |false=>have f:cx gt ft fe (ds.drop (i+1)) l Z5 acc=rr:=f;exact⟨Yp,α5,Z5,l,acc,ys,e2.trans u,s5,I,kD s2 u hy,W3.WN u vy,f⟩
      |true=>
       have f:((fe l Z5).bind λx Z3=>(if acc.length<1000000 then cx gt ft fe (ds.drop (i+1)) l Z3 (acc++[x])else .bad))=rr:=f;rw[av rfl];refine he (dz B p) σ4 C α5 Z5 l _ s5 I ?_;cases qe:fe l Z5 with
       |er z A=>rw[qe]at f;exact t (e2.trans u) f
       |bad=>rw[qe]at f;exact w f.symm
       |ok x6 Z6=>
        rw[qe]at f;intro F H6 e6 s6 v6 hv6;have f:(if acc.length<1000000 then cx gt ft fe (ds.drop (i+1)) l Z6 (acc++[x6])else .bad)=rr:=f;by_cases N:acc.length<1000000
        .rw[av N]at f;have e36:=u.trans e6;have hy6:H6 p=lD (.lst ys):=kD s2 e36 hy;have vy6:=W3.WN e36 vy;have em:Ev (ow (dz B p) F Z6) H6 (ow (dz B p) F Z6) (bM H6 p (.lst (ys++[v6]))):=Ev.mut (.inl (.inr rfl)) _;have sl6:=I.WN e6;refine⟨ys,hy6,uU (by rw[vy6.length];exact N),Yp,F,Z6,l,acc++[x6],ys++[v6],(e2.trans e36).dd P,s6.aj5 hy6,⟨sl6.1,λj x hx=>let⟨v,h1,h2⟩:=sl6.2 j x hx;⟨v,h1,h2.ev em λ_ _ h=>h⟩⟩,aV,Dc (Paired.Yv vy6 λ_ _ r=>r.ev em λ_ _ h=>h) (hv6.ev em λ_ _ h=>h),f⟩
        .rw[ax N]at f;exact a5 f.symm w
   .have e:i=ds.length:=by ext
    subst e;rw[Xw (Ux _)]at f;have f:RS.ok acc T=rr:=f;subst f;refine .inl ⟨stop,?_⟩;refine w1 (Y++[p]) L ⟨λi a h=>jg (e2.pre i a h),e2.kp,λb z=>(xf s2.len z).elim (e2.lv b) λz=>.inr (by rw[z];exact P)⟩ (s2.adopt hy vy hB) (.ref p) ⟨p,by rw[<-s2.len];exact aQ,rfl⟩
theorem QC{A C:Type}{P:C->bb Uq->bh->Hp->Prop}{r:RS A}{k:A->bh->C}{m:A->bh->bh}(w:WS K E B H U Z P ((iE r).bind λa o=>.ok (k a o) (m a o))):WS K E0 B H U Z P (r.bind λa o=>.ok (k a o) (m a o)):=by
 cases r with
 |ok a o=>exact w
 |er x o=>exact w.elim
 |bad=>exact w
theorem gB{own:bb Str}{fv:bb (Str×Nat)}{a:TI}{g:TG}{e:TT}{b:TE}{h:Lq}{gt:Bg}{ft:vM}{fe:dI}{n:Nat}{fj:bb Nat}(hn:own.length=n)(p:fv.map (·.2)=fj)
  (hi:Rb K E a h) (o:KB K E0 g gt) (m:vT K E0 e ft) (q:cW K E0 b fe):cW K E (uW own fv a g e b) (eZ n fj h gt ft fe):=by
 intro B M H U Z ρ Q s f w;refine hi B M H U Z ρ _ s f (WS.imp (WS.bind w) λds X Z1 S r j i J l=>?_);exact vh hn p o m q j (f.WN r) l (QC i)
def c9(N:Nat)(g:fu):i8:=λxs Z=>(g (xs.map lD++Uz (N - xs.length) Uh) Z).bind λa Z1=>match a with
 |.rt x=>.ok x Z1
 |.nx _=>.ok (.fz .none) Z1
 |_=>.bad
theorem Jp{N:bb Str}{vs:bb V}{xs:bb SV}(h:W3 O K H U vs xs):Xj O K H U (L2.start N vs) (xs.map lD++Uz (N.length - xs.length) Uh):=by
 have b:vs.length=xs.length:=Paired.length h;unfold L2.start;refine⟨by rw[Uo,Uo,Ui,Ui,U9,U9,b],λi x a=>?_⟩;by_cases hi:i<xs.length
 .rw[Uy (by rw[Ui];exact hi),Uu]at a
  cases q:xs[i]? with
  |none=>rw[q]at a;cases a
  |some d=>rw[q]at a;cases a;obtain⟨v,e,f⟩:=B0 h q;refine⟨v,?_,f⟩;rw[Uy (by rw[Ui,b];exact hi),Uu,e];rfl
 .rw[U6 (by rw[Ui];ext),WB]at a;split at a<;>cases a
theorem Bi{N:bb Str}{vs:bb V}{xs:bb SV}{g:fu}{t:TS}{Q:VK}{n:Nat}(f:pU K E t g)(h:dg K n (c9 N.length g) vs H Q E):t {nx:=λ_ H'=>Q .WA H',rt:=Q} (L2.start N vs) H:=by
 obtain⟨l,B,U,Z,xs,s,e,w⟩:=h;refine f B _ H U Z _ _ s (Jp e) (WS.imp (WS.bind w) λi X Z1 S m b a=>?_);cases i with
 |rt x=>exact WS.now (E:=E) b a
 |nx ρ=>exact λM j=>WS.now (E:=E) b a .WA .WA
 |bk ρ=>exact a.elim
 |ct ρ=>exact a.elim
end
theorem T5{P:US}{w:Vb}{K:Ld}{mg:Str->bg Uj}{base:Heap}{x a:Str}{b:Ws}{f:Uq}{fd:Vz}{N ps:bb Str}{k n m:Nat}{g:fu}{i:i8}(F:Xn K x a b f fd)(S:WL N ps (aB b))(hn:ps.length=n)(hm:N.length=m)(p:i=c9 m g)
  (q:∀(e:Uj) (A:U4) (outer:bb Env) (s:Ur) (H:Hp) (E:XK),Wt k (A.deeper (U0 a (aB b) s.heap.objs.size f e))->
   ∃t,PSs (gb d4 P w K mg base N a (aB b) f e A outer s H E).nox (cC b) t/\pU K E t g):FnOk P w K mg base d4 (k+1) f fd ps (dg K n i):=by
 subst p hm;refine F.ok S (λvs H Q E h=>h.1.trans hn.symm) (λe A outer s H vs Q E o h=>?_);obtain⟨t,j,l⟩:=q e A outer s H E o;exact⟨t,j,Bi (xs:=[]) l h⟩
theorem S9{P:US}{w:Vb}{K:Ld}{mg:Str->bg Uj}{base:Heap}{x a:Str}{b:Ws}{f:Uq}{fd:Vz}{N ps:bb Str}{k n m:Nat}{g:fu}{l:i8}(F:Xn K x a b f fd)(S:WL N ps (aB b))(hn:ps.length=n)(hm:N.length=m)(v:l=c9 m g)
  (z:∀(e:Uj) (A:U4) (outer:bb Env) (s:Ur) (H:Hp) (E:XK),Wt k (A.deeper (U0 a (aB b) s.heap.objs.size f e))->
   ∃t,PSs (gb (L4.jb P w) P w K mg base N a (aB b) f e A outer s H E) (cC b) t/\pU K E t g):FnOk P w K mg base (L4.jb P w) (k+1) f fd ps (dg K n l):=by
 subst v hm;obtain⟨G,C,kV,y,B,I,e,ct,o,rfl,p,j⟩:=F.ex;refine Kc p j S (λvs H Q E h=>h.1.trans hn.symm) λA outer s H vs Q E u i=>?_;obtain⟨t,q,r⟩:=z e A outer s H E u;exact⟨t,q,Bi (xs:=[]) r i⟩
abbrev JE(P:US)(w:Vb)(K:Ld)(mg:Str->bg Uj)(base:Heap)(k:Nat)(x:Str)(ps:bb Str)(n:Nat)(F:i8):Prop:=z8 P w K mg base k x ps (dg K n F)
end L10
namespace PySem.W
open PySem PySem.Calls PyProof.Rows PyProof.V PySem.Spec
section
variable{prog:US}{w:Vb}{A:U4}{E:Uj->Ur->Prop}{s:Ur}{T:String}{r d:Uq}{n:Nat}{P:Nat->Uj->Prop}{OK:Heap->Prop}
theorem collect_kdl(K:KdlSrc prog w T r d n P OK)(m:A.handled=Uh)(VR:OK s.heap)(hn:n<=UB)
  (q:∀h' tk acc,(∀b o,s.heap.get? b=lD o->h'.get? b=lD o)->akL P acc n->Q acc.toList {s with heap:=h',toks:=tk}):wpAny (model prog w) A (collect (.ref r)) Q E s:=by
 have i:=K.there _ VR;unfold collect;refine Ug (wpAny_runValue (Xy F.entry_proto_collect ?_));rw[U4.under_plainId F.plain_proto_collect _];refine Ug (VF ?_);refine Ut ⟨Xv F.plain_list_iadd _,Xy F.entry_list_iadd ?_⟩;rw[U4.under_plainId F.plain_list_iadd _];have p:(s.heap.push {cls:=.type "list",data:=.seq ([]:bb Uj).toArray}).get? s.heap.objs.size=lD {cls:=.type "list",data:=.seq ([]:bb Uj).toArray}:=cj _ rfl;refine kdl_extend (R:=wants (λv j=>wpAny (model prog w) A (match v with|.ref a=>(load a>>=λo=>match o.data with|.seq xs _=>pure xs.toList|_=>unsupported "internal:collect")|_=>unsupported "internal:collect") Q E j) E) (s:={s with heap:=s.heap.push {cls:=.type "list",data:=.seq ([]:bb Uj).toArray}}) K m (K.keep _ _ VR λb _ o e=>br _ e) _ (VN i.1) (VN i.2) _ 0 p (λh' tk h t l f g=>?_) hn;refine Ug (ae9 f ?_);exact Ut (q h' tk h (λb o e=>l b o (UX (bP e)) (br _ e)) g)
end
end PySem.W
namespace PyProof.Rows
open PySem
section
variable{prog:US}{w:Vb}{A:U4}{E:Uj->Ur->Prop}{s:Ur}{T:String}{r d:Uq}{n:Nat}{P:Nat->Uj->Prop}{OK:Heap->Prop}
theorem BH(K:PySem.W.KdlSrc prog w T r d n P OK)(p:A.handled=Uh)(VR:OK s.heap)(l:n<64)(t:∀acc:Array Uj,akL P acc n->IntsAre acc.toList ns)
  (h:∀(a h':Heap) (g:Nat) (out:Array Uj) (e:Nat) (f:bb Int),(∀b o,s.heap.get? b=lD o->a.get? b=lD o)->h'.get? a.objs.size=lD (seqObj "list" out e)->(∀b o,a.get? b=lD o->h'.get? b=lD o)->IntsAre out.toList f->f.Perm ns->f.Pairwise (·<=·)->Q (.ref a.objs.size) {s with heap:=h',toks:=g}):
  wpAny (model prog w) A (call (.builtin "sorted") [.ref r]) Q E s:=by
 refine Calls.call_function_entry kind_sorted plain_sorted entry_sorted (args_sorted1 _) (Ug (Ut (Ug (PySem.W.collect_kdl K p VR (by rw[Wx];ext) (λa g acc m hi=>Ug (akK ?_ (hsz:=by rw[Vv,hi.1,Wx];ext)))))));have i:(a.push (seqObj "list" acc.toList.toArray 0)).get? a.objs.size=lD (seqObj "list" acc.toList.toArray 0):=cj _ rfl;have j:=t acc hi;refine Ug (V1 (WJ slot_list_sort ⟨_,i,rfl⟩ entry_list_sort (list_sort_tree i j (by rw[Vv,hi.1];exact l) λout f y v u=>⟨_,rfl,Ut ⟨_,rfl,?_⟩⟩) (args_list_sort _)));obtain⟨e,q⟩:=uV i;exact h a _ g out e f m q (λb B z=>rM (UX (bP z)) (br _ z)) y v u
end
end PyProof.Rows
namespace L10
open PySem PySem.Spec PyProof.Rows L2 L3
def S2(p d:Uq):HO:=.ext λh=>h.IsValuesView p d
theorem Sm(x:h.IsValuesView p d):ObjOk P w H h p (S2 p d):=⟨x,let⟨o,a,_⟩:=x;⟨o,a⟩,λf e ⟨o,a,b⟩ k=>⟨o,k o a,b⟩⟩
def Oo:V->bb V->Hp->VK->Prop:=λx vs H Q=>∃a UY,x=.ref a/\vs=[]/\H a=lD (.dK UY)/\∀p,H p=Uh->Q (.ref p) (bM H p (S2 p a))
theorem vV:SJ X "dict.values" Oo:=by intro g s m H x xs v n Q I i f h;obtain⟨a,UY,rfl,rfl,e,q⟩:=h;cases i;cases f;obtain⟨z,l,vs,j,dd⟩:=zg I.VR e;refine aaY Yj dd.typeIs PySem.F.entry_dict_values (PySem.F.args_dict_values_1 _) (meets_dict_values (dB X.prog X.w) a l) ⟨⟨vs,dd⟩,?_⟩;refine⟨.ref s.heap.objs.size,_,I.laid (λb o e=>br _ e) (Ux _) (Sm ⟨_,cj _ rfl,rfl,rfl⟩),rfl,q _ (I.VR.fresh (Ux _))⟩
def Ha:bb V->Hp->VK->Prop:=λxs H Q=>∃p a UY,xs=[.ref p]/\H p=lD (S2 p a)/\H a=lD (.dK UY)/\∀l,H l=Uh->Q (.ref l) (bM H l (.lst (UY.map (·.2))))
theorem Ek:∀{UY:bb (κ×V)} {vs:bb (κ×Uj)},KV UY vs->Vals (UY.map (·.2)) (vs.map (·.2))
 |_,_,.nil=>.nil
 |_,_,.cons h t=>.cons h.2 (Ek t)
theorem u6(n:X.calm=Um):Xd X (.type "list") Ha:=by intro g s C H xs E Q I r h;obtain⟨p,a,UY,rfl,w,e,q⟩:=h;obtain⟨u,rfl,l⟩:=k8 r;cases l;obtain⟨z,G,vs,b,dd⟩:=zg I.VR e;obtain⟨K,B⟩:=dd.dictAt;obtain⟨i,_,_⟩:=I.VR p _ w;refine PySem.W.kdl_call (PySem.W.kdl_values) (I.ok.hd n) ⟨i,B⟩ (by rw[<-b.length];exact z) λJ F f c m t hi=>?_;have A:=PySem.W.kdl_vals_eq f.toList (by rw[Vv];exact hi.1) λj v y=>hi.2 j v (by rw[<-ab6];exact y);refine⟨.ref s.heap.objs.size,_,I.laid (o:=.lst (UY.map (·.2))) m (Ux _) ⟨by rw[Ui];exact z,f.toList,c,by rw[A];exact Ek b,by rw[Array.toArray_toList];exact t⟩,rfl,q _ (I.VR.fresh (Ux _))⟩
def GF:bb V->Hp->VK->Prop:=λxs H Q=>∃(p:Uq) (UY:bb (c7×V)) (a:bb Int),xs=[.ref p]/\H p=lD (.dK UY)/\UY.map (·.1)=a.map Sum.inl/\a.length<64/\∀(l:Uq) (b:bb Int),H l=Uh->b.Perm a->b.Pairwise (·<=·)->Q (.ref l) (bM H l (.lst (b.map V.int)))
theorem uN:∀{vs:bb (c7×Uj)} {ns:bb Int} {us:bb Uj},vs.map (·.1)=ns.map Sum.inl->us.length=vs.length->(∀(j:Nat) (u:Uj),us[j]?=lD u->∃k x,vs[j]?=lD (k,x)/\(dB prog w).is k u=Um)->IntsAre us ns
 |[],[],[],_,_,_=>.nil
 |[],[],_::_,_,h,_=>by simp at h
 |[],_::_,_,h,_,_=>by simp at h
 |_::_,[],_,h,_,_=>by simp at h
 |_::_,_::_,[],_,h,_=>by simp at h
 |(k,y)::vs,n::ns,u::us,h1,h2,h3=>by rw[UJ,UJ,al6]at h1;obtain⟨g,x,e,b⟩:=h3 0 u rfl;cases e;have f:=h1.1;subst f;obtain⟨t,rfl⟩:=Uj.isInt_shape (show Uj.isInt n u=Um from b);exact .cons _ _ (uN h1.2 (by simpa using h2) λj a e=>h3 (j+1) a (by simpa using e))
theorem uE(E:X.calm=Um):Xd X (.builtin "sorted") GF:=by
 intro i s O H xs P Q I r h;obtain⟨p,UY,l,rfl,e,J,F,q⟩:=h;obtain⟨u,rfl,t⟩:=k8 r;cases t;obtain⟨z,C,vs,b,dd⟩:=zg I.VR e;obtain⟨U,M⟩:=dd.dictAt;have m:vs.map (·.1)=l.map Sum.inl:=by rw[<-b.keys];exact J
 have S:vs.length=l.length:=by have:=d3 Ze m;simpa using this
 refine BH (PySem.W.kdl_dict C) (I.ok.hd E) M (by ext) (λN hi=>uN m (by rw[Vv];exact hi.1) λj v K=>hi.2 j v (by rw[<-ab6];exact K)) λG T R f L w A B g hi n y=>?_;have a:=n.length_eq;have o:=I.kept (t':=s.toks) A;refine⟨.ref G.objs.size,_,o.laid g (Ux _) ?_,rfl,q _ w (o.VR.fresh (Ux _)) n y⟩;refine⟨?_,f.toList,L,jX hi,B⟩;rw[Ui,a];have:(64:Nat)<=UB:=by decide
 ext
end L10
namespace PySem
open Sem (wp)
namespace F
theorem lk_tuple_keys:typeLookup (.type "tuple") "keys"=pure Uh:=by rw[ahw,ad8];kernel_rfl
theorem lk_tuple_hook:typeLookup (.type "tuple") "__getattr__"=pure Uh:=by rw[ahw,ad8];kernel_rfl
theorem sub_ae:isSubtype (.type "AttributeError") (.type "AttributeError")=pure Um:=by rw[isSubtype_type];kernel_rfl
end F
section
variable{prog:US}{w:Vb}{A:U4}{E:Uj->Ur->Prop}{h:Heap}{g:Array Zc}{d:adf}{t:Nat}{os:ab4}{a:Uq}{o:Obj}
theorem Co{α:Type}{name f:Str}{Q:α->Ur->Prop}{E:Uj->Ur->Prop}(hm:f.length<=UB)(l:A.handled=Uh)(i:∀e h' t',(∀b o,h.get? b=lD o->h'.get? b=lD o)->(⟨h',g,d,t',os⟩:Ur).TypeIs e "AttributeError"->E e ⟨h',g,d,t',os⟩):
  wpAny (model prog w) A (raiseAttrError (.ref a) name f:Sem α) Q E ⟨h,g,d,t,os⟩:=by
 have j:¬f.length>UB:=Nat.not_lt.mpr hm;unfold raiseAttrError newExc newTuple
 repeat (any_goals (first|assumption|wp_step))
 refine abx (a:=Um) F.sub_ae ?_
 repeat (any_goals (first|assumption|wp_step))
 refine aeM l (i _ _ _ (λb o e=>?_) ?_)
 .exact(cn _ _ (dN (UX (bP (br _ e))))).trans (br _ (br _ e))
 .exact⟨_,cv _ (cj _ rfl) rfl,rfl⟩
theorem ri{f:Tok}{Q:Fin->Ur->Prop}{E:Uj->Ur->Prop}{p:Array Uj}{n:Nat}{i:Array (bg Uj)}(j:h.get? a=lD ⟨.type "tuple",Uh,.seq p n,i⟩)(m:A.handled=Uh)(l:∀e h' t',(∀b o,h.get? b=lD o->h'.get? b=lD o)->(⟨h',g,d,t',os⟩:Ur).TypeIs e "AttributeError"->E e ⟨h',g,d,t',os⟩):
  wpAny (model prog w) A (Vf.«object.__getattribute__» ⟨[.ref a,.str "keys" f],[]⟩) Q E ⟨h,g,d,t,os⟩:=by
 have q:(⟨h,g,d,t,os⟩:Ur).TypeIs (.ref a) "tuple":=⟨_,j,rfl⟩;have r:=F.lk_tuple_keys
 repeat (any_goals (first|assumption|wp_step))
 exact Co (by left) m l
theorem vP{f:Tok}{Q:Uj->Ur->Prop}{E:Uj->Ur->Prop}{u:Array Uj}{n:Nat}{l:Array (bg Uj)}(i:h.get? a=lD ⟨.type "tuple",Uh,.seq u n,l⟩)(q:A.handled=Uh)(m:∀e h' t',(∀b o,h.get? b=lD o->h'.get? b=lD o)->(⟨h',g,d,t',os⟩:Ur).TypeIs e "AttributeError"->E e ⟨h',g,d,t',os⟩):
  wpAny (model prog w) A (getAttrBy (.ref a) (.str "keys" f) Uw) Q E ⟨h,g,d,t,os⟩:=by
 have r:(⟨h,g,d,t,os⟩:Ur).TypeIs (.ref a) "tuple":=⟨_,i,rfl⟩;have z:=F.slot_tuple_getattribute.lookup;have y:=F.slot_tuple_getattribute.bind (.ref a);have v:=F.lk_tuple_hook
 repeat (any_goals (first|assumption|wp_step))
 refine Yd F.slot_tuple_getattribute.plain F.entry_tuple_ga (F.slot_tuple_getattribute.check _ _ _ _ _ _ _ _ r (F.args_tuple_getattribute_2 _ _) (ri i q λe h' t' p j=>?_));have fs:=F.sub_ae;show wpAny (model prog w) A (getattributeRaised (Uj.ref a) (Uj.str (Str.ofString "keys") f) (Uj.type "tuple") e Uh Uw Uw) Q E _;unfold getattributeRaised;refine Ug (abe j fs ?_)
 repeat (any_goals (first|assumption|wp_step))
 exact m e h' t' p j
theorem se(f:h.get? a=lD ⟨.type "tuple",Uh,.seq Vh n,sl⟩)(l:A.handled=Uh)(i:∀h' t',(∀b o,h.get? b=lD o->h'.get? b=lD o)->Q Uh ⟨h',g,d,t',os⟩):
  wpAny (model prog w) A (getAttr? (.ref a) "keys") Q E ⟨h,g,d,t,os⟩:=by
 unfold getAttr? getAttrBy?;have fs:=F.sub_ae;refine Ug ?_
 repeat (any_goals (first|assumption|(specialize vP f l λe h' t' j m=>?_)|wp_step))
 exact i h' t' j
namespace F
theorem entry_upd_loop:entryFor table "dict.update.loop"=lD Vf.«dict.update.loop»:=entryFor_of_tree (by kernel_rfl)
theorem plain_upd_loop:plainId "dict.update.loop"=Um:=by left
end F
end
section
variable{prog:US}{w:Vb}{A:U4}{E:Uj->Ur->Prop}{s:Ur}{K:Type}[DecidableEq K]{knd:KeyKind prog w K}{I dd Y:Uq}{Z:Array Uj}{ks:bb (K×Uj)}{R:abb->Ur->Prop}
theorem BC(UY:bb (K×Uj))(k:K)(v:Uj):(stored UY k v).length<=UY.length+1:=by
 unfold stored;split
 .rw[Ui];ext
 .rw[Uo];exact Ux _
theorem rF:∀(a UY:bb (K×Uj)),(merged UY a).length<=UY.length+a.length
 |[],UY=>Ux _
 |p::r,UY=>by have e:=rF r (stored UY p.1 p.2);have b:=BC UY p.1 p.2;show(merged (stored UY p.1 p.2) r).length<=_;rw[UD];ext
theorem Ci(a:bb (K×Uj)):(merged [] a).length<=a.length:=by have:=rF a [];simpa using this
theorem Jx{P:Heap}(hh:A.handled=Uh)(ZV:Y≠I)(O:I≠dd)(N:Y≠dd)(hp:∀(i:Nat) (v:Uj),Z[i]?=lD v->∃q key k x,v=.ref q/\q≠dd/\q≠I/\ks[i]?=lD (k,x)/\knd.is k key=Um/\P.IsTuple q #[key,x])(hs:ks.length=Z.size)(hz:Z.size<=UB)
  (hR:∀h' l,h'.DictOf knd dd (merged [] ks)->(∀b o,b≠dd->b≠I->P.get? b=lD o->h'.get? b=lD o)->R (.ok (.ret .none)) {s with heap:=h',toks:=l}):
  ∀(m i:Nat) (h:Heap) (l:Nat),Z.size - i=m->i<=Z.size->h.IsTupleIter I Y i->h.IsTuple Y Z->h.DictOf knd dd (merged [] (ks.take i))->(∀b o,b≠dd->b≠I->P.get? b=lD o->h.get? b=lD o)->
   codeAny (model prog w) A (.builtin "dict.update.loop" ⟨[.ref dd,.ref I,rawInt i,.none],[]⟩) R {s with heap:=h,toks:=l}:=by
 have W:=Walks.tuple (prog:=prog) (w:=w) (A:=A.in1) hh I Y ZV Z;intro m
 induction m with
 |zero=>
  intro i h l hm hi B u t r;have e:i=Z.size:=by ext
  subst e;refine Xy F.entry_upd_loop ?_;rw[U4.under_plainId F.plain_upd_loop _];refine Ug (W.done _ _ _ ⟨B,u⟩ λh' f g=>?_);rw[YR (by ext)]at t;refine Ug (Ut (Ut ?_));refine hR h' f (t.at λo e=>g dd o (by simp;exact λz=>O z.symm) e) λb o j a e=>g b o (by simp;exact a) (r b o j a e)
 |succ m ih=>
  intro i h l hm hi B u t r;have U:i<Z.size:=by ext
  refine Xy F.entry_upd_loop ?_;rw[U4.under_plainId F.plain_upd_loop _];refine Ug (W.item i _ _ _ U ⟨B,u⟩ λv h' f hv T g=>?_);obtain⟨q,key,k,x,rfl,G,n,J,H,ht⟩:=hp i v hv;have C:=ht.at λo e=>g q o (by simp;exact n) (r q o G n e);have S:=t.at λo e=>g dd o (by simp;exact λz=>O z.symm) e;have y:=λb o j a e=>g b o (by simp;exact a) (r b o j a e);obtain⟨oq,p,M,nq,L⟩:=C;obtain⟨cq,dq,dtq,X⟩:=oq;cases M;cases L;have hT:({s with heap:=h',toks:=f}:Ur).TypeIs (.ref q) "tuple":=⟨_,p,rfl⟩;refine Ug (V1 (Ug ?_));refine aad ?_;unfold Vf.Dict.pairItems;refine Ug (aaW hT ?_);rw[av (by decide)];refine Ug ?_;unfold seqItems?;refine Ug (ae9 p (Ut (Ut ?_)));refine V1 (wpAny_dictSet_pairs H S (λa d2 s2=>?_) ?_)
  .refine Ut ⟨Xv F.plain_upd_loop _,?_⟩;have Q:∀b o,b≠dd->h'.get? b=lD o->a.get? b=lD o:=λb o hb e=>(s2.2 b hb).trans e;refine ih (i+1) a (f+1) (by ext) U (T.1.at λo e=>Q I o O e) (T.2.at λo e=>Q Y o N e) ?_ λb o j a e=>Q b o j (y b o j a e);rw[merged_take_succ [] ks i (k,x) J];exact d2
  .have:(merged [] (ks.take i)).length<=(ks.take i).length:=Ci _;rw[Vs]at this;ext
end
end PySem
namespace PySem
open Sem (wp)
open PyProof.Rows
section
variable{prog:US}{w:Vb}{A:U4}{E:Uj->Ur->Prop}{s:Ur}{K:Type}[DecidableEq K]{knd:KeyKind prog w K}{Y:Uq}{Z:Array Uj}{ks:bb (K×Uj)}{R:abb->Ur->Prop}
theorem si(B:A.handled=Uh)(z:s.heap.get? Y=lD ⟨.type "tuple",Uh,.seq Z n,sl⟩)(H:ks.length=Z.size)(hz:Z.size<=UB)
  (I:∀(i:Nat) (v:Uj),Z[i]?=lD v->∃q key k x,v=.ref q/\ks[i]?=lD (k,x)/\knd.is k key=Um/\s.heap.IsTuple q #[key,x])
  (h:∀h' tk,h'.DictOf knd s.heap.objs.size (merged [] ks)->(∀b o,s.heap.get? b=lD o->h'.get? b=lD o)->Q (.ref s.heap.objs.size) {s with heap:=h',toks:=tk}):
  wpAny (model prog w) A (call (.type "dict") [.ref Y]) Q E s:=by
 refine callType_codes (Q₁:=λobj f=>obj=.ref s.heap.objs.size/\f={s with heap:=s.heap.push {cls:=.type "dict",data:=.dict #[]}}) F.kt_called_dict (F.kt_typeCall_dict_1 _) F.entry_dict_init (kt_code_dict_new _ ⟨rfl,rfl⟩) ?_;rintro obj f ⟨rfl,rfl⟩;have a:(s.heap.push {cls:=.type "dict",data:=.dict #[]}).DictOf knd s.heap.objs.size []:=Heap.DictOf.new s.heap;have g:(s.heap.push {cls:=.type "dict",data:=.dict #[]}).get? Y=lD ⟨.type "tuple",Uh,.seq Z n,sl⟩:=br _ z;have J:({s with heap:=s.heap.push {cls:=.type "dict",data:=.dict #[]}}:Ur).TypeIs (.ref Y) "tuple":=⟨_,g,rfl⟩;refine⟨a.typeIs,F.args_dict_init_2 _ _,?_⟩;unfold Vf.«dict.__init__»;refine Ug ?_;unfold Vf.Dict.selfAndRest;refine Ug (ad9 a.typeIs ?_);refine Ut ?_;show wpAny _ _ (Vf.Dict.updateFrom "dict.__init__" s.heap.objs.size (.ref Y) [] .none) _ _ _;unfold Vf.Dict.updateFrom;refine Ug (aaW J ?_);rw[av (by decide)];refine Ug (se g B λh' C m=>?_);rw[av (show(Uh:bg Uj).isNone=Um from rfl)];refine Ug (YB ?_);have l:=m _ _ g;have t:h'.IsTuple Y Z:=⟨_,l,rfl,n,rfl⟩;refine Ug (ZM t ?_);refine Ut ⟨Xv F.plain_upd_loop _,?_⟩;have Rc:s.heap.objs.size<h'.objs.size:=by obtain⟨o,_,_,p,_⟩:=a;exact bP (m _ _ p)
 have j:=bP z;refine Jx (A:=A.in1) (knd:=knd) B (UX (XD j Rc)) (VN Rc) (UX j) (λi v e=>?_) H hz (λu r N G=>?_) Z.size 0 _ C (by ext) (Vl _) ⟨_,cj _ rfl,rfl,rfl⟩ ⟨_,br _ l,rfl,n,rfl⟩ ?_ λb o _ _ e=>e
 .obtain⟨q,key,k,x,rfl,M,u,o,p,L⟩:=I i v e;have y:=bP p;exact⟨q,key,k,x,rfl,UX y,UX (XD y Rc),M,u,o,br _ (m _ _ (br _ p)),L⟩
 .refine⟨rfl,h u r N λb o e=>?_⟩;have lb:=bP e;exact G b o (UX lb) (UX (XD lb Rc)) (br _ (m _ _ (br _ e)))
 .have:=a.at (h':=h'.push {cls:=.type "tuple_iterator",data:=.fields #[.ref Y,.int 0 0]}) λo e=>br _ (m _ _ e);exact this
end
end PySem
namespace L10
open PySem PySem.Spec PyProof.Rows L2 L3
inductive aa9(K:Ld)(H:Hp):bb V->bb (c7×V)->Prop
 |nil:aa9 K H [] []
 |cons {q:Uq} {k:c7} {v:V} {vs:bb V} {UY:bb (c7×V)}:YA K H q [kV k,v]->aa9 K H vs UY->aa9 K H (.ref q::vs) ((k,v)::UY)
def G7(K:Ld):bb V->Hp->VK->Prop:=λxs H Q=>∃p ys UY,xs=[.ref p]/\YA K H p ys/\aa9 K H ys UY/\∀d,H d=Uh->Q (.ref d) (bM H d (.dK (qA [] UY)))
theorem Kw(I:Inv X pins σ H s):∀{j:bb V} {UY:bb (c7×V)} {us:bb Uj},aa9 X.K H j UY->Vals j us->∃ks:bb (c7×Uj),KV UY ks/\ks.length=us.length/\∀(i:Nat) (v:Uj),us[i]?=lD v->∃q key k x,v=.ref q/\ks[i]?=lD (k,x)/\(dB X.prog X.w).is k key=Um/\s.heap.IsTuple q #[key,x]
 |_,_,_,.nil,.nil=>⟨[],.nil,rfl,λi v e=>by simp at e⟩
 |_,_,_,.cons (q:=q) (k:=k) (v:=v) h t,.cons r rs=>by
  obtain⟨ks,p,o,n⟩:=Kw I t rs;obtain⟨y,rv,pl,_⟩:=I.tuple h;cases r;obtain⟨g,f,rfl,m,l⟩:∃g f,y=[g,f]/\RelV (kV k) g/\RelV v f:=by
   cases rv with
   |cons a b=>cases b with
    |cons b c=>cases c;exact⟨_,_,rfl,a,b⟩
  refine⟨(k,f)::ks,.cons ⟨rfl,l⟩ p,by rw[UD,UD,o],λi u e=>?_⟩;cases i with
  |zero=>cases e;exact⟨q,g,k,f,rfl,rfl,wQ m,pl⟩
  |succ i=>exact n i u (by simpa using e)
theorem BN(J:X.calm=Um):Xd X (.type "dict") (G7 X.K):=by
 intro f s L H xs N Q I r h;obtain⟨p,M,UY,rfl,z,A,q⟩:=h;obtain⟨u,rfl,j⟩:=k8 r;cases j;obtain⟨U,rv,⟨o,B,⟨b,n,G⟩,a⟩,y⟩:=I.afg z;obtain⟨S,g,w,t⟩:=Kw I A rv;obtain⟨R,P,m,l⟩:=o;cases b;cases G;cases a;have C:=rv.length;have E:=g.length;refine si (I.ok.hd J) B (by rw[UG];exact w) (by rw[UG,<-C];exact y) (λi v e=>t i v (by simpa using e)) λT O dd F=>?_;refine⟨.ref s.heap.objs.size,_,I.laid F (Ux _) ?_,rfl,q _ (I.VR.fresh (Ux _))⟩;refine BX ?_ ?_ (KV.merge g .nil) dd
 .have:=nI UY [];rw[Wn]at this;ext
 .exact beq_eq_false_iff_ne.mpr (VN I.big)
end L10
namespace L10
open PySem PyProof.Rows L2 L3
theorem Qw:VD "dict"=lD (.type "dict"):=by left
section
variable{B O O':cz}{K:Ld}{E:XK}{H H' R P:Hp}{Y α' U T:bb Uq}{Z Z' Z1 X:bh}{S:L2.St}{ρ:bz}{v:V}
def vC:SV->bg c7
 |.fz (.int i)=>lD (.inl i)
 |.fz (.str x)=>lD (.inr x)
 |_=>Uh
theorem sE(e:vC x=lD k)(h:Xu O K H Y v x):v=kV k:=by
 unfold vC at e;split at e
 .cases e;cases h;rfl
 .cases e;cases h;rfl
 .cases e
abbrev wW(O:cz)(K:Ld)(H:Hp)(Y:bb Uq):bb (c7×V)->bb (c7×SV)->Prop:=Paired (λ(p:c7×V) (q:c7×SV)=>p.1=q.1/\Xu O K H Y p.2 q.2)
def jn(Z:bh):SV->bg (Nat×bb (c7×SV))
 |.rf i=>match Z[i]? with
  |some (.ZX UY)=>lD (i,UY)
  |_=>Uh
 |_=>Uh
theorem ox(s:U8 B K H Y Z)(b:Xu (ow B Y Z) K H Y v x)(h:jn Z x=lD (i,UY)):Z[i]?=lD (.ZX UY)/\∃a ws,Y[i]?=lD a/\v=.ref a/\H a=lD (.dK ws)/\wW (ow B Y Z) K H Y ws UY:=by
 cases x with
 |fz d=>cases h
 |tp l=>cases h
 |rf j=>
  obtain⟨a,ha,rfl⟩:=b;unfold jn at h;dsimp only at h;cases q:Z[j]? with
  |none=>rw[q]at h;cases h
  |some c=>
   rw[q]at h;cases c with
   |ZX m=>have e:=UH h;cases e;obtain⟨ws,g,f⟩:=s.cel i a _ ha q;exact⟨q,a,ws,ha,rfl,g,f⟩
   |_=>cases h
def kN(UY:bb (c7×SV))(k:c7):bg SV:=(UY.find? λa=>decide (a.1=k)).map (·.2)
def lg(UY:bb (c7×SV))(k:c7)(x:SV):bb (c7×SV):=
 if(UY.any λa=>decide (a.1=k))=Um then UY.map (λa=>if a.1=k then(a.1,x)else a)else UY++[(k,x)]
def n6(UY:bb (c7×SV))(k:c7):bb (c7×SV):=UY.filter λa=>decide (a.1≠k)
theorem sR:∀{ws:bb (c7×V)} {UY:bb (c7×SV)},wW O K H Y ws UY->(∀x,kN UY k=lD x->∃v,lu ws k=lD v/\Xu O K H Y v x)/\(kN UY k=Uh->lu ws k=Uh)
 |_,_,.nil=>⟨λx e=>(by cases e),λ_=>rfl⟩
 |(a,u)::ws,(b,y)::UY,.cons ⟨h1,h2⟩ t=>by
  cases h1;unfold kN lu;rw[Ve,Ve];by_cases e:a=k
  .simp only[aE e];exact⟨λx h=>⟨u,rfl,by cases h;exact h2⟩,λh=>by cases h⟩
  .simp only[aP e];exact sR t
theorem Sc:∀{ws:bb (c7×V)} {UY:bb (c7×SV)},wW O K H Y ws UY->(ws.any λkv=>decide (kv.1=k))=UY.any λkv=>decide (kv.1=k)
 |_,_,.nil=>rfl
 |(a,u)::ws,(b,y)::UY,.cons ⟨h1,h2⟩ t=>by cases h1;rw[XX,XX,Sc t]
theorem Pe(f:Xu O K H Y v x):∀{ws:bb (c7×V)} {UY:bb (c7×SV)},wW O K H Y ws UY->wW O K H Y (ws.map (λkv=>if kv.1=k then(kv.1,v)else kv)) (UY.map (λkv=>if kv.1=k then(kv.1,x)else kv))
 |_,_,.nil=>.nil
 |(a,u)::ws,(b,y)::UY,.cons ⟨h1,h2⟩ t=>by
  cases h1;rw[UJ,UJ];by_cases e:a=k
  .rw[av e,av e];exact .cons ⟨rfl,f⟩ (Pe f t)
  .rw[ax e,ax e];exact .cons ⟨rfl,h2⟩ (Pe f t)
theorem JQ(h:wW O K H Y ws UY)(r:p.1=q.1/\Xu O K H Y p.2 q.2):wW O K H Y (ws++[p]) (UY++[q]):=by
 induction h with
 |nil=>exact .cons r .nil
 |cons a _ b=>exact .cons a b
theorem D6(a:Xu O K H Y v x)(h:wW O K H Y ws UY):wW O K H Y (jY ws k v) (lg UY k x):=by
 unfold jY lg;rw[Sc h];split
 .exact Pe a h
 .exact JQ h ⟨rfl,a⟩
theorem tI:∀{ws:bb (c7×V)} {UY:bb (c7×SV)},wW O K H Y ws UY->wW O K H Y (pR ws k) (n6 UY k)
 |_,_,.nil=>.nil
 |(a,u)::ws,(b,y)::UY,.cons ⟨h1,h2⟩ t=>by
  cases h1;unfold pR n6;rw[YI,YI];by_cases e:a=k
  .have z:decide (a≠k)=Uw:=aP λn=>n e;simp only[z];exact tI t
  .have z:=aE e;simp only[z];exact .cons ⟨rfl,h2⟩ (tI t)
def Al(neg:Bool)(fk fd:dI):dI:=λρ Z=>(fk ρ Z).bind λx Z1=>(fd ρ Z1).bind λo X=>(RS.Vm X (vC x)).bind λk X=>(RS.Vm X (jn X o)).bind λp X=>.ok (.fz (.bool ((kN p.2 k).isSome !=neg))) X
theorem HJ(h:wW O K H Y ws UY):(lu ws k).isSome=(kN UY k).isSome:=by
 obtain⟨b,a⟩:=sR h;cases q:kN UY k with
 |none=>rw[a q];rfl
 |some x=>obtain⟨u,e,_⟩:=b x q;rw[e];rfl
theorem Lz(p:cW K E tk fk)(hd:cW K E td fd):cW K E (Rt tk td) (Al Uw fk fd):=by intro B S H Y Z ρ Q s e w;refine p B S H Y Z ρ _ s e (w.bind.imp λx U Z1 R t h g v m=>?_);refine hd B S R U Z1 ρ _ h (e.WN t) (g.bind.imp λo T X P y f b u n=>?_);obtain⟨k,l,b⟩:=WS.Vm b;obtain⟨⟨i,UY⟩,j,b⟩:=WS.Vm b;obtain⟨_,a,ws,ha,rfl,r,q⟩:=ox f n j;refine⟨a,lu ws k,rfl,by rw[sE l m];exact abp.k r,?_⟩;rw[HJ q];refine WS.now f b _ ?_;rw[Bool.bne_false];exact .bl _
def wb(fd fk:dI):dI:=λρ Z=>(fd ρ Z).bind λo Z1=>(fk ρ Z1).bind λx X=>(RS.Vm X (vC x)).bind λk X=>(RS.Vm X (jn X o)).bind λp X=>RS.Vm X (kN p.2 k)
theorem zA(hd:cW K E td fd)(t:cW K E tk fk):cW K E (NQ td tk) (wb fd fk):=by
 intro B S H Y Z ρ Q s e w;refine hd B S H Y Z ρ _ s e (w.bind.imp λo U Z1 R G j g u r=>?_);refine t B S R U Z1 ρ _ j (e.WN G) (g.bind.imp λx T X P F f b v p=>?_);obtain⟨k,m,b⟩:=WS.Vm b;obtain⟨⟨i,UY⟩,l,b⟩:=WS.Vm b;obtain⟨_,a,ws,ha,rfl,C,A⟩:=ox f (r.WN F) l;dsimp only at b;cases q:kN UY k with
 |none=>rw[q]at b;exact b.elim
 |some y=>rw[q]at b;obtain⟨z,n,h⟩:=(sR A).1 y q;exact⟨a,z,rfl,by rw[sE m p,<-n];exact abp.k C,WS.now f b z h⟩
def yX(fd fk fv:dI):fu:=λρ Z=>(fv ρ Z).bind λy Z1=>(fd ρ Z1).bind λo X=>(fk ρ X).bind λx a=>(RS.Vm a (vC x)).bind λk a=>(RS.Vm a (jn a o)).bind λp a=>if p.2.length<1000000 then .ok (.nx ρ) (a.set p.1 (.ZX (lg p.2 k y)))else .bad
theorem GV(hd:cW K E td fd)(hk:cW K E tk fk)(hv:cW K E tv fv):pU K E (NW td tk tv) (yX fd fk fv):=by
 intro B S H Y Z ρ D s f w;refine hv B S H Y Z ρ _ s f (WS.imp (WS.bind w) λy U Z1 R q L I t m=>?_);refine hd B S R U Z1 ρ _ L (f.WN q) (WS.imp (WS.bind I) λo T X P p J G u hu=>?_);refine hk B S P T X ρ _ J (f.WN (q.trans p)) (WS.imp (WS.bind G) λx b g j n A e z Q=>?_);obtain⟨k,N,e⟩:=WS.Vm e;obtain⟨⟨i,UY⟩,M,e⟩:=WS.Vm e;obtain⟨l,a,ws,ha,rfl,g1,C⟩:=ox A (hu.WN n) M;dsimp only at e;by_cases hn:UY.length<1000000
 .rw[av hn]at e;have ev:Ev (ow B b g) j (ow B b g) (bM j a (.dK (jY ws k t))):=qS ha l (by nofun);have F:Wh b g j b (g.set i (.ZX (lg UY k y))) (bM j a (.dK (jY ws k t))):=Wh.put ha l (by nofun) (by nofun);have hl:=Paired.length C;refine⟨a,_,rfl,by rw[sE N Q];exact adP.k g1 (uU (by ext)),?_⟩;exact e b _ F (A.put ha l (by nofun) (by nofun) ⟨_,aV,D6 ((m.WN (p.trans n)).ev ev λ_ _ h=>h) (Paired.Yv C λ_ _ r=>⟨r.1,r.2.ev ev λ_ _ h=>h⟩)⟩) S ((f.WN (q.trans (p.trans n))).WN F)
 .rw[ax hn]at e;exact e.elim
def zQ(fd fk:dI):dI:=λρ Z=>(fd ρ Z).bind λo Z1=>(RS.Vm Z1 (jn Z1 o)).bind λ_ Z1=>(fk ρ Z1).bind λx X=>(RS.Vm X (vC x)).bind λk X=>(RS.Vm X (jn X o)).bind λp X=>(RS.Vm X (kN p.2 k)).bind λy X=>.ok y (X.set p.1 (.ZX (n6 p.2 k)))
theorem HQ(hd:cW K E td fd)(L:cW K E tk fk):cW K E (Kn td tk) (zQ fd fk):=by intro B S H Y Z ρ Q s j w;refine hd B S H Y Z ρ _ s j (w.bind.imp λo U Z1 R e1 m f u n=>?_);obtain⟨⟨i0,agW⟩,G,f⟩:=WS.Vm f;obtain⟨_,a,e,_,rfl,N,_⟩:=ox m n G;refine⟨a,rfl,.inl ⟨e,.inl N⟩,?_⟩;refine L B S R U Z1 ρ _ m (j.WN e1) (f.bind.imp λx T X P e2 l b v J=>?_);obtain⟨k,F,b⟩:=WS.Vm b;obtain⟨⟨i,UY⟩,C,b⟩:=WS.Vm b;obtain⟨g,a',ws,ha,ea,M,p⟩:=ox l (n.WN e2) C;cases ea;dsimp only at b;obtain⟨y,q,b⟩:=WS.Vm b;obtain⟨z,I,A⟩:=(sR p).1 y q;have ev:Ev (ow B T X) P (ow B T X) (bM P a (.dK (pR ws k))):=qS ha g (by nofun);have t:Wh T X P T (X.set i (.ZX (n6 UY k))) (bM P a (.dK (pR ws k))):=Wh.put ha g (by nofun) (by nofun);refine⟨ws,k,z,M,sE F J,I,?_⟩;exact b T _ t (l.put ha g (by nofun) (by nofun) ⟨_,aV,tI (Paired.Yv p λ_ _ r=>⟨r.1,r.2.ev ev λ_ _ h=>h⟩)⟩) z (A.WN t)
theorem pk(s:U8 B K H Y Z)(a:H p=Uh)(w:WS K E B H Y Z (PQ B K Q) (.ok (.rf Z.length) (Z++[c])))(f:∀e:Wh Y Z H (Y++[p]) (Z++[c]) (bM H p o),COk (ow B (Y++[p]) (Z++[c])) K (bM H p o) (Y++[p]) p c):Q (.ref p) (bM H p o):=by have b:We H (bM H p o):=cD a _;have e:Wh Y Z H (Y++[p]) (Z++[c]) (bM H p o):=Wh.abO s.len b a;exact w _ _ e (s.abO b a (by rw[aV];simp) (f e)) _ ⟨p,by rw[<-s.len];exact aQ,rfl⟩
def EC(fd:dI):dI:=λρ Z=>(fd ρ Z).bind λo Z1=>(RS.Vm Z1 (jn Z1 o)).bind λp Z1=>.ok (.rf Z1.length) (Z1++[.lst (p.2.map (·.2))])
theorem zc:∀{ws:bb (c7×V)} {UY:bb (c7×SV)},wW O K H Y ws UY->W3 O K H Y (ws.map (·.2)) (UY.map (·.2))
 |_,_,.nil=>.nil
 |_,_,.cons h t=>.cons h.2 (zc t)
theorem yZ(hd:cW K E td fd):cW K E (KF Ha (iH (QR K "dict" Oo td) ng)) (EC fd):=by intro B S H Y Z ρ Q s m w;refine hd B S H Y Z ρ _ s m (w.bind.imp λo U Z1 R F h f u t=>?_);obtain⟨⟨i,UY⟩,q,f⟩:=WS.Vm f;obtain⟨C,a,ws,ha,rfl,g,A⟩:=ox h t q;refine⟨.inr (.inr (.inl ⟨rfl,.inl ⟨ws,g⟩⟩)),a,ws,rfl,rfl,g,λp y=>?_⟩;have b:We R (bM R p (S2 p a)):=cD y _;have n:=h.grow b;have j:=WS.from (Wh.same b) f;refine⟨p,a,ws,rfl,aV,b _ _ g,λl z=>?_⟩;refine pk n z j λe=>⟨_,aV,zc (Paired.Yv A λ_ _ r=>⟨r.1,(r.2.WN (Wh.same b)).WN e⟩)⟩
def Bs:c7->bg Int
 |.inl i=>lD i
 |.inr _=>Uh
def wl(fd:dI):dI:=λρ Z=>(fd ρ Z).bind λo Z1=>(RS.Vm Z1 (jn Z1 o)).bind λp Z1=>(RS.Vm Z1 (aC Bs (p.2.map (·.1)))).bind λa Z1=>if a.length<64 then .ok (.rf Z1.length) (Z1++[.lst ((l8 a).map λi=>SV.fz (.int i))])else .bad
theorem tV:∀{ks:bb c7} {ns:bb Int},aC Bs ks=lD ns->ks=ns.map Sum.inl
 |[],_,e=>by cases e;rfl
 |k::r,ns,e=>by
  unfold aC at e;cases k with
  |inr x=>cases e
  |inl i=>
   dsimp only[Bs]at e;cases q:aC Bs r with
   |none=>rw[q]at e;cases e
   |some a=>rw[q]at e;cases e;rw[UJ,<-tV q]
theorem zy:∀{ws:bb (c7×V)} {UY:bb (c7×SV)},wW O K H Y ws UY->ws.map (·.1)=UY.map (·.1)
 |_,_,.nil=>rfl
 |_,_,.cons h t=>by rw[UJ,UJ,h.1,zy t]
theorem EH(O:cz)(K:Ld)(H:Hp)(Y:bb Uq):∀ns:bb Int,W3 O K H Y (ns.map V.int) (ns.map λi=>SV.fz (.int i))
 |[]=>.nil
 |n::r=>.cons (.int n) (EH O K H Y r)
theorem yU(hd:cW K E td fd):cW K E (KF GF (iH td ng)) (wl fd):=by
 intro B S H Y Z ρ Q s h w;refine hd B S H Y Z ρ _ s h (w.bind.imp λo U Z1 R F g b u n=>?_);obtain⟨⟨i,UY⟩,m,b⟩:=WS.Vm b;obtain⟨A,a,ws,ha,rfl,y,t⟩:=ox g n m;obtain⟨f,j,b⟩:=WS.Vm b;by_cases hn:f.length<64
 .rw[av hn]at b;refine⟨a,ws,f,rfl,y,by rw[zy t];exact tV j,hn,λl C r q p=>?_⟩;have z:=mB (q.trans (fQ f).symm) p (e9 f);subst z;exact pk g r b λe=>⟨_,aV,EH _ _ _ _ _⟩
 .rw[ax hn]at b;exact b.elim
def tM:D->bg (c7×SV)
 |.tuple [.int i,d]=>lD (.inl i,.fz d)
 |.tuple [.str x,d]=>lD (.inr x,.fz d)
 |_=>Uh
def x4:SV->bg (bb (c7×SV))
 |.fz (.tuple ds)=>aC tM ds
 |_=>Uh
theorem F8(e:x4 x=lD ps):∃ds,x=.fz (.tuple ds)/\aC tM ds=lD ps:=by
 unfold x4 at e;split at e
 .exact⟨_,rfl,e⟩
 .cases e
def oj(UY a:bb (c7×SV)):bb (c7×SV):=a.foldl (λb e=>lg b e.1 e.2) UY
def za(fe:dI):dI:=λρ Z=>(fe ρ Z).bind λx Z1=>(RS.Vm Z1 (x4 x)).bind λps Z1=>.ok (.rf Z1.length) (Z1++[.ZX (oj [] ps)])
theorem Av:∀{vs:bb V} {ds:bb D} {ps:bb (c7×SV)},L3.V9 O K H vs ds->aC tM ds=lD ps->∃UY,aa9 K H vs UY/\wW O K H Y UY ps
 |_,_,_,.nil,e=>by cases e;exact⟨[],.nil,.nil⟩
 |_,_,_,.cons (d:=d) (ds:=ds) h t,e=>by
  unfold aC at e;cases q:tM d with
  |none=>rw[q]at e;cases e
  |some p=>
   rw[q]at e;dsimp only at e;cases q2:aC tM ds with
   |none=>rw[q2]at e;cases e
   |some ps=>
    rw[q2]at e;cases e;obtain⟨UY,i,g⟩:=Av t q2;unfold tM at q;split at q
    .cases q
     cases h with
     |tup h f=>cases f with
      |cons a b=>cases b with
       |cons b c=>cases c;cases a;exact⟨(.inl _,_)::UY,.cons h.1 i,.cons ⟨rfl,b⟩ g⟩
    .cases q
     cases h with
     |tup h f=>cases f with
      |cons a b=>cases b with
       |cons b c=>cases c;cases a;exact⟨(.inr _,_)::UY,.cons h.1 i,.cons ⟨rfl,b⟩ g⟩
    .cases q
theorem DS:∀{e:bb (c7×V)} {f:bb (c7×SV)} {ws:bb (c7×V)} {UY:bb (c7×SV)},wW O K H Y e f->wW O K H Y ws UY->wW O K H Y (qA ws e) (oj UY f)
 |_,_,_,_,.nil,h=>h
 |(a,u)::e,(b,y)::f,_,_,.cons r t,h=>by obtain⟨i,g⟩:=r;cases i;show wW O K H Y (qA (jY _ a u) e) (oj (lg _ a y) f);exact DS t (D6 g h)
theorem G2(n:cW K E te fe):cW K E (KF (G7 K) (iH te ng)) (za fe):=by
 intro B S H Y Z ρ Q s f w;refine n B S H Y Z ρ _ s f (w.bind.imp λx U Z1 R p g b u l=>?_);obtain⟨ps,q,a⟩:=WS.Vm b;obtain⟨ds,rfl,q⟩:=F8 q;have a:=a;cases l with
 |tup h m=>obtain⟨UY,j,i⟩:=Av m q;exact⟨_,_,UY,rfl,h.1,j,λd o=>pk g o a λe=>⟨_,aV,DS (Paired.Yv i λ_ _ r=>⟨r.1,r.2.WN e⟩) .nil⟩⟩
end
end L10
namespace PySem
open PyProof.Rows
def nr:bg Int->Int->bg Int
 |none,x=>lD x
 |some m,x=>lD (if x>m then x else m)
def Sf:bg (Int×Tok)->Array Uj
 |none=> #[]
 |some (m,t)=> #[.int m t,.int m t]
def NK(d:Uj):bg (Int×Tok)->Uj
 |none=>d
 |some (m,t)=>.int m t
namespace F
theorem args_maxd(a b:Uj):checkBuiltinCall "max" ⟨[a],[("default",b)]⟩=pure ():=by kernel_rfl
end F
section
variable{prog:US}{w:Vb}{A:U4}{E:Uj->Ur->Prop}{R:abb->Ur->Prop}{I l S:Uq}{vs:bb Uj}{d:Uj}
theorem KJ(hh:A.handled=Uh)(ZV:l≠I)(r:S≠I)(Q:S≠l){s:Ur}:
  ∀{B:bb Uj} {ns:bb Int},IntsAre B ns->∀(i:Nat) (h:Heap) (M:Nat) (b:bg (Int×Tok)) (c:Nat),vs=vs.take i++B->i<=vs.length->h.IsListIter I l i->h.IsList l vs.toArray->h.get? S=lD {cls:=.type "list",dict:=Uh,data:=.seq (Sf b) c,slots:= #[]}->
  (∀h' M b',b'.map (·.1)=ns.foldl nr (b.map (·.1))->(∀a o,a≠I->a≠S->h.get? a=lD o->h'.get? a=lD o)->R (.ok (.ret (NK d b'))) {s with heap:=h',toks:=M})->
  codeAny (model prog w) A (.builtin "max.loop" ⟨[.ref I,.none,.ref S],[("default",d)]⟩) R {s with heap:=h,toks:=M}:=by
 have W:=Walks.list (prog:=prog) (w:=w) (A:=A.in1) hh I l ZV vs.toArray;intro B ns hi
 induction hi with
 |nil=>
  intro i h M b c u hi it li T L;have e:i=vs.toArray.size:=by rw[UT]at u;have:=d3 Ze u;rw[Vs]at this;rw[UG];ext
  refine Xy F.entry_max_loop ?_;rw[U4.under_plainId F.plain_max_loop _];refine Ug (V2 T rfl ?_);refine Ug (aad (W.done _ _ _ (e▸⟨it,li⟩) λh' g y=>?_));have f:=y S _ (by simpa using r) T;cases b with
  |none=>refine Ug (YB (Ut ?_));exact L h' g Uh rfl λa o j z e=>y a o (by simpa using j) e
  |some p=>obtain⟨m,t⟩:=p;refine Ug (abL f rfl (Ug (Xh (Ut ?_))) (hz:=by show 2<=UB;decide));exact L _ g (lD (m,t)) rfl λa o j z e=>(cn _ _ (dN z)).trans (y a o (by simpa using j) e)
 | @cons n t ai4 ag7 hr ih=>
  intro i h M b c u hi it li T L;have Yp:i<vs.toArray.size:=by have:=d3 Ze u;rw[Uo,Vs,UD]at this;rw[UG];ext
  have O:vs[i]?=lD (.int n t):=by rw[u,U6 (by rw[Vs];ext),Vs,Nat.min_eq_left hi,ach];rfl
  have C:vs=vs.take (i+1)++ai4:=by rw[V0,O];rw[UQ];exact u
  have G:i+1<=vs.length:=by rw[UG]at Yp;exact Yp
  refine Xy F.entry_max_loop ?_;rw[U4.under_plainId F.plain_max_loop _];refine Ug (V2 T rfl ?_);refine Ug (aad (W.item i _ _ _ Yp ⟨it,li⟩ λv h' g hP K y=>?_));have ev:v=.int n t:=by have U:=hP;rw[List.getElem?_toArray,O]at U;exact(UH U).symm
  subst ev;have f:=y S _ (by simpa using r) T;have J:(toString "max"++toString ".loop":String)= "max.loop":=by decide
  cases b with
  |none=>
   show wpAny _ A.in1 (updateSeq S (λ_=> #[Uj.int n t,Uj.int n t])>>=_) _ _ _;refine Ug (abL f rfl ?_);rw[J];refine Ut ⟨Xv F.plain_max_loop _,ih (i+1) _ g (lD (n,t)) _ C G (K.1.at λo e=>?_) (K.2.at λo e=>?_) (cv _ f rfl) λz q Y X N=>L z q Y X λa o j H e=>N a o j H ((cn _ _ (dN H)).trans (y a o (by simpa using j) e))⟩
   .exact(cn _ _ r).trans e
   .exact(cn _ _ Q).trans e
  |some p=>
   obtain⟨m,Z⟩:=p;show wpAny _ A.in1 (tryCatch (holding [Uj.int n t,Uj.int n t] (richCompare .Gt (Uj.int n t) (Uj.int m Z)>>=_)) _>>=_) _ _ _;have ajP:=CmpOf.ints_gt (prog:=prog) (w:=w) (A:=A.in1) (P:=λ(k:Nat) v=>(k=0/\v=Uj.int n t)\/(k=1/\v=Uj.int m Z)) (λk=>if k=0 then n else m) λk v u=>by
    rcases u with⟨rfl,rfl⟩|⟨rfl,rfl⟩
    .exact⟨t,rfl⟩
    .exact⟨Z,rfl⟩
   refine Ug (aad (V1 (Ug (ajP 0 1 _ _ _ _ _ (.inl ⟨rfl,rfl⟩) (.inr ⟨rfl,rfl⟩) ?_))));refine Ug (V1 (Ww ?_));refine Ug (Xh (Ut ?_));show wpAny _ A.in1 (if decide (n>m)=Um then _ else _) _ _ _;by_cases hb:n>m
   .rw[av (aE hb)]
    refine Ug (abL f rfl (Ug (Xh ?_)) (hz:=by show 2<=UB;decide));rw[J];refine Ut ⟨Xv F.plain_max_loop _,ih (i+1) _ g (lD (n,t)) _ C G (K.1.at λo e=>?_) (K.2.at λo e=>?_) (cv _ f rfl) λz q Y X N=>L z q Y ?_ λa o j H e=>N a o j H ((cn _ _ (dN H)).trans (y a o (by simpa using j) e))⟩
    .exact(cn _ _ r).trans e
    .exact(cn _ _ Q).trans e
    .rw[X];show _=ag7.foldl nr (lD (if n>m then n else m));rw[av hb];rfl
   .rw[ax (by rw[aP hb];exact UM)];refine Ug (Xh ?_);rw[J];refine Ut ⟨Xv F.plain_max_loop _,ih (i+1) _ g (lD (m,Z)) c C G K.1 K.2 f λz q Y X N=>L z q Y ?_ λa o j H e=>N a o j H (y a o (by simpa using j) e)⟩;rw[X];show _=ag7.foldl nr (lD (if n>m then n else m));rw[ax hb];rfl
theorem Fa(n:A.handled=Uh)(g:s.heap.IsList l vs.toArray)(hi:IntsAre vs ns)
  (q:∀h' tk b,b.map (·.1)=ns.foldl nr Uh->(∀a o,s.heap.get? a=lD o->h'.get? a=lD o)->Q (NK d b) {s with heap:=h',toks:=tk}):
  wpAny (model prog w) A (call (.builtin "max") [.ref l] [("default",d)]) Q E s:=by
 have j:l<s.heap.objs.size:=by obtain⟨_,e,_⟩:=g;exact bP e
 have h:(toString "max"++toString ".loop":String)= "max.loop":=by decide
 refine Zo (Yd F.plain_max F.entry_max (abx (F.args_maxd _ _) ?_));refine Ug (abx (show Vf.Builtins.bindParams "max" ["key","default"] 0 ⟨[],[("default",d)]⟩=pure [Uh,lD d]from rfl) ?_);refine Ug (Ut ?_);refine Ug (Ym g ?_);refine Ug (VF ?_);rw[h];have f:(s.heap.push {cls:=.type "list_iterator",data:=.fields #[.ref l,.int 0 0]}).objs.size=s.heap.objs.size+1:=cN _ _;refine Ut ⟨Xv F.plain_max_loop _,KJ n (UX j) (by rw[f];exact Nat.succ_ne_self _) (by rw[f];exact VN (Yx j)) hi 0 _ s.toks Uh 0 rfl (Vl _) ⟨_,br _ (cj _ rfl),rfl,rfl⟩ ((g.push _).push _) (cj _ rfl) λh' tk b p m=>?_⟩;refine q h' tk b p λa o e=>?_;have i:=bP e;exact m a o (UX i) (by rw[f];exact UX (Yx i)) (br _ (br _ e))
end
end PySem
namespace L10
open PySem PySem.Spec PyProof.Rows L2 L3
def Ou(K:Ld)(i:Int):bb V->Hp->VK->Prop:=λxs H Q=>∃(p:Uq) (a:bb Int),xs=[.ref p]/\YL K H p (a.map V.int)/\Q (.int ((a.foldl nr Uh).getD i)) H
theorem Dl(C:X.calm=Um)(B:Gl X "max")(hm:X.mg "max"=Uh)(ha:PA X [l] ta)(g:RE l=Uw:=by rfl):
  PE X (.Call (.Name "max" p) [l] [⟨lD "default",.Constant (.int i) j p1,p2⟩] pos) (KF (Ou X.K i) ta):=by
 intro e s n H Q I h;refine XB (pY I B hm Aw (callWith_kw (cQ (ha pos e s n H _ I h) λG o ⟨vs,F,f,v,w⟩=>?_) (by rw[wy _ _ _ g];rfl) (by rw[wy _ _ _ g];rfl) rfl rfl));obtain⟨a,y,rfl,z,q⟩:=w;obtain⟨u,rfl,r⟩:=k8 v;cases r;obtain⟨N,rv,pl,L⟩:=f.list z;refine ahx (ae7 (ahy ?_));have O:=f.tok (o.toks+1);refine Fa (f.ok.hd C) pl.isList (ku rv) λM J b E A=>?_;refine⟨.int ((y.foldl nr Uh).getD i),F,f.kept A,?_,q⟩;rw[<-E];cases b with
 |none=>exact⟨_,rfl⟩
 |some p=>obtain⟨m,t⟩:=p;exact⟨t,rfl⟩
def Jw(i:Int):bb D->bg RV
 |[.list ds]=>(lz ds).map λa=>.fz (.int ((a.foldl nr Uh).getD i))
 |_=>Uh
theorem Dw{K:Ld}:Ks K (Ou K i) (Jw i):=by
 intro O H xs ds rv Q n f e q;unfold Jw at e;split at e
 .rename_i m
  cases f with
  |cons l j=>
   cases j;cases qa:lz m with
   |none=>rw[qa]at e;cases e
   |some b=>rw[qa]at e;cases e;obtain⟨a,vs,rfl,h,g⟩:=EF l;obtain rfl:=mr g qa;exact⟨a,b,rfl,h.sq,q.at (.int _)⟩
 .cases e
end L10
namespace L10
open PySem L2 L3
section
variable{B O O':cz}{K:Ld}{E:XK}{H H' H1 H2:Hp}{X Y T α2:bb Uq}{Z U Z1 Z2:bh}{σ:L2.St}{ρ:bz}{v:V}
theorem iU{l r:bb A}(h:(l++r)[i]?=lD y):l[i]?=lD y\/∃j,i=l.length+j/\r[j]?=lD y:=by
 by_cases hi:i<l.length
 .rw[Uy hi]at h;exact .inl h
 .rw[U6 (by ext)]at h;exact .inr ⟨i - l.length,by ext,h⟩
theorem Nc{l r:bb A}{i:Nat}(h:l[i]?=lD y):(l++r)[i]?=lD y:=by rw[Uy (Uk.mp h).1];exact h
theorem HH{l r:bb A}(h:r[i]?=lD y):(l++r)[l.length+i]?=lD y:=by rw[U6 (by ext),YO];exact h
theorem IT(g:X.length=Z.length)(h:Lv (X++ps) (Z++cs) b):Lv X Z b\/b∈ps:=by
 obtain⟨i,d,f,e,a⟩:=h;rcases iU f with g1|⟨j,e1,g1⟩
 .rcases iU e with g2|⟨k,e2,g2⟩
  .exact .inl ⟨i,d,g1,g2,a⟩
  .have:=(Uk.mp g1).1;ext
 .exact .inr (UL g1)
theorem Wh.abq(s:U8 B K H X Z)(e:We H H')(f:∀p∈ps,H p=Uh):Wh X Z H (X++ps) (Z++cs) H':=
 ⟨λi a h=>Nc h,λb u q _=>e b u q,λb z=>(IT s.len z).imp id λz=>f b z⟩
theorem U8.abq(s:U8 B K H X Z)(e:We H H')(f:∀p∈ps,H p=Uh)(m:∀p∈ps,H' p≠Uh)(nd:∀(i j:Nat) (a:Uq),ps[i]?=lD a->ps[j]?=lD a->i=j)(t:ps.length=cs.length)
  (new:∀(i:Nat) (a:Uq) (c:Cell),ps[i]?=lD a->cs[i]?=lD c->COk (ow B (X++ps) (Z++cs)) K H' (X++ps) a c):U8 B K H' (X++ps) (Z++cs):=by
 have ev:Wh X Z H (X++ps) (Z++cs) H':=Wh.abq s e f;have n:∀b,H b≠Uh->H' b≠Uh:=λb h z=>h (e.free z);refine⟨by rw[Uo,Uo,s.len,t],λi j a g l=>?_,λa h=>n a (s.bn a h),λa h i q=>?_,λi a h=>?_,λi a d g l=>?_⟩
 .rcases iU g with g1|⟨i',e1,g1⟩<;>rcases iU l with g2|⟨j',e2,g2⟩
  .exact s.nd i j a g1 g2
  .exact a5 (f a (UL g2)) (s.al i a g1)
  .exact a5 (f a (UL g1)) (s.al j a g2)
  .have:=nd i' j' a g1 g2;ext
 .rcases iU q with q|⟨j,_,q⟩
  .exact s.ba a h i q
  .exact s.bn a h (f a (UL q))
 .rcases iU h with h|⟨j,_,h⟩
  .exact n a (s.al i a h)
  .exact m a (UL h)
 .have r:=s.len
  rcases iU l with g2|⟨j,e2,g2⟩
  .rcases iU g with g1|⟨k,e1,g1⟩
   .exact(s.cel i a d g1 g2).ev ev.ev ev.pre λo q=>e _ _ q
   .have:=(Uk.mp g2).1;ext
  .rcases iU g with g1|⟨k,e1,g1⟩
   .have:=(Uk.mp g1).1;ext
   .have:k=j:=by ext
    subst this;exact new k a d g1 g2
def Gi(U:bh):Nat->bb AV->bg (bb AV×bb (bb D)×bb Nat)
 |_,[]=>lD ([],[],[])
 |n,.fz d::r=>match Gi U n r with
  |some (l,cs,js)=>lD (.fz d::l,cs,js)
  |none=>Uh
 |n,.rf i::r=>match sh U (.rf i)with
  |some (.list ds)=>(match Gi U (n+1) r with
   |some (l,cs,js)=>lD (.rf n::l,ds::cs,i::js)
   |none=>Uh)
  |_=>Uh
def S6(ds:bb D):Cell:=.lst (ds.map .fz)
def sQ(x:SV)(U Z:bh):RS SV:=match x with
 |.fz d=>.ok (.fz d) Z
 |.rf i=>(match sh U (.rf i)with
  |some (.list ds)=>nF Z (.ow ds)
  |_=>.bad)
 |.tp l=>(match Gi U Z.length l with
  |some (l',cs,js)=>if js.Nodup then .ok (.tp l') (Z++cs.map S6)else .bad
  |none=>.bad)
theorem sN(h:sh Z (.rf i)=lD (.list ds)):∃xs,Z[i]?=lD (.lst xs)/\aC yQ xs=lD ds:=by
 unfold sh at h;dsimp only at h;cases q:Z[i]? with
 |none=>rw[q]at h;cases h
 |some c=>
  rw[q]at h;cases c with
  |lst xs=>
   dsimp only at h;cases q2:aC yQ xs with
   |none=>rw[q2]at h;cases h
   |some a=>rw[q2]at h;cases h;exact⟨xs,rfl,q2⟩
  |_=>cases h
theorem jq(s:U8 B K H X Z)(h:sh Z (.rf i)=lD (.list ds)):∃a vs,X[i]?=lD a/\H a=lD (.lst vs)/\L3.V9 (ow B X Z) K H vs ds/\ow B X Z a:=by obtain⟨xs,b,f⟩:=sN h;obtain⟨a,ha⟩:=s.at b;obtain⟨vs,j,g⟩:=s.cel i a _ ha b;exact⟨a,vs,ha,j,jS (cS (R:=Xu (ow B X Z) K H X) (λv x y r e=>Cd r e) g f),.inr ⟨i,_,ha,b,by intro z;cases z⟩⟩
theorem GK{o:cz}(s:U8 o K H' Y U):∀{n:Nat} {l u:bb AV} {cs:bb (bb D)} {g:bb Nat} {xs:bb V},Gi U n l=lD (u,cs,g)->Paired (AOk (ow o Y U) K H' Y) xs l->
  ∃ps:bb Uq,ps.length=g.length/\cs.length=g.length/\(∀(k j:Nat),g[k]?=lD j->∃a ds vs,ps[k]?=lD a/\cs[k]?=lD ds/\Y[j]?=lD a/\H' a=lD (.lst vs)/\L3.V9 (ow o Y U) K H' vs ds/\ow o Y U a)/\
   ∀(b:bb Uq),b.length=n->Paired (AOk (ow o Y U) K H' (b++ps)) xs u
 |_,[],_,_,_,_,e,.nil=>by cases e;exact⟨[],rfl,rfl,λk j h=>by simp at h,λb _=>.nil⟩
 |n,.fz d::r,u,cs,g,_,e,.cons h t=>by
  unfold Gi at e;cases q:Gi U n r with
  |none=>rw[q]at e;cases e
  |some p=>obtain⟨I,F,w⟩:=p;rw[q]at e;cases e;obtain⟨ps,C,A,z,y⟩:=GK s q t;exact⟨ps,C,A,z,λb f=>.cons h (y b f)⟩
 |n,.rf i::r,u,cs,g,_,e,.cons h t=>by
  unfold Gi at e;cases qs:sh U (.rf i)with
  |none=>rw[qs]at e;cases e
  |some d=>
   rw[qs]at e;cases d with
   |list ds=>
    dsimp only at e;cases q:Gi U (n+1) r with
    |none=>rw[q]at e;cases e
    |some p=>
     obtain⟨I,F,w⟩:=p;rw[q]at e;cases e;obtain⟨ps,C,A,z,y⟩:=GK s q t;obtain⟨a,vs,ha,J,M,L⟩:=jq s qs;refine⟨a::ps,by rw[UD,UD,C],by rw[UD,UD,A],λk j G=>?_,λb f=>?_⟩
     .cases k with
      |zero=>cases G;exact⟨a,ds,vs,rfl,rfl,ha,J,M,L⟩
      |succ k=>exact z k j (by simpa using G)
     .have N:b++a::ps=(b++[a])++ps:=by simp
      obtain⟨P,m,rfl⟩:=h;rw[ha]at m;cases m;refine .cons ⟨a,by rw[<-f];exact HH (l:=b) (r:=a::ps) (i:=0) rfl,rfl⟩ ?_;rw[N];exact y (b++[a]) (by rw[Uo,f];rfl)
   |_=>cases e
theorem FJ(s:U8 B K H X Z)(w:WS K E B H X Z (PQ B K Q) (sQ x U Z))(e':Wh [] [] H Y U H')(G:U8 (ow B X Z) K H' Y U)(J:Xu (ow (ow B X Z) Y U) K H' Y v x):Q v H':=by
 have C:=λb o h=>e'.kp b o h λ⟨i,c,q,_⟩=>by simp at q
 have sub:∀b,ow B X Z b->ow (ow B X Z) Y U b:=λb z=>.inl z;have fr:=λi a c R h2 h3=>(e'.lv a ⟨i,c,R,h2,h3⟩).elim (λ⟨i,c,q,_⟩=>by simp at q) id;cases x with
 |fz d=>exact w X H' (Wh.same C) (s.grow C) v (DV.ev (Ev.sub sub) J)
 |rf i=>
  unfold sQ at w;dsimp only at w;cases qs:sh U (.rf i)with
  |none=>rw[qs]at w;exact w.elim
  |some d=>
   rw[qs]at w;cases d with
   |list ds=>obtain⟨a,vs,ha,R,hd,M⟩:=jq G qs;obtain⟨xs,e,_⟩:=sN qs;obtain⟨a',F,rfl⟩:=J;rw[ha]at F;cases F;exact uB s w C (fr i a _ ha e (by nofun)) R hd sub M
   |_=>exact w.elim
 |tp l=>
  unfold sQ at w;dsimp only at w;cases qg:Gi U Z.length l with
  |none=>rw[qg]at w;exact w.elim
  |some p=>
   obtain⟨l',cs,I⟩:=p;rw[qg]at w;dsimp only at w;by_cases hn:I.Nodup
   .rw[av hn]at w
    obtain⟨a,xs,rfl,ht,hl⟩:=J;obtain⟨ps,g1,g2,g3,g4⟩:=GK G qg hl;have A:∀(k:Nat) (b:Uq),ps[k]?=lD b->∃j ds vs,I[k]?=lD j/\cs[k]?=lD ds/\Y[j]?=lD b/\H' b=lD (.lst vs)/\L3.V9 (ow (ow B X Z) Y U) K H' vs ds/\ow (ow B X Z) Y U b:=λk b hb=>by
     have f:k<I.length:=by rw[<-g1];exact(Uk.mp hb).1
     obtain⟨b',ds,vs,e,y,u,m,t,g⟩:=g3 k _ (Us f);rw[hb]at e;cases e;exact⟨_,ds,vs,Us f,y,u,m,t,g⟩
    have nB:∀(j:Nat) (b:Uq),Y[j]?=lD b->ow (ow B X Z) Y U b->H b=Uh:=λj b N M=>by
     rcases M with z|⟨i,c,z1,z2,z3⟩
     .exact a5 N (G.ba b z j)
     .exact fr i b c z1 z2 z3
    have fp:∀p∈ps,H p=Uh:=λp L=>by obtain⟨k,f⟩:=WO.mp L;obtain⟨j,ds,vs,e,y,u,m,t,g⟩:=A k p f;exact nB j p u g
    have n:∀b,ow B (X++ps) (Z++cs.map S6) b->ow (ow B X Z) Y U b:=λb z=>by
     rcases z with z|z
     .exact .inl (.inl z)
     .rcases IT s.len z with z|z
      .exact .inl (.inr z)
      .obtain⟨k,f⟩:=WO.mp z;obtain⟨j,ds,vs,e,y,u,m,t,g⟩:=A k b f;exact g
    have ev:=Wh.abq (cs:=cs.map S6) s C fp;refine w (X++ps) H' ev (s.abq C fp (λp L=>?_) (λi j b hi N=>?_) (by rw[Ui,g1,g2]) λi b c hi hc=>?_) (.ref a) ⟨a,xs,rfl,ht.ev (Ev.sub n),Paired.Yv (g4 X s.len) λ_ _ r=>r.ev (Ev.sub n) λ_ _ h=>h⟩
    .obtain⟨k,f⟩:=WO.mp L;obtain⟨j,ds,vs,e,y,u,m,t,g⟩:=A k p f;rw[m];simp
    .obtain⟨j1,_,_,S,_,p3,_⟩:=A i b hi;obtain⟨j2,_,_,r1,_,r3,_⟩:=A j b N;have:=G.nd j1 j2 b p3 r3;subst this;have P:=(Uk.mp S).1;exact(List.getElem?_inj P hn).mp (S.trans r1.symm)
    .obtain⟨j,ds,vs,e,y,u,m,t,g⟩:=A i b hi;rw[Uu,y]at hc;cases hc;exact⟨vs,m,kI _ _ (t.ev (Ev.sub n))⟩
   .rw[ax hn]at w;exact w.elim
def vi(F:i8)(n:Nat)(xs:bb SV)(Z:bh):RS SV:=if xs.length=n then(match aC yQ xs with
 |some ds=>(match F (ds.map .fz) []with
  |.ok x U=>sQ x U Z
  |.er x _=>.er x Z
  |.bad=>.bad)
 |none=>.bad)else .bad
def nA(F:i8)(n:Nat)(fa:wD):dI:=λρ Z=>(fa ρ Z).bind λxs Z1=>iE (vi F n xs Z1)
theorem CB(h:∀a,B a->H a≠Uh):U8 B K H [] []:=⟨rfl,λi j a h=>by simp at h,h,λa h i=>by simp,λi a h=>by simp at h,λi a c h=>by simp at h⟩
theorem CL:∀{xs:bb SV} {ds:bb D},aC yQ xs=lD ds->xs=ds.map .fz
 |[],_,e=>by cases e;rfl
 |x::r,ds,e=>by
  unfold aC at e;cases x with
  |fz d=>
   dsimp only[yQ]at e;cases q:aC yQ r with
   |none=>rw[q]at e;cases e
   |some a=>rw[q]at e;cases e;rw[UJ,<-CL q]
  |rf i=>cases e
  |tp l=>cases e
theorem GG(s:U8 B K H X Z)(e:W3 (ow B X Z) K H X vs xs)(w:WS K E B H X Z (PQ B K Q) (vi F n xs Z)):dg K n F vs H Q E:=by
 unfold vi at w;by_cases hn:xs.length=n
 .rw[av hn]at w
  refine⟨e.length.trans hn,?_⟩;cases q:aC yQ xs with
  |none=>rw[q]at w;exact w.elim
  |some ds=>
   rw[q]at w;dsimp only at w;have l:=CL q;refine⟨ow B X Z,[],[],ds.map .fz,CB s.owd,?_,?_⟩
   .rw[l]at e;exact kI _ _ ((JP e).ev (Ev.sub λb z=>z.elim id λ⟨i,c,q,_⟩=>by simp at q))
   .cases qF:F (ds.map .fz) []with
    |bad=>rw[qF]at w;exact w.elim
    |ok x U=>rw[qF]at w;exact λY H' f j v a=>FJ s w f j a
    |er x U=>
     rw[qF]at w;intro c dx Y H' f j k;have g:=λb o h=>f.kp b o h λ⟨i,c,q,_⟩=>by simp at q
     exact w c dx X H' (Wh.same g) (s.grow g) (XOk.sub (λb z=>.inl z) k)
 .rw[ax hn]at w;exact w.elim
theorem wf(ha:v3 K E ta fa):cW K E (lj (dg K n F) [] E0 ta) (nA F n fa):=by intro B σ H X Z ρ Q s b w;refine ha B σ H X Z ρ _ s b (w.bind.imp λxs T Z1 H1 g e a vs f=>?_);rw[UT];exact GG e f (WS.e0 a)
def RA(F:i8):FN:=λds=>match F (ds.map .fz) []with
 |.ok (.fz d) _=>.ok (.fz d)
 |.ok (.rf i) Z=>(match sh Z (.rf i)with
  |some (.list ds)=>.ok (.ow ds)
  |_=>.bad)
 |.ok (.tp _) _=>.bad
 |.er x _=>.er x
 |.bad=>.bad
theorem Qr(h:pT K n (RA F) vs H Q E):dg K n F vs H Q E:=by
 obtain⟨u,B,ds,A,G,w⟩:=h;refine⟨u,B,[],[],ds.map .fz,CB A,kI _ _ (G.ev (Ev.sub λb z=>z.elim id λ⟨i,c,q,_⟩=>by simp at q)),?_⟩;unfold RA at w;cases qF:F (ds.map .fz) []with
 |bad=>rw[qF]at w;exact w.elim
 |er x U=>rw[qF]at w;intro c dx Y H' f j k;exact w c dx H' (λb o h=>f.kp b o h λ⟨i,c,q,_⟩=>by simp at q) (XOk.sub (λb z=>.inl z) k)
 |ok x U=>
  rw[qF]at w;intro Y H' f j v m;have g:=λb o h=>f.kp b o h λ⟨i,c,q,_⟩=>by simp at q
  cases x with
  |fz d=>exact w v H' g (DV.ev (Ev.sub λb z=>.inl z) m)
  |tp l=>exact w.elim
  |rf i=>
   dsimp only at w;cases qs:sh U (.rf i)with
   |none=>rw[qs]at w;exact w.elim
   |some d=>
    rw[qs]at w;cases d with
    |list I=>obtain⟨a,p,ha,C,y,t⟩:=jq j qs;obtain⟨xs,r,_⟩:=sN qs;obtain⟨J,e,rfl⟩:=m;rw[ha]at e;cases e;refine w a p H' g ((f.lv a ⟨i,_,ha,r,by intro z;cases z⟩).elim (λ⟨i,c,q,_⟩=>by simp at q) id) C (y.ev (Ev.sub λb z=>z.elim (λz=>.inl z) λz=>by rw[z];exact t))
    |_=>exact w.elim
end
def b7(P:US)(w:Vb)(K:Ld)(mg:Str->bg Uj)(base:Heap)(a:xT)(k:Nat)(C m:Str)(ps:bb Str)(sp:Sp):Prop:=
 ∃Ca f fd,UP K UK C=lD (lD (.ref Ca))/\Cls K Ca/\Meth K Ca m f/\FnOk P w K mg base a k f fd ps sp/\Binds K fd ps []
def ub(P:US)(w:Vb)(K:Ld)(mg:Str->bg Uj)(base:Heap)(a:xT)(k:Nat)(C:Str)(ps:bb Str)(sp:Sp):Prop:=
 ∃Ca f fd,UP K UK C=lD (lD (.ref Ca))/\mg C=lD (.ref Ca)/\Mk K Ca f/\FnOk P w K mg base a k f fd ps sp/\Binds K fd ps []
def wT(K:Ld)(C m:Str)(sp:Sp)(E:XK)(b:TE)(t:TA):TE:=λa H Q=>∃Ca,UP K UK C=lD (lD (.ref Ca))/\wR Ca m sp [] E b t a H Q
def BR(K:Ld)(C:Str)(sp:Sp)(E:XK)(t:TA):TE:=λa H Q=>∃Ca,UP K UK C=lD (lD (.ref Ca))/\Aj Ca sp [] E t a H Q
section
variable{X:Cx}{Y:xT}{E:XK}{k j:Nat}{C m:Str}{ps:bb Str}{sp:Sp}{o e:Vq}{es:bb Vq}{U:TE}{t:TA}{Z pos p:Pos}
theorem Db(M:b7 X.prog X.w X.K X.mg X.base Y k C m ps sp)(n:fW Y X E)(r:Wt j X.A)(u:PE X o U)(ha:PA X (e::es) t)(g:k<=j:=by decide)
  (d5:U1 (e::es) X.env=(Uw,eval e X.env)::U1 es X.env:=by rfl) (b:(backTo pos (U1 es X.env)).any (·.1)=Uw:=by rfl)
  (q:eval (.Call (.Attribute o m Z) (e::es) [] pos) X.env=(do
   let ov<-eval o X.env
   standAt Z.atName
   let(f,first)<-holding [ov] (getMethod ov m pl)
   callWith pos f first (backTo pos (U1 (e::es) X.env)) (backToKw pos (keywordEach [] X.env))):=by rfl):PE X (.Call (.Attribute o m Z) (e::es) [] pos) (wT X.K C m sp E U t):=by
 obtain⟨L,f,G,F,B,z,y,v⟩:=M;intro a s l H Q I ⟨J,i,h⟩;rw[F]at i;cases i;exact Lf u B z y (r.mono g) v .nil n ha d5 b q a s l H Q I h
theorem Kl(M:b7 X.prog X.w X.K X.mg X.base Y k C m ps sp)(l:fW Y X E)(q:Wt j X.A)(r:PE X o U)(b:k<=j:=by decide)
  (n:eval (.Call (.Attribute o m Z) [] [] pos) X.env=(do
   let ov<-eval o X.env
   standAt Z.atName
   let(f,first)<-holding [ov] (getMethod ov m pl)
   callWith pos f first (backTo pos (U1 [] X.env)) (backToKw pos (keywordEach [] X.env))):=by rfl):PE X (.Call (.Attribute o m Z) [] [] pos) (wT X.K C m sp E U ng):=by
 obtain⟨J,f,F,B,z,y,v,u⟩:=M;intro a s i H Q I ⟨G,g,h⟩;rw[B]at g;cases g;exact JN r z y v (q.mono b) u .nil l n a s i H Q I h
theorem Eg(M:ub X.prog X.w X.K X.mg X.base Y k C ps sp)(q:fW Y X E)(r:Wt j X.A)(ha:PA X (e::es) t)(g:k+1<=j:=by decide)(u:Gl X C:=by rfl)
  (i:(C==("__debug__":Str))=Uw:=by decide) (v:U1 (e::es) X.env=(Uw,eval e X.env)::U1 es X.env:=by rfl) (b:(backTo pos (U1 es X.env)).any (·.1)=Uw:=by rfl):
  PE X (.Call (.Name C p) (e::es) [] pos) (BR X.K C sp E t):=by
 obtain⟨N,f,J,G,F,B,z,y⟩:=M;intro a s n H Q I ⟨L,l,h⟩;rw[G]at l;cases l;exact NC B z (r.mono g) u F y .nil q ha i v b a s n H Q I h
end
section
variable{K:Ld}{E:XK}{C m:Str}{F:i8}{n:Nat}{to:TE}{Y:TA}{fo:dI}{fa:wD}{L:bb Str}
theorem HZ(a:gz K C L)(f:cW K E to fo)(ha:v3 K E Y fa):cW K E (wT K C m (dg K n F) E to Y) (rE C m F n fo fa):=by obtain⟨g,a,_⟩:=a;exact λB b H α Z ρ Q s e w=>⟨g,a,G6 a f ha B b H α Z ρ Q s e w⟩
theorem yC(a:gz K C L)(f:cW K E to fo)(ha:v3 K E Y fa):cW K E (wT K C m (dg K n F) E0 to Y) (a9 C m F n fo fa):=by obtain⟨g,a,_⟩:=a;exact λB b H α Z ρ Q s e w=>⟨g,a,Fs a f ha B b H α Z ρ Q s e w⟩
theorem BB(a:gz K C L)(ha:v3 K E Y fa):cW K E (BR K C (dg K n F) E Y) (vv C F n fa):=by obtain⟨f,a,_⟩:=a;exact λB b H α Z ρ Q s e w=>⟨f,a,K4 a ha B b H α Z ρ Q s e w⟩
theorem KM(a:gz K C L)(ha:v3 K E Y fa):cW K E (BR K C (dg K n F) E0 Y) (vZ C F n fa):=by obtain⟨f,a,_⟩:=a;exact λB b H α Z ρ Q s e w=>⟨f,a,Ip a ha B b H α Z ρ Q s e w⟩
end
section
variable{ρ ρ1 ρ2:bz}{Z Z1 Y X Z4:bh}{x y z:SV}{i n:Nat}{d dx dy:D}{ds:bb D}{b:Bool}
theorem a8(h:ρ[i]?=lD (lD x)):au i ρ Z=.ok x Z:=by unfold au;rw[h]
theorem ah(h:f (bT ρ)=.ok (.fz d,ρ')):ae f ρ Z=.ok (.fz d) Z:=by unfold ae;rw[h]
theorem dh(h:f (bT ρ)=.ok (.ow ds,ρ')):ae f ρ Z=.ok (.rf Z.length) (Z++[.lst (ds.map .fz)]):=by unfold ae;rw[h];rfl
theorem cy(h:f (bT ρ)=.ok (b,ρ')):cH f ρ Z=.ok b Z:=by unfold cH;rw[h]
theorem fE(h:f (bT ρ)=.ok (ds,ρ')):eT f ρ Z=.ok ds Z:=by unfold eT;rw[h]
theorem dW(g:e ρ Z=.ok (.rf i) Z1)(h:Z1[i]?=lD (.obj C fs))(a:fs.lookup f=lD x):aZ C f e ρ Z=.ok x Z1:=by unfold aZ;rw[g,eh];dsimp only;rw[h];dsimp only;rw[av rfl,a];rfl
theorem dj(ha:fa ρ Z=.ok x Z1)(e:fb ρ Z1=.ok y Y)(a:r9 f x y Y=.ok z X):lC f fa fb ρ Z=.ok z X:=by unfold lC;rw[ha,eh,e,eh,a]
theorem cI(h:f dx dy=lD (.fz d)):r9 f (.fz dx) (.fz dy) Z=.ok (.fz d) Z:=by unfold r9;show((RS.Vm Z (f dx dy)).bind λrv Z1=>nF Z1 rv)=_;rw[h];rfl
theorem uv(e:sh Z x=lD dx)(a:sh Z y=lD dy)(h:f dx dy=lD (.fz d)):r9 f x y Z=.ok (.fz d) Z:=by unfold r9;rw[e,a];show((RS.Vm Z (f dx dy)).bind λrv Z1=>nF Z1 rv)=_;rw[h];rfl
theorem QL(a:sh Z x=Uh\/sh Z y=Uh)(j:mZ 6 Z x=lD dx)(g:mZ 6 Z y=lD dy)(h:f dx dy=lD (.fz d))(hd:BF d=Um):r9 f x y Z=.ok (.fz d) Z:=by
 have e:((RS.Vm Z (mZ 6 Z x)).bind λdx Z1=>(RS.Vm Z1 (mZ 6 Z1 y)).bind λdy Y=>(RS.Vm Y (f dx dy)).bind λrv X=>pp X rv)=.ok (.fz d) Z:=by rw[j];show((RS.Vm Z (mZ 6 Z y)).bind λdy Y=>(RS.Vm Y (f dx dy)).bind λrv X=>pp X rv)=_;rw[g];show((RS.Vm Z (f dx dy)).bind λrv X=>pp X rv)=_;rw[h];show(if BF d=Um then RS.ok (SV.fz d) Z else RS.bad)=_;rw[av hd]
 unfold r9;rcases a with a|a
 .rw[a];exact e
 .rw[a];cases sh Z x<;>exact e
theorem pB:∀ds:bb D,aC yQ (ds.map .fz)=lD ds
 |[]=>rfl
 |d::r=>by rw[UJ];unfold aC;rw[pB r];rfl
theorem dC(h:Z[i]?=lD (.lst (ds.map .fz))):sh Z (.rf i)=lD (.list ds):=by unfold sh;dsimp only;rw[h];dsimp only;rw[pB];rfl
theorem bx(h:fa ρ Z=.ok (.fz (.bool b)) Z1):bK fa ρ Z=.ok b Z1:=by unfold bK;rw[h];rfl
theorem jU(h:fa ρ Z=.ok Um Z1)(k:fb ρ Z1=r):oP fa fb ρ Z=r:=by unfold oP;rw[h,eh,av rfl,k]
theorem i7(h:fa ρ Z=.ok Uw Z1):oP fa fb ρ Z=.ok Uw Z1:=by unfold oP;rw[h,eh,ax UM]
theorem oW(h:fa ρ Z=.ok Um Z1):Bb fa fb ρ Z=.ok Um Z1:=by unfold Bb;rw[h,eh,av rfl]
theorem jZ(h:fa ρ Z=.ok Uw Z1)(k:fb ρ Z1=r):Bb fa fb ρ Z=r:=by unfold Bb;rw[h,eh,ax UM,k]
theorem sW(h:fa ρ Z=.ok b Z1):xC fa ρ Z=.ok (!b) Z1:=by unfold xC;rw[h];rfl
theorem FZ(h:bK fa ρ Z=.ok Um Z1)(k:fb ρ Z1=r):Fc fa fb ρ Z=r:=by unfold Fc;rw[h,eh,av rfl,k]
theorem E4(h:bK fa ρ Z=.ok Uw Z1):Fc fa fb ρ Z=.ok (.fz (.bool Uw)) Z1:=by unfold Fc;rw[h,eh,ax UM]
theorem ML(h:c ρ Z=.ok Um Z1)(k:fa ρ Z1=r):OS c fa fb ρ Z=r:=by unfold OS;rw[h,eh,av rfl,k]
theorem Nl(h:c ρ Z=.ok Uw Z1)(k:fb ρ Z1=r):OS c fa fb ρ Z=r:=by unfold OS;rw[h,eh,ax UM,k]
theorem aK:aH ρ Z=.ok [] Z:=rfl
theorem ao(ha:fa ρ Z=.ok x Z1)(a:fr ρ Z1=.ok xs Y):aj fa fr ρ Z=.ok (x::xs) Y:=by unfold aj;rw[ha,eh,a,eh]
theorem qN(ha:fa ρ Z=.ok (ds.map .fz) Z1)(a:ds.length<=1000):mh fa ρ Z=.ok (.fz (.tuple ds)) Z1:=by unfold mh;rw[ha,eh,Ui,av a];unfold SN;rw[pB];rfl
theorem Gz(ha:fa ρ Z=.ok xs Z1)(a:xs.length<=1000)(f:aC yQ xs=Uh)(e:aC SS xs=lD l):mh fa ρ Z=.ok (.tp l) Z1:=by unfold mh;rw[ha,eh,av a];unfold SN;rw[f];dsimp only;rw[e];rfl
theorem nJ(ha:fa ρ Z=.ok xs Z1)(a:aC (sh Z1) xs=lD ds)(h:f ds=lD (.fz d)):kg f fa ρ Z=.ok (.fz d) Z1:=by unfold kg;rw[ha,eh];unfold FV;rw[a];show((RS.Vm Z1 (f ds)).bind λrv Z1=>nF Z1 rv)=_;rw[h];rfl
theorem Bc(ha:fa ρ Z=.ok (ds.map .fz) Z1)(hn:ds.length=n)(a:F ds=.ok (.fz d)):j8 F n fa ρ Z=.ok (.fz d) Z1:=by unfold j8;rw[ha,eh];unfold AB;rw[Ui,av hn,pB];dsimp only;rw[a];rfl
theorem wV(ha:fa ρ Z=.ok (ds.map .fz) Z1)(hn:ds.length=n)(a:F ds=.ok (.ow es)):j8 F n fa ρ Z=.ok (.rf Z1.length) (Z1++[.lst (es.map .fz)]):=by unfold j8;rw[ha,eh];unfold AB;rw[Ui,av hn,pB];dsimp only;rw[a];rfl
theorem zi:iE (RS.ok a Z)=.ok a Z:=rfl
theorem CV(e:fo ρ Z=.ok (.rf i) Z1)(f:Z1[i]?=lD (.obj C fs))(hm:fs.lookup m=Uh)(ha:fa ρ Z1=.ok xs Y)(hn:(SV.rf i::xs).length=n)(g:F (.rf i::xs) Y=.ok x X):a9 C m F n fo fa ρ Z=.ok x X:=by
 have a:nK Z1 C m (.rf i)=Um:=by unfold nK;dsimp only;rw[f];dsimp only;rw[hm,aE rfl];rfl
 unfold a9;rw[e,eh,av a,ha,eh,av hn,g];rfl
theorem OO(ha:fa ρ Z=.ok xs Z1)(hn:(SV.rf Z1.length::xs).length=n)(a:F (.rf Z1.length::xs) (Z1++[.obj C []])=.ok (.fz .none) Y):vZ C F n fa ρ Z=.ok (.rf Z1.length) Y:=by unfold vZ;rw[ha,eh];unfold vR;rw[av hn,a,eh,av (show Gd (.fz .none)=Um from rfl)];rfl
theorem ce(ha:fa ρ Z=.ok (.fz dx) Z1)(a:fb ρ Z1=.ok (.fz dy) Y)(h:bA dx dy=lD (.fz d)):fP fa fb ρ Z=.ok (.fz d) Y:=by unfold fP;rw[ha,eh,a,eh];exact cI h
theorem uT(a:fo ρ Z=.ok (.rf i) Z1)(h:Z1[i]?=lD (.lst xs))(f:fe ρ Z1=.ok x Y)(g:Y[i]?=lD (.lst ys))(e:ys.length<1000000):kK fo fe ρ Z=.ok (.fz .none) (Y.set i (.lst (ys++[x]))):=by
 have l:gp Z1 (.rf i)=lD (i,xs):=by unfold gp;dsimp only;rw[h]
 have j:gp Y (.rf i)=lD (i,ys):=by unfold gp;dsimp only;rw[g]
 unfold kK;rw[a,eh,l];show((fe ρ Z1).bind _)=_;rw[f,eh,j];show(if ys.length<1000000 then _ else _)=_;rw[av e]
theorem oh(h:Z[i]?=lD (.ZX UY)):jn Z (.rf i)=lD (i,UY):=by unfold jn;dsimp only;rw[h]
theorem AY(a:fk ρ Z=.ok x Z1)(hd:fd ρ Z1=.ok (.rf i) Y)(f:vC x=lD k)(e:Y[i]?=lD (.ZX UY)):Al neg fk fd ρ Z=.ok (.fz (.bool ((kN UY k).isSome !=neg))) Y:=by unfold Al;rw[a,eh,hd,eh,f];show((RS.Vm Y (jn Y (.rf i))).bind _)=_;rw[oh e];rfl
theorem M7(hd:fd ρ Z=.ok (.rf i) Z1)(a:fk ρ Z1=.ok x Y)(g:vC x=lD k)(f:Y[i]?=lD (.ZX UY))(e:kN UY k=lD y):wb fd fk ρ Z=.ok y Y:=by unfold wb;rw[hd,eh,a,eh,g];show((RS.Vm Y (jn Y (.rf i))).bind _)=_;rw[oh f];show RS.Vm Y (kN UY k)=_;rw[e];rfl
theorem MF(a:fv ρ Z=.ok y Z1)(hd:fd ρ Z1=.ok (.rf i) Y)(f:fk ρ Y=.ok x X)(h:vC x=lD k)(g:X[i]?=lD (.ZX UY))(e:UY.length<1000000):yX fd fk fv ρ Z=.ok (.nx ρ) (X.set i (.ZX (lg UY k y))):=by unfold yX;rw[a,eh,hd,eh,f,eh,h];show((RS.Vm X (jn X (.rf i))).bind _)=_;rw[oh g];show(if UY.length<1000000 then _ else _)=_;rw[av e]
theorem MG(hd:fd ρ Z=.ok (.rf i) Z1)(h:Z1[i]?=lD (.ZX agW))(a:fk ρ Z1=.ok x Y)(g:vC x=lD k)(f:Y[i]?=lD (.ZX UY))(e:kN UY k=lD y):zQ fd fk ρ Z=.ok y (Y.set i (.ZX (n6 UY k))):=by unfold zQ;rw[hd,eh,oh h];show((fk ρ Z1).bind _)=_;rw[a,eh,g];show((RS.Vm Y (jn Y (.rf i))).bind _)=_;rw[oh f];show((RS.Vm Y (kN UY k)).bind _)=_;rw[e];rfl
theorem LW(hd:fd ρ Z=.ok (.rf i) Z1)(h:Z1[i]?=lD (.ZX UY)):EC fd ρ Z=.ok (.rf Z1.length) (Z1++[.lst (UY.map (·.2))]):=by unfold EC;rw[hd,eh,oh h];rfl
theorem NB(hd:fd ρ Z=.ok (.rf i) Z1)(h:Z1[i]?=lD (.ZX UY))(e:aC Bs (UY.map (·.1))=lD ns)(a:ns.length<64):wl fd ρ Z=.ok (.rf Z1.length) (Z1++[.lst ((l8 ns).map λi=>SV.fz (.int i))]):=by unfold wl;rw[hd,eh,oh h];show((RS.Vm Z1 (aC Bs (UY.map (·.1)))).bind _)=_;rw[e];show(if ns.length<64 then _ else _)=_;rw[av a]
theorem Ma(a:fe ρ Z=.ok x Z1)(h:x4 x=lD ps):za fe ρ Z=.ok (.rf Z1.length) (Z1++[.ZX (oj [] ps)]):=by unfold za;rw[a,eh,h];rfl
variable{fl:FlS}{r:RS FlS}
theorem cX(h:f ρ Z=.ok (.nx ρ1) Z1)(k:g ρ1 Z1=r):aM f g ρ Z=r:=by unfold aM;rw[h,eh];exact k
theorem re(h:f ρ Z=.ok (.rt x) Z1):aM f g ρ Z=.ok (.rt x) Z1:=by unfold aM;rw[h];rfl
theorem ib(h:c ρ Z=.ok Um Z1)(k:f ρ Z1=r):cT c f g ρ Z=r:=by unfold cT;rw[h,eh,av rfl,k]
theorem jv(h:c ρ Z=.ok Uw Z1)(k:g ρ Z1=r):cT c f g ρ Z=r:=by unfold cT;rw[h,eh,ax UM,k]
theorem iy(h:f ρ Z=.ok x Z1):gI f ρ Z=.ok (.rt x) Z1:=by unfold gI;rw[h];rfl
theorem iY(h:f ρ Z=.ok x Z1):bS f ρ Z=.ok (.nx ρ) Z1:=by unfold bS;rw[h];rfl
theorem mq(h:f ρ Z=.ok x Z1)(e:ρ.set i (lD x)=ρ1):cA f (cV i) ρ Z=.ok (.nx ρ1) Z1:=by subst e;unfold cA;rw[h];rfl
theorem iS:dH ρ Z=.ok (.nx ρ) Z:=rfl
theorem kr(h:fe ρ Z=.ok x Z1)(a:fo ρ Z1=.ok (.rf i) Y)(j:Y[i]?=lD (.obj C fs))(g:fs.length<100):eY C f fo fe ρ Z=.ok (.nx ρ) (Y.set i (.obj C (eS f x fs))):=by
 have e:J6 Y C (.rf i)=lD (i,fs):=by unfold J6;dsimp only;rw[j];dsimp only;rw[av rfl]
 unfold eY;rw[h,eh,a,eh,e];show(if fs.length<100 then _ else _)=_;rw[av g]
theorem iw(h:f ρ Z=.ok x Z1)(k:frz 4 Z1 x=lD (d,Y)):jN f ρ Z=.ok (.fz d) Y:=by unfold jN;rw[h,eh];unfold ND;rw[k]
theorem jt(e:xs.map lD++Uz (N - xs.length) Uh=ρ)(h:g ρ Z=.ok (.rt x) Z1):c9 N g xs Z=.ok x Z1:=by subst e;unfold c9;rw[h];rfl
theorem pS(e:xs.map lD++Uz (N - xs.length) Uh=ρ)(h:g ρ Z=.ok (.nx ρ1) Z1):c9 N g xs Z=.ok (.fz .none) Z1:=by subst e;unfold c9;rw[h];rfl
end
section
variable{ρ ρ1 ρ2:bz}{Z Z1 Y Z3 Z4:bh}{x y z:SV}{i n:Nat}{d dx dy:D}{ds:bb D}{b:Bool}
theorem ja(e:α->D)(f:α->SV)(Z:bh)(I:bz->Prop):∀(xs:bb α) (ρ:bz) (a:bb SV),I ρ->a.length+xs.length<=1000000->(∀x∈xs,∀ρ,I ρ->∃ρ',gt (.fz (e x)) ρ Z=.ok ρ' Z/\ft ρ' Z=.ok Um Z/\fe ρ' Z=.ok (f x) Z/\I ρ')->cx gt ft fe (xs.map e) ρ Z a=.ok (a++xs.map f) Z
 |[],ρ,a,_,_,_=>by show RS.ok a Z=_;rw[W4,UT]
 |x::r,ρ,a,h0,hl,hs=>by obtain⟨ρ',m,l,j,h⟩:=hs x UE ρ h0;rw[UD]at hl;show((gt (.fz (e x)) ρ Z).bind _)=_;rw[m,eh,l,eh,av rfl,j,eh,av (by ext),ja e f Z I r ρ' _ h (by rw[Uo,Y7];ext) λy g=>hs y (UC _ g),UQ];rfl
theorem iW(hi:fi ρ Z=.ok ds Z1)(a:cx gt ft fe ds (fy n fj ρ) Z1 []=.ok xs Y):eZ n fj fi gt ft fe ρ Z=.ok (.rf Y.length) (Y++[.lst xs]):=by unfold eZ;rw[hi,eh,a,zi,eh]
theorem pz(m:Nat):∀(ds:bb D),jP (frz m) Z (ds.map .fz)=lD (ds,Z)
 |[]=>rfl
 |d::r=>by rw[UJ];unfold jP;rw[show frz m Z (.fz d)=lD (d,Z) by cases m<;>rfl];dsimp only;rw[pz m r]
theorem gl(h:Z[i]?=lD (.lst (ds.map .fz))):frz 4 Z (.rf i)=lD (.list ds,Z.set i .dead):=by unfold frz;rw[h];dsimp only;rw[pz]
theorem Hf(h:fe ρ Z=.ok (.rf i) Z1)(a:Z1[i]?=lD (.lst (ds.map .fz))):fZ fe ρ Z=.ok ds (Z1.set i .dead):=by unfold fZ;rw[h,eh,gl a];rfl
def Su(N C:bz->bh->Prop)(T:SV->bh->Prop):RS FlS->Prop
 |.ok (.nx ρ) Z=>N ρ Z
 |.ok (.ct ρ) Z=>C ρ Z
 |.ok (.rt v) Z=>T v Z
 |_=>False
structure XN(r:RS FlS)(N C:bz->bh->Prop)(T:SV->bh->Prop):Prop where
 out:Su N C T r
variable{f g:fu}{fe:dI}{N C:bz->bh->Prop}{T:SV->bh->Prop}
theorem XN.eq(e:r=r')(h:XN r' N C T):XN r N C T:=by rw[e];exact h
theorem XN.imp(h:XN r N C T)(e:∀ρ Z,N ρ Z->N' ρ Z)(j:∀ρ Z,C ρ Z->C' ρ Z)(a:∀v Z,T v Z->T' v Z):XN r N' C' T':=by
 refine⟨?_⟩;have h:=h.out;cases r with
 |bad=>exact h
 |er x Z=>exact h
 |ok l Z=>
  cases l with
  |nx r=>exact e _ _ h
  |ct r=>exact j _ _ h
  |rt v=>exact a _ _ h
  |bk r=>exact h
theorem pZ(h:XN (f ρ Z) (λr o=>XN (g r o) N C T) C T):XN (aM f g ρ Z) N C T:=by
 refine⟨?_⟩;have h:=h.out;unfold aM;cases q:f ρ Z with
 |bad=>rw[q]at h;exact h.elim
 |er x o=>rw[q]at h;exact h.elim
 |ok a o=>
  rw[q]at h;cases a with
  |nx r=>exact(show XN (g r o) N C T from h).out
  |ct r=>exact h
  |rt v=>exact h
  |bk r=>exact h.elim
theorem zv(h:c ρ Z=.ok b Z1)(a:b=Um->XN (f ρ Z1) N C T)(e:b=Uw->XN (g ρ Z1) N C T):XN (cT c f g ρ Z) N C T:=by
 unfold cT;rw[h,eh];cases b with
 |true=>exact a rfl
 |false=>exact e rfl
theorem tH(e:c ρ Z=.ok Um Z1)(a:XN (f ρ Z1) N C T):XN (cT c f g ρ Z) N C T:=zv e (λ_=>a) λh=>by cases h
theorem eX(e:c ρ Z=.ok Uw Z1)(a:XN (g ρ Z1) N C T):XN (cT c f g ρ Z) N C T:=zv e (λh=>by cases h) λ_=>a
theorem Hn(e:fe ρ Z=.ok x Z1)(a:gt x ρ Z1=.ok ρ1 Y)(h:N ρ1 Y):XN (cA fe gt ρ Z) N C T:=by refine⟨?_⟩;unfold cA;rw[e,eh,a,eh];exact h
theorem pL(a:f ρ Z=.ok (.nx ρ1) Z1)(h:N ρ1 Z1):XN (f ρ Z) N C T:=⟨by rw[a];exact h⟩
theorem So(a:f ρ Z=.ok (.rt x) Z1)(h:T x Z1):XN (f ρ Z) N C T:=⟨by rw[a];exact h⟩
theorem jG(a:fe ρ Z=.ok x Z1)(h:N ρ Z1):XN (bS fe ρ Z) N C T:=pL (iY a) h
theorem Gw(a:fe ρ Z=.ok x Z1)(h:T x Z1):XN (gI fe ρ Z) N C T:=So (iy a) h
theorem MC(h:T (.fz .none) Z):XN (wJ ρ Z) N C T:=⟨h⟩
theorem mX(h:N ρ Z):XN (dH ρ Z) N C T:=⟨h⟩
theorem iC{gt:Bg}(e:fe ρ Z=.ok x Z1)(a:gt x ρ Z1=.ok ρ1 Y)(h:XN (g ρ1 Y) N C T):XN (aM (cA fe gt) g ρ Z) N C T:=pZ (Hn e a h)
theorem C5(a:f ρ Z=.ok (.nx ρ1) Z1)(h:XN (g ρ1 Z1) N C T):XN (aM f g ρ Z) N C T:=pZ (pL a h)
theorem ko(a:fe ρ Z=.ok x Z1)(h:XN (g ρ Z1) N C T):XN (aM (bS fe) g ρ Z) N C T:=pZ (jG a h)
theorem zt{h a:fu}(m:c ρ Z=.ok b Z1)(j:b=Um->XN (aM h g ρ Z1) N C T)(l:b=Uw->XN (aM a g ρ Z1) N C T):XN (aM (cT c h a) g ρ Z) N C T:=by
 have e:aM (cT c h a) g ρ Z=if b=Um then aM h g ρ Z1 else aM a g ρ Z1:=by unfold aM cT;rw[m,eh];cases b<;>rfl
 refine .eq e ?_;cases b with
 |true=>exact j rfl
 |false=>exact l rfl
theorem ye{a l:fu}(j:c ρ Z=.ok Um Z1)(e:XN (aM a g ρ Z1) N C T):XN (aM (cT c a l) g ρ Z) N C T:=zt j (λ_=>e) λh=>by cases h
theorem uP{l a:fu}(j:c ρ Z=.ok Uw Z1)(e:XN (aM a g ρ Z1) N C T):XN (aM (cT c l a) g ρ Z) N C T:=zt j (λh=>by cases h) λ_=>e
theorem xD(h:T (.fz .none) Z):XN (aM wJ g ρ Z) N C T:=pZ (MC h)
theorem oS(h:XN (g ρ Z) N C T):XN (aM dH g ρ Z) N C T:=pZ (mX h)
theorem Ql{a e:fu}(h:XN (aM a (aM e g) ρ Z) N C T):XN (aM (aM a e) g ρ Z) N C T:=by
 refine .eq ?_ h;unfold aM;cases a ρ Z with
 |bad=>rfl
 |er x o=>rfl
 |ok j o=>cases j<;>rfl
theorem CS{b:fu}(I:Nat->bz->bh->Prop):∀(ds:bb D) (k:Nat) (ρ:bz) (Z:bh),I k ρ Z->(∀i d ρ Z,ds[i]?=lD d->I (k+i) ρ Z->∃ρ1 Z1,gt (.fz d) ρ Z=.ok ρ1 Z1/\XN (b ρ1 Z1) (I (k+i+1)) (I (k+i+1)) T)->XN (jV gt b ds ρ Z) (I (k+ds.length)) C T
 |[],k,ρ,Z,h0,_=>⟨h0⟩
 |d::r,k,ρ,Z,h0,hs=>by
  obtain⟨ρ1,Z1,w,a⟩:=hs 0 d ρ Z rfl h0;have a:=a.out;have l:∀j p,I (k+1) j p->XN (jV gt b r j p) (I (k+(r.length+1))) C T:=λj p h=>by
   have e:k+(r.length+1)=k+1+r.length:=by ext
   rw[e];refine CS I r (k+1) j p h λi B m t hi u=>?_;have e:k+1+i=k+(i+1):=by ext
   rw[e]at u⊢;exact hs (i+1) B m t (by simpa using hi) u
  refine⟨?_⟩;show Su _ _ _ ((gt (.fz d) ρ Z).bind _);rw[w,eh];cases q:b ρ1 Z1 with
  |bad=>rw[q]at a;exact a.elim
  |er x o=>rw[q]at a;exact a.elim
  |ok A o=>
   rw[q]at a;cases A with
   |nx r=>exact(l _ _ a).out
   |ct r=>exact(l _ _ a).out
   |rt v=>exact a
   |bk r=>exact a.elim
theorem Pa{b:fu}(I:Nat->bz->bh->Prop)(hi:fi ρ Z=.ok ds Z1)(j:I 0 ρ Z1)(a:∀i d ρ Z,ds[i]?=lD d->I i ρ Z->∃ρ1 Z1,gt (.fz d) ρ Z=.ok ρ1 Z1/\XN (b ρ1 Z1) (I (i+1)) (I (i+1)) T)(e:∀ρ' Z',I ds.length ρ' Z'->N ρ' Z'):XN (pW fi gt b ρ Z) N C T:=by have:=CS (C:=C) I ds 0 ρ Z1 j (by simpa using a);rw[Vk]at this;refine .eq ?_ (this.imp e (λ_ _ h=>h) λ_ _ h=>h);unfold pW;rw[hi,eh]
theorem Qq(a:xs.map lD++Uz (n - xs.length) Uh=ρ)(h:XN (g ρ Z) (λ_ Z'=>T (.fz .none) Z') (λ_ _=>False) T):∃x Z',c9 n g xs Z=.ok x Z'/\T x Z':=by
 have h:=h.out;unfold c9;rw[a];cases q:g ρ Z with
 |bad=>rw[q]at h;exact h.elim
 |er x o=>rw[q]at h;exact h.elim
 |ok e o=>
  rw[q]at h;cases e with
  |nx r=>exact⟨_,_,rfl,h⟩
  |ct r=>exact h.elim
  |rt v=>exact⟨_,_,rfl,h⟩
  |bk r=>exact h.elim
theorem jm{W:bh->Prop}(a:xs.map lD++Uz (n - xs.length) Uh=ρ)(h:XN (g ρ Z) (λ_ Z'=>SV.fz .none=v/\W Z') (λ_ _=>False) (λr Z'=>r=v/\W Z')):∃Z',c9 n g xs Z=.ok v Z'/\W Z':=by obtain⟨x,Z',l,j,e⟩:=Qq (T:=λr Z'=>r=v/\W Z') a h;exact⟨Z',by rw[l,j],e⟩
end
def S3(Z:bh):AV->bg D
 |.fz d=>lD d
 |.rf i=>sh Z (.rf i)
def SM(F:i8):FN:=λds=>match F (ds.map .fz) []with
 |.ok (.fz d) _=>.ok (.fz d)
 |.ok (.rf i) Z=>(match sh Z (.rf i)with
  |some (.list ds)=>.ok (.ow ds)
  |_=>.bad)
 |.ok (.tp l) Z=>(match aC (S3 Z) l with
  |some ds=>.ok (.fz (.tuple ds))
  |none=>.bad)
 |.er x _=>.er x
 |.bad=>.bad
section
variable{B O O':cz}{K:Ld}{E:XK}{H H' H1 H2:Hp}{U Y α1 α2:bb Uq}{Z X Z1 Z2:bh}{σ:L2.St}{ρ:bz}{v:V}
theorem Sb(s:U8 B K H U Z)(h:AOk (ow B U Z) K H U v x)(e:S3 Z x=lD d):L3.DV B K H v d:=by
 have sub:∀b,B b->ow B U Z b:=λb z=>.inl z;cases x with
 |fz n=>cases e;exact DV.ev (Ev.sub sub) h
 |rf i=>
  obtain⟨a,ha,rfl⟩:=h;have f:sh Z (.rf i)=lD d:=e;have:∃ds,d=.list ds:=by
   unfold sh at f;dsimp only at f;split at f
   .rename_i xs _
    cases q:aC yQ xs with
    |none=>rw[q]at f;cases f
    |some ds=>rw[q]at f;cases f;exact⟨_,rfl⟩
   .cases f
  obtain⟨ds,rfl⟩:=this;obtain⟨o,vs,g,l,j,m⟩:=jq s f;rw[ha]at g;cases g;exact .lst ⟨X9.of l,λz=>a5 ha (s.ba a z i)⟩ (j.ev (Ev.sub sub))
theorem Qc(h:pT K n (SM F) vs H Q E):dg K n F vs H Q E:=by
 obtain⟨I,B,ds,L,P,w⟩:=h;refine⟨I,B,[],[],ds.map .fz,CB L,kI _ _ (P.ev (Ev.sub λb z=>z.elim id λ⟨i,c,q,_⟩=>by simp at q)),?_⟩;unfold SM at w;cases qF:F (ds.map .fz) []with
 |bad=>rw[qF]at w;exact w.elim
 |er x X=>rw[qF]at w;intro c dx Y H' g m k;exact w c dx H' (λb o h=>g.kp b o h λ⟨i,c,q,_⟩=>by simp at q) (XOk.sub (λb z=>.inl z) k)
 |ok x X=>
  rw[qF]at w;intro Y H' g m v p;have j:=λb o h=>g.kp b o h λ⟨i,c,q,_⟩=>by simp at q
  cases x with
  |fz d=>exact w v H' j (DV.ev (Ev.sub λb z=>.inl z) p)
  |tp l=>
   dsimp only at w;cases qs:aC (S3 X) l with
   |none=>rw[qs]at w;exact w.elim
   |some N=>rw[qs]at w;obtain⟨a,xs,rfl,A,C⟩:=p;exact w (.ref a) H' j (.tup (A.ev (Ev.sub λb z=>.inl z)) (jS (cS (R:=AOk (ow B Y X) K H' Y) (λv x y r e=>Sb m r e) C qs)))
  |rf i=>
   dsimp only at w;cases qs:sh X (.rf i)with
   |none=>rw[qs]at w;exact w.elim
   |some d=>
    rw[qs]at w;cases d with
    |list N=>obtain⟨a,t,ha,M,J,G⟩:=jq m qs;obtain⟨xs,u,_⟩:=sN qs;obtain⟨S,f,rfl⟩:=p;rw[ha]at f;cases f;refine w a t H' j ((g.lv a ⟨i,_,ha,u,by intro z;cases z⟩).elim (λ⟨i,c,q,_⟩=>by simp at q) id) M (J.ev (Ev.sub λb z=>z.elim (λz=>.inl z) λz=>by rw[z];exact G))
    |_=>exact w.elim
end
end L10
namespace L10
open PySem PySem.SeqAt PySem.Spec PySem.W PyProof.Rows L2 L3
section
variable{K:Ld}{E:XK}
def uf(k:Int):bb Int->bg Nat
 |[]=>Uh
 |n::r=>if n=k then lD 0 else(uf k r).map (·+1)
theorem wX{k:Int}:∀{ns:bb Int} {j:Nat},uf k ns=lD j->ns[j]?=lD k/\∀m,m<j->ns[m]?≠lD k
 |[],_,h=>by cases h
 |n::r,j,h=>by
  unfold uf at h;split at h
  .rename_i e;cases h;exact⟨by rw[<-e];rfl,λm hm=>by ext⟩
  .rename_i e
   cases q:uf k r with
   |none=>rw[q]at h;cases h
   |some i=>
    rw[q]at h;cases h;obtain⟨b,a⟩:=wX q;refine⟨b,λm hm=>?_⟩;cases m with
    |zero=>intro z;exact e (UH z)
    |succ m=>exact a m (by have hm:m+1<i+1:=hm;ext)
def Oe(K:Ld):V->bb V->Hp->VK->Prop:=λx xs H Q=>∃(l:Uq) (a:bb Int) (k:Int) (j:Nat),x=.ref l/\YL K H l (a.map V.int)/\xs=[.int k]/\a[j]?=lD k/\(∀m,m<j->a[m]?≠lD k)/\j<1000/\Q (.int (j:Nat)) H
theorem FX{X:Cx}:SJ X "list.index" (Oe X.K):=by
 rintro C s U H x xs v Y Q I N f ⟨l,w,k,j,rfl,hl,rfl,hj,hno,hs,q⟩;obtain rfl:v=.ref l:=N;obtain⟨u,rfl,g⟩:=f.one;obtain⟨t,rfl⟩:=g;obtain⟨b,r,⟨o,n,J,T,hd,A⟩,_⟩:=I.list hl;have L:b.length=w.length:=by have:=r.length;rw[Ui]at this;exact this.symm
 have a:∀(m:Nat) (hm:m<b.length),∃t,b[m]=.int (w[m]'(by ext)) t:=λm hm=>by obtain⟨u,G,g⟩:=r.get (i:=m) (x:=.int (w[m]'(by ext))) (by rw[Uu,Us (by ext)];rfl);obtain⟨t,rfl⟩:=g;rw[Us hm]at G;exact⟨t,UH G⟩
 obtain⟨Z,R⟩:=Uk.mp hj;obtain⟨P,O,p,h⟩:=o;obtain rfl:P=.type "list":=T;obtain rfl:p=.seq b.toArray n:=A;refine X8 aa7 ⟨_,J,rfl⟩ PySem.F.entry_list_index (PySem.F.args_list_index_2 _ _) (list_indexAt l b.toArray n O h (.int k t) (Uj.isInt k) j (by rw[UG];ext) (by ext) ?_ λm hm lt=>?_) ⟨J,λy S=>?_,?_⟩
 .obtain⟨t,e⟩:=a j (by ext);rw[acQ,e,R];simp[Uj.isInt]
 .have B:m<b.length:=by rw[UG]at hm;exact hm
  obtain⟨t,e⟩:=a m B;rw[acQ,e];have:=hno m lt;rw[Us (by ext)]at this;simp only[Uj.isInt];exact beq_eq_false_iff_ne.mpr λz=>this (by rw[z])
 .obtain⟨m,hm,rfl⟩:=acO.mp (by simpa using S:y∈b);obtain⟨M,e⟩:=a m hm;rw[e];exact(MeetsSeq.EqGives.int _ k M t).at _ _
 .exact⟨.int (j:Nat),H,I.tok _,⟨_,rfl⟩,q⟩
def GB(ds:bb D)(d:D):bg Nat:=match lz ds,d with
 |some ns,.int k=>(match uf k ns with
  |some j=>if j<1000 then lD j else Uh
  |none=>Uh)
 |_,_=>Uh
def G9(fe:FE)(ρ:bw):bg (bg PV)->Res (PV×bw)
 |some (lD (.fz (.list ds)))=>(fe ρ).bind λa=>(Res.Vm (xl a.2 a.1)).bind λd=>(Res.Vm (GB ds d)).bind λj=>.ok (.fz (nd j),a.2)
 |_=>.bad
def Kv(i:Nat)(fe:FE):FE:=λρ=>G9 fe ρ ρ[i]?
theorem QW{i:Nat}{n:TE}{fe:FE}(G:EO K E n fe):EO K E (SX K "list" (Oe K) (zO i) (iH n ng)) (Kv i fe):=by
 intro B S O u H ρ Q R w;unfold Kv at w;cases qi:ρ[i]? with
 |none=>rw[qi]at w;exact w.elim
 |some o=>
  cases o with
  |none=>rw[qi]at w;exact w.elim
  |some pv=>
   cases pv with
   |ow ds=>rw[qi]at w;exact w.elim
   |pl j=>rw[qi]at w;exact w.elim
   |fz J=>
    cases J with
    |list ds=>
     rw[qi]at w;obtain⟨v,I,m⟩:=R.slot i _ qi;have m:L3.DV O K H v (.list ds):=m;cases m with
     |lst e l=>
      refine⟨_,I,.inl ⟨rfl,_,e.1.sq⟩,?_⟩;refine G B S O u H ρ _ R (WR.imp (WR.bind w) λb f N y P q t C=>?_);obtain⟨d,A,f⟩:=f.Vm;obtain⟨j,a,z⟩:=f.Vm;have g:=nQ t C A;unfold GB at a;cases qa:lz ds with
      |none=>rw[qa]at a;cases a
      |some p=>
       rw[qa]at a;cases d with
       |int k=>
        dsimp only at a;cases qk:uf k p with
        |none=>rw[qk]at a;cases a
        |some F=>
         rw[qk]at a;dsimp only at a;by_cases h:F<1000
         .rw[av h]at a
          cases a;have g:y=.int k:=by cases g;rfl
          subst g;obtain⟨M,L⟩:=wX qk;have r:=e.ev q;have ev:=mr l qa;rw[ev]at r;exact⟨_,p,k,_,rfl,r.1.sq,rfl,M,L,h,z N _ P q t (.int _)⟩
         .rw[ax h]at a;cases a
       |_=>cases a
    |_=>rw[qi]at w;exact w.elim
end
end L10
namespace L10
open PySem PyProof.Rows L2 L3
section
variable{B O O':cz}{K:Ld}{E:XK}{H H' H1 H2:Hp}{α α' α1 α2:bb Uq}{Z Z' Z1 Y:bh}{σ:L2.St}{ρ:bz}{v:V}
theorem qu{fa fb:dI}{y z:SV}{i:Nat}{n:Int}{xs:bb SV}(ha:fa ρ Z=.ok (.rf i) Z1)(e:fb ρ Z1=.ok y Y)(hn:Ja y=lD n)(a:Y[i]?=lD (.lst xs))(b:nc xs n=lD z):fP fa fb ρ Z=.ok z Y:=by unfold fP;rw[ha,eh,e,eh];unfold Pb;simp only[a,hn];show RS.Vm Y (nc xs n)=_;rw[b];rfl
end
end L10
namespace L10
open PySem PyProof.Rows L2 L3
section
variable{O Z:cz}{K:Ld}{H H':Hp}{a b:Uq}{xs:bb V}{Y:Heap->Prop}
def SZ(a:Uq)(O:cz)(H:Hp)(Z:cz)(H':Hp):Prop:=∀b o,b≠a->H b=lD o->¬O b->H' b=lD o/\¬Z b
theorem aay.evx(i:H a=lD (.ext Y))(h:aay O K H b xs)(e:SZ a O H Z H'):aay Z K H' b xs:=by
 obtain⟨h,k⟩:=h;by_cases z:O b
 .exact⟨X9.same (mI H') (k z),λ_=>k z⟩
 .rcases h with(h|⟨o,h⟩)|h
  .obtain⟨g,f⟩:=e b _ (λy=>by rw[y,i]at h;cases h) h z;exact⟨.inl (.inl g),λy=>a5 y f⟩
  .obtain⟨g,f⟩:=e b _ (λy=>by rw[y,i]at h;cases h) h z;exact⟨.inl (.inr ⟨o,g⟩),λy=>a5 y f⟩
  .exact⟨.inr h,λ_=>.inr h⟩
theorem Y5.evx(i:H a=lD (.ext Y))(h:Y5 O K H b xs)(e:SZ a O H Z H'):Y5 Z K H' b xs:=by
 obtain⟨h,k⟩:=h;by_cases z:O b
 .exact⟨(mI H').tup (k z),λ_=>k z⟩
 .rcases h with(h|⟨o,h⟩)|h
  .obtain⟨g,f⟩:=e b _ (λy=>by rw[y,i]at h;cases h) h z;exact⟨.inl (.inl g),λy=>a5 y f⟩
  .obtain⟨g,f⟩:=e b _ (λy=>by rw[y,i]at h;cases h) h z;exact⟨.inl (.inr ⟨o,g⟩),λy=>a5 y f⟩
  .exact⟨.inr h,λ_=>.inr h⟩
mutual
theorem DV.evx(f:H a=lD (.ext Y))(e:SZ a O H Z H'):∀{v:V} {d:D},L3.DV O K H v d->L3.DV Z K H' v d
 |_,_,.WA=>.WA
 |_,_,.bl b=>.bl b
 |_,_,.int i=>.int i
 |_,_,.str x=>.str x
 |_,_,.tup h hs=>.tup (Y5.evx f h e) (V9.evx f e hs)
 |_,_,.lst h hs=>.lst (aay.evx f h e) (V9.evx f e hs)
theorem V9.evx(f:H a=lD (.ext Y))(e:SZ a O H Z H'):∀{vs:bb V} {ds:bb D},L3.V9 O K H vs ds->L3.V9 Z K H' vs ds
 |_,_,.nil=>.nil
 |_,_,.cons h hs=>.cons (DV.evx f e h) (V9.evx f e hs)
end
end
end L10
namespace PySem
open Sem (wp)
open PyProof.Rows
section
variable{prog:US}{w:Vb}{A:U4}{E:Uj->Ur->Prop}{s:Ur}{t:Uq}{xs:Array (Int×Tok)}
theorem HP{vs:bb Uj}{ns:bb Int}{Q:Uj->Ur->Prop}(q:A.handled=Uh)(i:s.heap.IsList t vs.toArray)(hi:IntsAre vs ns)(y:0<ns.length)
  (h:∀h' M (u:Tok) tk,(∀b o,s.heap.get? b=lD o->h'.get? b=lD o)->M∈ns->(∀a,a∈ns->a<=M)->Q (.int M u) {s with heap:=h',toks:=tk}):
  wpAny (model prog w) A (call (.builtin "max") [.ref t]) Q E s:=by
 obtain⟨xs,e⟩:=hi.allInts.items;have f:ns=xs.toList.map (·.1):=by rw[<-hi.numsOf,<-nums_intItems,<-e]
 have g:0<xs.size:=by have l:=y;rw[f,Ui,Vv]at l;exact l
 rw[e]at i;refine max_intList q i g λv h' tk m n=>?_;obtain⟨t,rfl⟩:=intItems_at m;obtain⟨z,r⟩:=argBest_gt (numAt xs) (xs.size - 1);refine h _ _ t tk n ?_ λa ha=>?_
 .rw[f,numAt_eq];exact getD_mem (by rw[Ui,Vv];ext)
 .rw[f]at ha;obtain⟨j,p,rfl⟩:=mem_getD ha;rw[Ui,Vv]at p;rw[<-numAt_eq];exact r j (by ext)
end
end PySem
namespace L10
open PySem PySem.Spec PyProof.Rows L2 L3
def Od(K:Ld):bb V->Hp->VK->Prop:=λxs H Q=>∃(a:Uq) (b:bb Int),xs=[.ref a]/\YL K H a (b.map V.int)/\0<b.length/\∀M,M∈b->(∀i,i∈b->i<=M)->Q (.int M) H
theorem mv{X:Cx}(l:X.calm=Um):Xd X (.builtin "max") (Od X.K):=by intro b s o H xs p Q I r h;obtain⟨a,v,rfl,g,hn,q⟩:=h;obtain⟨u,rfl,f⟩:=k8 r;cases f;obtain⟨y,e,i,_⟩:=I.list g;exact HP (I.ok.hd l) i.isList (ku e) hn λw M u t j n m=>⟨.int M,H,I.kept j,⟨_,rfl⟩,q M n m⟩
def jp:bb D->bg RV
 |[.list ds]=>(match lz ds with
  |some a=>if 0<a.length then lD (.fz (.int (Fb a)))else Uh
  |none=>Uh)
 |_=>Uh
theorem tq{K:Ld}:Ks K (Od K) jp:=by
 intro O H xs ds rv Q n m e q;unfold jp at e;split at e
 .split at e
  .rename_i b l
   split at e
   .rename_i hn
    cases e;cases m with
    |cons p o=>cases o;obtain⟨a,vs,rfl,f,r⟩:=EF p;rw[mr r l]at f;refine⟨a,b,rfl,f.sq,hn,λM h g=>?_⟩;obtain⟨j,i⟩:=xk hn;have:M=Fb b:=aeL (i M h) (g _ j);subst this;exact q.at (.int _)
   .cases e
  .cases e
 .cases e
end L10
namespace L3
open PySem L2
structure NI(K:Ld)(f:Uq)(n:Str)(t:Ws):Prop where
 a:UP K UK n=lD (lD (.ref f))
 F:∃fd,Xn K n n t f fd
structure MI(K:Ld)(C f:Uq)(m q:Str)(t:Ws):Prop where
 a:Vi K (.ref C) m=lD (lD (.ref f))
 i:W0 K (.ref f)=Um
 F:∃fd,Xn K m q t f fd
structure CI(K:Ld)(C:Uq)(n:Str)(fs:bb Str):Prop where
 a:UP K UK n=lD (lD (.ref C))
 pg:XA K C Str.empty=Um
 hd:Yg K C=Um
 po:ZK K C=Um
 sa:Vi K (.ref C) "__setattr__"=lD (lD (.builtin "object.__setattr__"))
 mm:aaq K C=Um
 kc:V8 K (.ref C)=Um
 fl:∀x∈fs,Yk K C x
def BA(n q:Str)(t:Ws)(ps:bb Str):Prop:=∀(kV b e:Uj) (f:bg Uq) (g ct:Uj) (a:bb Uj),a.length=ps.length->bindArgs (VY n q (gr t) (cC t) (aB t) .none kV b e f g ct) ⟨a,[]⟩=pure (ps.zip a)
section
variable{P:US}{w:Vb}{K:Ld}{mg:Str->bg Uj}{base h:Heap}{f C:Uq}{n m q:Str}{t:Ws}{ps fs:bb Str}{Z k:Nat}{sp sp':Sp}
theorem CI.cls(c:CI K C n fs):Cls K C:=⟨c.pg,c.hd,c.po,c.sa⟩
theorem CI.cf(c:CI K C n fs):L10.gz K n fs:=⟨C,c.a,c.cls,c.fl⟩
theorem NI.cal(i:NI K f n t)(X:K.In h)(G:h.Ns UK mg)(b:BA n n t ps)(ok:∀fd,Xn K n n t f fd->FnOk P w K mg base d4 Z f fd ps sp):z8 P w K mg base Z n ps sp:=
 let⟨fd,z⟩:=i.F;⟨f,fd,ok fd z,z.binds b,z.kp,Wd X G i.a⟩
theorem NI.law(i:NI K f "law" t)(X:K.In h)(G:h.Ns UK mg)(b:mg "law"=lD (.ref fa))(p:BA "law" "law" t [x])(ok:∀base fd,Xn K "law" "law" t f fd->FnOk P w K mg base d4 Z f fd [x] sp):∃fd:Vz,(∀(s:Ur) (v:Uj),Zn s fd ⟨[v],[]⟩ [(x,v)])/\∀base:Heap,K.In base->base.Ns UK mg->FnOk P w K mg base d4 Z fa fd [x] sp:=by have e:=b.symm.trans (Wd X G i.a);cases e;obtain⟨fd,z⟩:=i.F;obtain⟨A,y,kV,g,j,r,u,ct,l,rfl,B,o⟩:=z.ex;exact⟨_,λs v=>.of_eq (p kV g j r u ct [v] rfl),λbase _ _=>ok base _ z⟩
theorem Ew(a:Wt k A):A.units+65<cLine:=by have:=a.un;ext
theorem Gj(p:SO K E u g)(h:PSs X b u):∃t,PSs X b t/\SO K E t g:=⟨_,h,p⟩
theorem zw(p:L10.pU K E u g)(h:PSs X b u):∃t,PSs X b t/\L10.pU K E t g:=⟨_,h,p⟩
theorem pf{x a:Str}{b:Ws}{fd:Vz}{N:bb Str}{n m:Nat}{g:FS}{j:FN}(F:Xn K x a b f fd)(S:WL N ps (aB b))(hn:ps.length=n)(hm:N.length=m)(l:j=ii m g)
  (o:∀(e:Uj) (A:U4) (outer:bb Env) (s:Ur) (H:Hp) (E:XK),N.Nodup->Wt k (A.deeper (U0 a (aB b) s.heap.objs.size f e))->(A.deeper (U0 a (aB b) s.heap.objs.size f e)).units+64<cLine->(A.deeper (U0 a (aB b) s.heap.objs.size f e)).units+1<cLine->(A.deeper (U0 a (aB b) s.heap.objs.size f e)).units+65<cLine->
   ∃t,PSs (gb d4 P w K mg base N a (aB b) f e A outer s H E).nox (cC b) t/\SO K E t g):FnOk P w K mg base d4 (k+1) f fd ps (pT K n j):=
 TZ F S hn hm l λe A outer s H E i=>o e A outer s H E S.nd i i.units (Eo i) (Ew i)
theorem kQ{n m:Nat}(F:Xn K x qual st f fd)(S:WL N ps (aB st))(hn:ps.length=n)(hm:N.length=m)(e:FF=L10.c9 m g)
  (i:∀(a:Uj) (A:U4) (outer:bb Env) (s:Ur) (H:Hp) (E:XK),N.Nodup->Wt k (A.deeper (U0 qual (aB st) s.heap.objs.size f a))->(A.deeper (U0 qual (aB st) s.heap.objs.size f a)).units+64<cLine->(A.deeper (U0 qual (aB st) s.heap.objs.size f a)).units+1<cLine->(A.deeper (U0 qual (aB st) s.heap.objs.size f a)).units+65<cLine->
   ∃t,PSs (gb d4 P w K mg base N qual (aB st) f a A outer s H E).nox (cC st) t/\L10.pU K E t g):FnOk P w K mg base d4 (k+1) f fd ps (L10.dg K n FF):=
 L10.T5 F S hn hm e λa A outer s H E b=>i a A outer s H E S.nd b b.units (Eo b) (Ew b)
theorem LZ{W:Uq}{a:Array Uj}{g:Nat}{ss:Array (bg Uj)}{xs:bb V}{ds:bb D}(l:K.lookup W=lD ⟨.type "tuple",Uh,.seq a g,ss⟩)(e:a.size<=UB)(b:Vals xs a.toList)(hd:∀O H,V9 O K H xs ds):∀O H,DV O K H (.ref W) (.tuple ds):=λO H=>
 .tup (xs:=xs) ⟨.inr ⟨_,_,_,l,⟨rfl,rfl⟩,rfl,e,b⟩,λ_=>.inr ⟨_,_,_,l,⟨rfl,rfl⟩,rfl,e,b⟩⟩ (hd O H)
end
end L3
namespace LD
open PySem PyProof.Rows L2 L3
def l9(xs:bb (KD×Uq×V))(k:KD):bg V:=(xs.find? λx=>decide (x.1=k)).map (·.2.2)
def nj(xs:bb (KD×Uq×V))(k:KD)(b:Uq)(v:V):bb (KD×Uq×V):=
 if(xs.find? λx=>decide (x.1=k)).isSome=Um then xs.map (λx=>if x.1=k then(x.1,x.2.1,v)else x)else xs++[(k,b,v)]
abbrev RX:bb (KD×Uq×V)->bb (KD×Uq×Uj)->Prop:=Paired λx y=>x.1=y.1/\x.2.1=y.2.1/\RelV x.2.2 y.2.2
theorem yN:∀{xs:bb (KD×Uq×V)} {a:bb (KD×Uq×Uj)},RX xs a->xs.map (·.1)=a.map (·.1)
 |_,_,.nil=>rfl
 |_,_,.cons h t=>by rw[UJ,UJ,h.1,yN t]
theorem xO:∀{xs:bb (KD×Uq×V)} {a:bb (KD×Uq×Uj)},RX xs a->Ys (l9 xs k) ((atKey a k).map (·.2))
 |_,_,.nil=>by unfold l9 atKey;exact trivial
 |x::xs,y::a,.cons h t=>by
  unfold l9 atKey;rw[Ve,Ve,h.1];by_cases e:y.1=k
  .rw[aE e];exact h.2.2
  .rw[aP e];exact xO t
theorem EJ:∀{xs:bb (KD×Uq×V)} {a:bb (KD×Uq×Uj)},RX xs a->(xs.find? λx=>decide (x.1=k)).isSome=(atKey a k).isSome
 |_,_,.nil=>rfl
 |x::xs,y::a,.cons h t=>by
  unfold atKey;rw[Ve,Ve,h.1];by_cases e:y.1=k
  .rw[aE e];rfl
  .rw[aP e];exact EJ t
theorem Jy(r:RelV v u):∀{xs:bb (KD×Uq×V)} {a:bb (KD×Uq×Uj)},RX xs a->RX (xs.map λx=>if x.1=k then(x.1,x.2.1,v)else x) (a.map (putAt k u))
 |_,_,.nil=>.nil
 |x::xs,y::a,.cons h t=>by
  rw[UJ,UJ];refine .cons ?_ (Jy r t);unfold putAt;by_cases e:y.1=k
  .rw[av (h.1.trans e),av e];exact⟨h.1,h.2.1,r⟩
  .rw[ax (by rw[h.1];exact e),ax e];exact h
theorem DN(h:x.1=y.1/\x.2.1=y.2.1/\RelV x.2.2 y.2.2):∀{xs:bb (KD×Uq×V)} {a:bb (KD×Uq×Uj)},RX xs a->RX (xs++[x]) (a++[y])
 |_,_,.nil=>.cons h .nil
 |_,_,.cons g t=>.cons g (DN h t)
theorem Jo(r:RelV v u)(h:RX xs ys):RX (nj xs k b v) (storedH ys k b u):=by
 unfold nj storedH;rw[EJ h];split
 .exact Jy r h
 .exact DN ⟨rfl,rfl,r⟩ h
theorem rK(xs:bb (KD×Uq×V))(k:KD)(b:Uq)(v:V):(nj xs k b v).length<=xs.length+1:=by
 unfold nj;split
 .rw[Ui];ext
 .rw[Uo];exact Ux _
def uc(K:Ld)(H:Hp)(xs:bb (KD×Uq×V)):Prop:=∀x∈xs,L2.DV K H (.ref x.2.1) x.1.1
section
variable{X:Cx}{Z:bb (Uq×Obj)}{Y:L2.St}{H:Hp}{s:Ur}{a b:Uq}{xs:bb (KD×Uq×V)}{k:KD}{v:V}{u r:Uj}{A:U4}{E:Uj->Ur->Prop}
theorem Ob:∀{xs:bb (KD×Uq×V)} {es:bb XM},Paired (λ(x:KD×Uq×V) (e:XM)=>e.hash=ur w x.1.1/\e.key=.ref x.2.1/\RelV x.2.2 e.val) xs es->∃ys,RX xs ys/\es=ys.map (entryOfKey (jc P w))
 |_,_,.nil=>⟨[],.nil,rfl⟩
 |x::_,e::_,.cons ⟨h1,h2,h3⟩ t=>by obtain⟨ys,g,f⟩:=Ob t;refine⟨(x.1,x.2.1,e.val)::ys,.cons ⟨rfl,rfl,h3⟩ g,?_⟩;rw[UJ,<-f];obtain⟨i,h,ev⟩:=e;dsimp only at h1 h2;subst h1 h2;rfl
theorem OD:∀{xs:bb (KD×Uq×V)} {f:bb (KD×Uq×Uj)},RX xs f->Paired (λ(x:KD×Uq×V) (e:XM)=>e.hash=ur w x.1.1/\e.key=.ref x.2.1/\RelV x.2.2 e.val) xs (f.map (entryOfKey (jc P w)))
 |_,_,.nil=>.nil
 |_,_,.cons h t=>.cons ⟨by rw[h.1];rfl,by rw[h.2.1];rfl,h.2.2⟩ (OD t)
theorem vd(I:L2.Inv X Z Y H s)(h:L2.DV X.K H (.ref b) k.1):(jc X.prog X.w).is s.heap k b:=L2.DV.reads I h rfl
theorem zG(I:L2.Inv X Z Y H s)(e:H a=lD (DkO a xs))(j:uc X.K H xs):xs.length<=UB/\(a==VW)=Uw/\∃ys,RX xs ys/\s.heap.DictOfH (jc X.prog X.w) a ys:=by
 obtain⟨⟨⟨z,n,nd⟩,o,L,M,G,F,C,B⟩,_⟩:=(show ObjOk X.prog X.w H s.heap a (DkO a xs)from I.VR a _ e);obtain⟨ys,h,J⟩:=Ob B;refine⟨z,n,ys,h,o,L,M,G,F,C,J,?_,by rw[<-yN h];exact nd⟩;have all:∀{l:bb (KD×Uq×V)} {m:bb (KD×Uq×Uj)},RX l m->(∀x∈l,L2.DV X.K H (.ref x.2.1) x.1.1)->∀y∈m,(jc X.prog X.w).is s.heap y.1 y.2.1:=by
  intro l m q
  induction q with
  |nil=>intro _ y f;exact nomatch f
  | @cons p q ps qs hq t ih=>
   intro g y f;rcases U2.mp f with e|f
   .subst e;have:=vd I (g p (UE ..));rw[hq.1,hq.2.1]at this;exact this
   .exact ih (λx i=>g x (UC _ i)) y f
 exact all h j
theorem B9(z:xs.length<=UB)(hd:(a==VW)=Uw)(e:RX xs ys)(dd:h'.DictOfH (jc P w) a ys):ObjOk P w H' h' a (DkO a xs):=by obtain⟨o,f,g,h,n,m,l,y,j⟩:=dd;refine⟨⟨⟨z,hd,by rw[yN e];exact j⟩,o,f,g,h,n,m,by rw[l];exact OD e⟩,⟨o,h⟩,?_⟩;rintro C B ⟨q,o,f,g,t,p⟩ i;exact⟨q,o,f,g,i o t,p⟩
theorem tf(e:A.units+64<cLine):(jc X.prog X.w).room A.in1:=by show A.in1.units+8<cLine;rw[U4.in1_units];ext
theorem Pg(m:A.units+64<cLine)(I:L2.Inv X Z Y H s)(e:H a=lD (DkO a xs))(o:uc X.K H xs)(q:L2.DV X.K H (.ref b) k.1)(g:l9 xs k=lD v)(h:∀w' s',L2.Inv X Z Y H s'->RelV v w'->Q w' s'):
  wpAny (model X.prog X.w) A (getItem (.ref a) (.ref b)) Q E s:=by
 obtain⟨z,y,t,i,dd⟩:=zG I e o;obtain⟨w',l,f⟩:=Ys.some_of (by rw[<-g];exact xO i);obtain⟨p,n,j⟩:=aby.mp l;refine afb (tf m) (vd I q) dd n ?_;rw[j];exact h w' _ (I.tok _) f
theorem Q0(g:A.units+64<cLine)(I:L2.Inv X Z Y H s)(e:H a=lD (DkO a xs))(i:uc X.K H xs)(l:L2.DV X.K H (.ref b) k.1)(h:∀s',L2.Inv X Z Y H s'->Q (.bool (!(l9 xs k).isSome)) s'):
  wpAny (model X.prog X.w) A (Wv .NotIn (.ref b) (.ref a)) Q E s:=by
 obtain⟨z,j,m,f,dd⟩:=zG I e i;refine wpAny_notIn_heap (tf g) (vd I l) j dd ?_;have q:=(xO (k:=k) f).Zb;rw[ZZ]at q;rw[<-q];exact h _ (I.tok _)
theorem O9(m:A.units+64<cLine)(I:L2.Inv X Z Y H s)(e:H a=lD (DkO a xs))(o:uc X.K H xs)(y:L2.DV X.K H (.ref b) k.1)(rv:RelV v r)(C:xs.length<UB)(h:∀s',L2.Inv X Z Y (bM H a (DkO a (nj xs k b v))) s'->Q () s'):
  wpAny (model X.prog X.w) A (setItem (.ref a) (.ref b) r) Q E s:=by
 obtain⟨z,t,j,f,dd⟩:=zG I e o;have l:j.length<=UB:=by rw[<-Paired.length f];exact z
 have i:(nj xs k b v).length<=UB:=by have:=rK xs k b v;ext
 refine afc (hsz:=l) (tf m) (vd I y) dd λB g n=>h _ ?_;have p:∃q,B.get? a=lD q:=let⟨q,_,_,hq,_⟩:=g;⟨q,hq⟩
 exact oV I (by rw[e];exact True.intro) n p (B9 i t (Jo rv f) g)
theorem D0(I:L2.Inv X Z Y H s)(e:H a=lD (DkO a xs)):s.TypeIs (.ref a) "dict"/\(∀b,Uj.ref a=.ref b->∃ob,s.heap.get? b=lD ob/\ob.dict=Uh)/\(a==VW)=Uw:=by obtain⟨⟨⟨z,h,nd⟩,o,l,m,g,f,j,i⟩,_⟩:=(show ObjOk X.prog X.w H s.heap a (DkO a xs)from I.VR a _ e);refine⟨⟨o,g,f.1⟩,λb q=>?_,h⟩;cases q;exact⟨o,g,f.2.1⟩
end
section
variable(K:Ld)
def N7(neg:Bool)(ty g:TE):TE:=λf H Q=>ty f H λy h=>g f h λx e=>∃a b xs k,x=.ref a/\y=.ref b/\e a=lD (DkO a xs)/\uc K e xs/\L2.DV K e (.ref b) k.1/\Q (.bl ((l9 xs k).isSome !=neg)) e
def HR(g ty:TE):TE:=λf H Q=>g f H λx h=>ty f h λy e=>∃a b xs k v,x=.ref a/\y=.ref b/\e a=lD (DkO a xs)/\uc K e xs/\L2.DV K e (.ref b) k.1/\l9 xs k=lD v/\Q v e
def G0(h ty g:TE):TS:=λD e H=>g e H λv j=>h e j λx i=>ty e i λy f=>∃a b xs k,x=.ref a/\y=.ref b/\f a=lD (DkO a xs)/\uc K f xs/\L2.DV K f (.ref b) k.1/\xs.length<UB/\D.nx e (bM f a (DkO a (nj xs k b v)))
def Ih:TE:=λ_ H Q=>∀p,H p=Uh->Q (.ref p) (bM H p (DkO p []))
end
section
variable{X:Cx}{o i e f Z:Vq}{T U tx tv:TE}{pos Y apos Xb:Pos}
theorem adD(v:X.A.units+64<cLine)(hi:PE X i U)(w:PE X o T):PC X .NotIn i o (N7 X.K Um U T):=by intro g s j H Q I h;refine cQ (hi g s j H _ I h) λN m ⟨y,J,F,n,q⟩=>cQ (w g m j J _ F q) λu M ⟨x,G,E,p,a,b,xs,k,B,z,e,r,t,l⟩=>?_;subst B z;obtain rfl:=p;obtain rfl:=n;rw[Bool.bne_true]at l;exact Q0 v E e r t λL C=>⟨.bl _,G,C,rfl,l⟩
theorem ab1(C:X.A.units+64<cLine)(F:PE X o T)(hi:PE X i U)(E:Pv i):PE X (.Subscript o i pos) (HR X.K T U):=by intro j s m H Q I h;refine CW aaT.lookup E (cQ (F j s m H _ I h) λu p ⟨x,O,M,r,w⟩=>cQ (hi j p m O _ M w) λiv S ⟨y,N,n,q,a,b,xs,k,v,J,G,e,z,B,g,t⟩=>?_);subst J G;obtain rfl:=r;obtain rfl:=q;exact⟨(D0 n e).1,Pg C n e z B g λP R L l=>⟨v,N,L,l,t⟩⟩
theorem abV(E:X.A.units+64<cLine)(G:PE X o T)(hi:PE X i U)(C:PE X Z tv)(F:V3 Z (lD (.Subscript o i Y)) pos.line X.env=pure Uw):
  PS X (.Assign [.Subscript o i Y] Z pos) (G0 X.K T U tv):=by
 intro g s j H D I h;refine adx (cQ (C g s j H _ I h) λr m ⟨v,S,Q,rv,w⟩=>cQ (G g m j S _ Q w) λu l ⟨x,R,P,p,t⟩=>cQ (hi g l j R _ P t) λiv s3 ⟨y,H3,O,n,a,b,xs,k,M,L,e,z,B,J,q⟩=>?_) F;subst M L;obtain rfl:=p;obtain rfl:=n;exact O9 E O e z B rv J λs4 N=>⟨j,_,N,q⟩
theorem aaM:PE X (.Dict [] [] pos) Ih:=λa s b H Q I h=>
 wpAny_Dict_empty ⟨.ref s.heap.objs.size,_,I.laid (λ_ _ q=>br _ q) (Ux _) (B9 (Vl _) (beq_eq_false_iff_ne.mpr (dN (UX I.big))) .nil (Heap.DictOfH.new s.heap)),rfl,h _ (I.VR.fresh (Ux _))⟩
end
mutual
def Rc:Up->Up->bg Bool
 |.int i,.int j=>lD (decide (i<j))
 |.str x,.str y=>lD (decide (x.cps.toList<y.cps.toList))
 |.tuple xs,.tuple ys=>Sk xs ys
 |_,_=>Uh
def Sk:bb Up->bb Up->bg Bool
 |[],[]=>lD Uw
 |[],_::_=>lD Um
 |_::_,[]=>lD Uw
 |x::xs,y::ys=>if Up.eqv x y=Um then Sk xs ys else Rc x y
end
end LD
namespace LD
open PySem PyProof.Rows
structure VE(es:bb XM)(UY:bb (Unit×Uj)):Prop where
 vals:es.map (·.val)=UY.map (·.2)
end LD
namespace L10
open PySem PyProof.Rows L2 L3 LD
def lV:SV->bg D
 |.fz d=>if keyD d=Um then lD d else Uh
 |_=>Uh
def Re:SV->bg D
 |.fz d=>lD d
 |_=>Uh
def qZ(Z:bh):SV->bg (Nat×bb (D×D))
 |.rf i=>match Z[i]? with
  |some (.dd UY)=>lD (i,UY)
  |_=>Uh
 |_=>Uh
def gL(UY:bb (D×D))(k:D):bg D:=(UY.find? λa=>Up.eqv a.1 k).map (·.2)
def lh(UY:bb (D×D))(k v:D):bb (D×D):=if(UY.find? λa=>Up.eqv a.1 k).isSome=Um then UY.map (λa=>if Up.eqv a.1 k=Um then(a.1,v)else a)else UY++[(k,v)]
section
variable{B O O':cz}{K:Ld}{E:XK}{H H' R P:Hp}{X α' U S:bb Uq}{Z Z' Z1 Y:bh}{T:L2.St}{ρ:bz}{v:V}{k:KD}
theorem oO(e:lV x=lD d)(h:Xu O K H X v x):∃(k:KD) (b:Uq),k.1=d/\v=.ref b/\L3.DV O K H (.ref b) d:=by
 cases x with
 |fz z=>
  have e:(if keyD z=Um then lD z else Uh)=lD d:=e;by_cases a:keyD z=Um
  .rw[av a]at e
   cases e;have h:=h;cases d with
   |tuple xs=>cases h with
    |tup g f=>exact⟨⟨_,a⟩,_,rfl,rfl,.tup g f⟩
   |_=>simp[keyD]at a
  .rw[ax a]at e;cases e
 |rf i=>cases e
 |tp l=>cases e
theorem wN(s:U8 B K H X Z)(b:Xu (ow B X Z) K H X v x)(h:qZ Z x=lD (i,UY)):Z[i]?=lD (.dd UY)/\∃a xs,X[i]?=lD a/\v=.ref a/\H a=lD (DkO a xs)/\PrD (ow B X Z) K H xs UY:=by
 cases x with
 |fz d=>cases h
 |tp l=>cases h
 |rf j=>
  obtain⟨a,ha,rfl⟩:=b;unfold qZ at h;dsimp only at h;cases q:Z[j]? with
  |none=>rw[q]at h;cases h
  |some c=>
   rw[q]at h;cases c with
   |dd m=>have e:=UH h;cases e;obtain⟨ws,g,f⟩:=s.cel i a _ ha q;exact⟨q,a,ws,ha,rfl,g,f⟩
   |_=>cases h
theorem v9:∀{xs:bb (KD×Uq×V)} {UY:bb (D×D)},PrD O K H xs UY->uc K H xs
 |_,_,.nil=>λ_ h=>nomatch h
 |x::xs,kv::UY,.cons h t=>λy a=>by
  rcases U2.mp a with e|a
  .subst e;rw[h.1];exact h.2.1.plain
  .exact v9 t y a
theorem xz{x:KD×Uq×V}{a:D×D}(h:x.1.1=a.1):decide (x.1=k)=Up.eqv a.1 k.1:=by
 rw[<-h]
 haveI:Decidable (x.1.1=k.1):=Classical.propDecidable _
 rw[GN (fL x.1.2).1 (fL k.2).1];by_cases e:x.1=k
 .rw[aE e,aE (d3 Subtype.val e)]
 .rw[aP e,aP λz=>e (Subtype.ext z)]
theorem pQ:∀{xs:bb (KD×Uq×V)} {UY:bb (D×D)},PrD O K H xs UY->(∀d,gL UY k.1=lD d->∃v,l9 xs k=lD v/\L3.DV O K H v d)/\(gL UY k.1=Uh->l9 xs k=Uh)
 |_,_,.nil=>⟨λx e=>(by cases e),λ_=>rfl⟩
 |x::xs,kv::UY,.cons h t=>by
  unfold gL l9;rw[Ve,Ve,xz h.1];cases Up.eqv kv.1 k.1 with
  |true=>exact⟨λd e=>⟨x.2.2,rfl,by cases e;exact h.2.2⟩,λe=>by cases e⟩
  |false=>exact pQ t
theorem Br(h:PrD O K H xs UY):(l9 xs k).isSome=(gL UY k.1).isSome:=by
 obtain⟨b,a⟩:=pQ h;cases q:gL UY k.1 with
 |none=>rw[a q];rfl
 |some x=>obtain⟨u,e,_⟩:=b x q;rw[e];rfl
theorem Kj:∀{xs:bb (KD×Uq×V)} {UY:bb (D×D)},PrD O K H xs UY->(xs.find? λx=>decide (x.1=k)).isSome=(UY.find? λkv=>Up.eqv kv.1 k.1).isSome
 |_,_,.nil=>rfl
 |x::xs,kv::UY,.cons h t=>by
  rw[Ve,Ve,xz h.1];cases Up.eqv kv.1 k.1 with
  |true=>rfl
  |false=>exact Kj t
theorem NZ(a:L3.DV O K H v d):∀{xs:bb (KD×Uq×V)} {UY:bb (D×D)},PrD O K H xs UY->PrD O K H (xs.map λx=>if x.1=k then(x.1,x.2.1,v)else x) (UY.map λkv=>if Up.eqv kv.1 k.1=Um then(kv.1,d)else kv)
 |_,_,.nil=>.nil
 |x::xs,kv::UY,.cons h t=>by
  rw[UJ,UJ];refine .cons ?_ (NZ a t);have e:=xz (k:=k) h.1;by_cases z:x.1=k
  .rw[av z,av (by rw[<-e];exact aE z)];exact⟨h.1,h.2.1,a⟩
  .rw[ax z,ax (by rw[<-e,aP z];simp)];exact h
theorem AL(r:x.1.1=kv.1/\L3.DV O K H (.ref x.2.1) kv.1/\L3.DV O K H x.2.2 kv.2):∀{xs:bb (KD×Uq×V)} {UY:bb (D×D)},PrD O K H xs UY->PrD O K H (xs++[x]) (UY++[kv])
 |_,_,.nil=>.cons r .nil
 |_,_,.cons g t=>.cons g (AL r t)
theorem z9(e:L3.DV O K H (.ref b) k.1)(a:L3.DV O K H v d)(h:PrD O K H xs UY):PrD O K H (nj xs k b v) (lh UY k.1 d):=by
 unfold nj lh;rw[Kj h];split
 .exact NZ a h
 .exact AL ⟨rfl,e,a⟩ h
theorem Ke(e:Ev O H O' H')(h:PrD O K H xs UY):PrD O' K H' xs UY:=Paired.Yv h λ_ _ q=>⟨q.1,q.2.1.ev e,q.2.2.ev e⟩
def D4(neg:Bool)(fk fd:dI):dI:=λρ Z=>(fk ρ Z).bind λx Z1=>(fd ρ Z1).bind λo Y=>(RS.Vm Y (lV x)).bind λk Y=>(RS.Vm Y (qZ Y o)).bind λp Y=>.ok (.fz (.bool ((gL p.2 k).isSome !=neg))) Y
theorem IE(r:cW K E tk fk)(hd:cW K E td fd):cW K E (N7 K neg tk td) (D4 neg fk fd):=by intro B T H X Z ρ Q s f w;refine r B T H X Z ρ _ s f (w.bind.imp λx U Z1 R A l j v p=>?_);refine hd B T R U Z1 ρ _ l (f.WN A) (j.bind.imp λo S Y P z g e u q=>?_);obtain⟨d,n,e⟩:=WS.Vm e;obtain⟨⟨i,UY⟩,m,e⟩:=WS.Vm e;obtain⟨_,a,xs,ha,rfl,y,h⟩:=wN g q m;obtain⟨k,b,rfl,rfl,t⟩:=oO n (p.WN z);refine⟨a,b,xs,k,rfl,rfl,y,v9 h,t.plain,?_⟩;rw[Br h];exact WS.now g e _ (.bl _)
def rC(fd fk:dI):dI:=λρ Z=>(fd ρ Z).bind λo Z1=>(fk ρ Z1).bind λx Y=>(RS.Vm Y (lV x)).bind λk Y=>(RS.Vm Y (qZ Y o)).bind λp Y=>(RS.Vm Y (gL p.2 k)).bind λd Y=>.ok (.fz d) Y
theorem wj(hd:cW K E td fd)(C:cW K E tk fk):cW K E (HR K td tk) (rC fd fk):=by intro B T H X Z ρ Q s f w;refine hd B T H X Z ρ _ s f (w.bind.imp λo U Z1 R J m j u A=>?_);refine C B T R U Z1 ρ _ m (f.WN J) (j.bind.imp λx S Y P I g e v t=>?_);obtain⟨d,q,e⟩:=WS.Vm e;obtain⟨⟨i,UY⟩,p,e⟩:=WS.Vm e;obtain⟨_,a,xs,ha,rfl,G,h⟩:=wN g (A.WN I) p;obtain⟨k,b,rfl,rfl,F⟩:=oO q t;obtain⟨y,n,e⟩:=WS.Vm e;obtain⟨z,r,l⟩:=(pQ h).1 y n;exact⟨a,b,xs,k,z,rfl,rfl,G,v9 h,F.plain,r,WS.now g e z l⟩
def ud(fd fk fv:dI):fu:=λρ Z=>(fv ρ Z).bind λy Z1=>(fd ρ Z1).bind λo Y=>(fk ρ Y).bind λx a=>(RS.Vm a (lV x)).bind λk a=>(RS.Vm a (qZ a o)).bind λp a=>(RS.Vm a (Re y)).bind λd a=>if p.2.length<1000000 then .ok (.nx ρ) (a.set p.1 (.dd (lh p.2 k d)))else .bad
theorem OY(e:Re x=lD d)(h:Xu O K H X v x):L3.DV O K H v d:=by
 cases x with
 |fz z=>cases e;exact h
 |rf i=>cases e
 |tp l=>cases e
theorem wF(hd:cW K E td fd)(hk:cW K E tk fk)(hv:cW K E tv fv):pU K E (G0 K td tk tv) (ud fd fk fv):=by
 intro B T H X Z ρ D s g w;refine hv B T H X Z ρ _ s g (WS.imp (WS.bind w) λy U Z1 R r L I t m=>?_);refine hd B T R U Z1 ρ _ L (g.WN r) (WS.imp (WS.bind I) λo S Y P q J G u hu=>?_);refine hk B T P S Y ρ _ J (g.WN (r.trans q)) (WS.imp (WS.bind G) λx e h j p A f z hz=>?_);obtain⟨kd,Q,f⟩:=WS.Vm f;obtain⟨⟨i,UY⟩,N,f⟩:=WS.Vm f;obtain⟨d,M,f⟩:=WS.Vm f;obtain⟨l,a,xs,ha,rfl,g1,n⟩:=wN A (hu.WN p) N;obtain⟨k,b,rfl,rfl,C⟩:=oO Q hz;have hy:=OY M (m.WN (q.trans p));dsimp only at f;by_cases hn:UY.length<1000000
 .rw[av hn]at f;have ev:Ev (ow B e h) j (ow B e h) (bM j a (DkO a (nj xs k b t))):=qS ha l (by nofun);have F:Wh e h j e (h.set i (.dd (lh UY k.1 d))) (bM j a (DkO a (nj xs k b t))):=Wh.put ha l (by nofun) (by nofun);have hl:=Paired.length n;refine⟨a,b,xs,k,rfl,rfl,g1,v9 n,C.plain,uU (by ext),?_⟩;exact f e _ F (A.put ha l (by nofun) (by nofun) ⟨_,aV,z9 (C.ev ev) (hy.ev ev) (Ke ev n)⟩) T ((g.WN (r.trans (q.trans p))).WN F)
 .rw[ax hn]at f;exact f.elim
def u9:dI:=λ_ Z=>.ok (.rf Z.length) (Z++[.dd []])
theorem qU:cW K E Ih u9:=by intro B T H X Z ρ Q s b w;exact λp a=>pk s a w λ_=>⟨[],aV,.nil⟩
end
end L10
namespace L3
open PySem PyProof.Rows L2
structure aaN(K:Ld)(x qual:Str)(st:Ws)(f:Uq)(fd:Vz)(T:Uq)(Vh:Array Uj):Prop where
 ex:∃(oc:Uj) (od:bg Uq) (kV doc pm:Uj) (an:bg Uq) (VV ct:Uj) (osl:Array (bg Uj)),
  fd=VY x qual (gr st) (cC st) (aB st) (.ref T) kV doc pm an VV ct/\K.lookup f=lD ⟨oc,od,.func fd,osl⟩/\X7 K VV qual=Um
 kp:V8 K (.ref f)=Um
 tp:∃o n,K.lookup T=lD o/\o.data=.seq Vh n
section
variable{P:US}{w:Vb}{K:Ld}{mg:Str->bg Uj}{base:Heap}{x Z:Str}{Y:Ws}{f:Uq}{fd:Vz}{T:Uq}{Vh:Array Uj}{N ps:bb Str}{k n m:Nat}{sp:Sp}{ds:bb Uj}
theorem aaN.binds(F:aaN K x Z Y f fd T Vh)
  (h:∀(kV a b:Uj) (e:bg Uq) (g ct:Uj) (us:bb Uj),(us++ds).length=ps.length->∃k:bg (Array Uj)->Sem (bb (Str×Uj)),bindArgs (VY x Z (gr Y) (cC Y) (aB Y) (.ref T) kV a b e g ct) ⟨us,[]⟩=seqItems? (.ref T)>>=k/\k (lD Vh)=pure (ps.zip (us++ds))):Binds K fd ps ds:=by
 obtain⟨v,u,kV,a,b,e,g,ct,i,rfl,y,l⟩:=F.ex;obtain⟨o,n,q,p⟩:=F.tp;intro s us X j;obtain⟨k,t,r⟩:=h kV a b e g ct us j;exact Zn.of_defaults (fd:=VY x Z (gr Y) (cC Y) (aB Y) (.ref T) kV a b e g ct) rfl (X _ _ q) p t r
def qL(P:US)(w:Vb)(K:Ld)(mg:Str->bg Uj)(base:Heap)(a:xT)(k:Nat)(x:Str)(ps:bb Str)(dvs:bb V)(sp:Sp):Prop:=
 ∃(f:Uq) (fd:Vz) (ds:bb Uj),FnOk P w K mg base a k f fd ps sp/\Binds K fd ps ds/\Vals dvs ds/\V8 K (.ref f)=Um/\mg x=lD (.ref f)
theorem mL(C:qL X.prog X.w X.K X.mg X.base CX k x ps dvs sp)(o:Wt j X.A)(l:fW CX X E)(ha:PA X (e::es) t)(g:k<=j:=by decide)(q:Gl X x:=by rfl)
  (h:(x==("__debug__":Str))=Uw:=by decide) (r:U1 (e::es) X.env=(Uw,eval e X.env)::U1 es X.env:=by rfl) (a:(backTo pos (U1 es X.env)).any (·.1)=Uw:=by rfl):
  PE X (.Call (.Name x p) (e::es) [] pos) (lj sp dvs E t):=by
 obtain⟨f,fd,ds,F,b,v,i,m⟩:=C;exact DG F (o.mono g) q m i b v l ha h r a
end
end L3
namespace L10
open PySem PyProof.Rows L2 L3
section
variable{P:US}{w:Vb}{K:Ld}{mg:Str->bg Uj}{base:Heap}{x Z:Str}{Y:Ws}{f:Uq}{fd:Vz}{T:Uq}{Vh:Array Uj}{N ps:bb Str}{k n m:Nat}{g:fu}{FF:i8}
theorem RJ(F:aaN K x Z Y f fd T Vh)(S:WL N ps (aB Y))(hn:ps.length=n)(hm:N.length=m)(q:FF=c9 m g)
  (u:∀(a:Uj) (A:U4) (outer:bb Env) (s:Ur) (H:Hp) (E:XK),Wt k (A.deeper (U0 Z (aB Y) s.heap.objs.size f a))->
   ∃t,PSs (gb (L4.jb P w) P w K mg base N Z (aB Y) f a A outer s H E) (cC Y) t/\pU K E t g):FnOk P w K mg base (L4.jb P w) (k+1) f fd ps (dg K n FF):=by
 subst q hm;obtain⟨z,y,kV,r,v,B,a,ct,i,rfl,j,e⟩:=F.ex;refine Kc j e S (λvs H Q E h=>h.1.trans hn.symm) λA outer s H vs Q E p b=>?_;obtain⟨t,l,o⟩:=u a A outer s H E p;exact⟨t,l,Bi (xs:=[]) o b⟩
end
section
variable{K:Ld}{E:XK}
def zY(F:i8)(n:Nat)(es:bb D)(fa:wD):dI:=λρ Z=>(fa ρ Z).bind λxs a=>if(xs++es.map SV.fz).length=n then F (xs++es.map SV.fz) a else .bad
theorem BT:∀{vs ws:bb V} {xs b:bb SV},W3 O K H α vs xs->W3 O K H α ws b->W3 O K H α (vs++ws) (xs++b)
 |_,_,_,_,.nil,h=>h
 |_,_,_,_,.cons a t,h=>.cons a (BT t h)
theorem wA(hd:∀O H,L3.V9 O K H dvs es)(ha:v3 K E ta fa):cW K E (lj (dg K n F) dvs E ta) (zY F n es fa):=by
 intro B g H α Z ρ Q s h w;refine ha B g H α Z ρ _ s h (w.bind.imp λxs a f l m i e vs j=>?_);by_cases hn:(xs++es.map SV.fz).length=n
 .rw[av hn]at e;have b:=BT j (kI (ow B a f) a (hd (ow B a f) l));exact⟨b.length.trans hn,B,a,f,_,i,b,e⟩
 .rw[ax hn]at e;exact e.elim
end
end L10
namespace L4
open PySem PyProof.Rows L2 L3
def aaK(h:Heap)(e:Uq)(c:Uj)(dx:bg Uq)(a:Uj)(T:Uq)(v:Uj):Prop:=
 ∃ob fs,h.get? e=lD ob/\ob.cls=c/\ob.dict=dx/\ob.data=.fields fs/\fs[0]?=lD a/\fs[1]?=lD (.ref T)/\T≠e/\∃oT ts,h.get? T=lD oT/\oT.data=.fields ts/\ts[3]?=lD v
section
variable{M:adg}{A:U4}{E:Uj->Ur->Prop}{s:Ur}
theorem vn
  (C:A.frames=lD (env::outer)) (r:s.heap.FunFrames base (env::outer)) (B:env.frame=lD L) (t:s.heap.get? e=lD ob) (h:ob.data=.fields fs) (p:1<fs.size) (F:fs[0]?=lD a0)
  (k:∀h' T,s.heap.objs.size<=T->aaK h' e ob.cls ob.dict a0 T (rawInt L)->Lft (env::outer) e Uh s.heap h'->Q () {s with heap:=h'}):
  wpAny M A (frameOf env>>=λfr=>entryPlaceOf L nx>>=λpl=>EntryCells.newEntry hv fr .none (rawInt L) .none pl>>=λb=>setField (.ref e) 1 b) Q E s:=by
 have g:e∉(env::outer).filterMap (·.frame):=λz=>by obtain⟨_,o,q,n⟩:=r.mem z;rw[t]at q;cases q;exact n fs h
 refine Ug (afQ C r B λa S=>?_);refine Ug (afd λpl P=>?_);unfold EntryCells.newEntry newFields;refine Ug (VF ?_ (P.sizeOk5 _ _ _ _ _));have l:=(S.2.1 e g).trans t;generalize hN:({cls:=.type "traceback",dict:=Uh,data:=.fields ([hv,.ref L,.none,rawInt L,.none]++(if pl.isEmpty then Uz 6 Uj.none else pl)).toArray}:Obj)=N;have u:N.data=.fields ([hv,.ref L,.none,rawInt L,.none]++(if pl.isEmpty then Uz 6 Uj.none else pl)).toArray:=by rw[<-hN]
 have G:=dt u;have j:=br N l;refine VS j h p ?_;have m:=VN (bP l);have v:=dk h (·.setIfInBounds 1 (Uj.ref a.objs.size));have i:=cv (Obj.mapFields (·.setIfInBounds 1 (Uj.ref a.objs.size))) j (dt v)
 have w:=
  (cn (a.push N) (Obj.mapFields (·.setIfInBounds 1 (Uj.ref a.objs.size))) m.symm).trans (cj a G)
 have Yt:∀b o,b≠e->a.get? b=lD o->((a.push N).update e (Obj.mapFields (·.setIfInBounds 1 (Uj.ref a.objs.size)))).get? b=lD o:=λb o ne q=>by rw[cn _ _ ne.symm];exact br N q
 refine k _ a.objs.size (by rw[S.1];exact Ux _) ⟨_,_,i,Obj.cls_mapFields _ _,?_,v,?_,?_,m,_,_,w,u,?_⟩ ⟨λb o q ne _ y=>Yt b o ne ((S.2.1 b y).trans q),λb o q ne _=>?_,λb o q=>?_⟩
 .cases ob with
  |mk c d H f=>cases H<;>rfl
 .rw[XF (by decide)];exact F
 .simp[p]
 .rfl
 .obtain⟨f,z⟩:=S.2.2 b o q;exact⟨f,Yt b _ ne z⟩
 .by_cases ne:b=e
  .subst ne;exact⟨_,i⟩
  .obtain⟨f,z⟩:=S.2.2 b o q;exact⟨_,Yt b _ ne z⟩
theorem PF{base:Heap}{env:Env}{outer:bb Env}{L e:Uq}{c B:Uj}{dx hd:bg Uq}{Q:Unit->Ur->Prop}
  (v:A.frames=lD (env::outer)) (u:s.heap.FunFrames base (env::outer)) (h:env.frame=lD L) (F:Fh s.heap e c dx B hd)
  (k:∀h' T,s.heap.objs.size<=T->aaK h' e c dx B T (rawInt L)->Lft (env::outer) e hd s.heap h'->Q () {s with heap:=h'}):wpAny M A (noteFrame (.ref e) env) Q E s:=by
 obtain⟨O,fs,q,J,I,d,w,r⟩:=F;subst J I;cases hd with
 |none=>have r:fs[1]?=lD .none:=r;unfold noteFrame;simp only[h];refine Ug (U7 q d r ?_);rw[ax (by decide)];exact vn v u h q d (U3.mp r).1 w k
 |some T=>
  obtain⟨r,G,P,C,g,dT,p⟩:=r;unfold noteFrame;simp only[h];refine Ug (U7 q d r ?_);rw[av (show(Uj.ref T !=Uj.none)=Um from by simp)];refine Ug (U7 g dT p ?_);rw[ax (show¬((Uj.none==rawInt L)=Um)from by simp[rawInt])];refine Ug (VS g dT (U3.mp p).1 ?_);have f:∀b,b≠T->(s.heap.update T (Obj.mapFields (·.setIfInBounds 3 Uj.none))).get? b=s.heap.get? b:=λb ne=>cn _ _ ne.symm;have a:=cv (Obj.mapFields (·.setIfInBounds 3 Uj.none)) g (dt (dk dT _));have m:∀b o,s.heap.get? b=lD o->(∀vs,o.data≠.fields vs)->b≠T:=λb o z n y=>by rw[y,g]at z;cases z;exact n C dT
  refine vn v (u.of_keeps λb o z n=>⟨o,(f b (m b o z n)).trans z,rfl⟩) h ((f e G.symm).trans q) d (U3.mp r).1 w λh' K t N i=>k h' K (by rw[Heap.size_after_update]at t;exact t) N ⟨λb o z l j H=>?_,λb o z l j=>?_,λb o z=>?_⟩
  .exact i.keep b o ((f b λy=>j (by rw[y])).trans z) l (by simp) H
  .exact i.slot b o ((f b λy=>j (by rw[y])).trans z) l (by simp)
  .by_cases y:b=T
   .subst y;exact i.here b _ a
   .exact i.here b o ((f b y).trans z)
theorem FD{base:Heap}{env:Env}{outer:bb Env}{L e T:Uq}{c G v:Uj}{dx:bg Uq}{Q:Unit->Ur->Prop}
  (P:A.frames=lD (env::outer)) (O:s.heap.FunFrames base (env::outer)) (B:env.frame=lD L) (F:aaK s.heap e c dx G T v)
  (k:∀h' T',(T'=T\/s.heap.objs.size<=T')->Fh h' e c dx G (lD T')->Lft (env::outer) e (lD T) s.heap h'->Q () {s with heap:=h'}):wpAny M A (leaving env (.ref e)) Q E s:=by
 obtain⟨I,fs,q,N,K,d,C,r,m,S,H,h,dT,t⟩:=F;subst N K;have f:∀b,b≠T->(s.heap.update T (Obj.mapFields (·.setIfInBounds 3 Uj.none))).get? b=s.heap.get? b:=λb ne=>cn _ _ ne.symm;have a:=cv (Obj.mapFields (·.setIfInBounds 3 Uj.none)) h (dt (dk dT _));have l:=(U3.mp t).1;unfold leaving noteFrame;simp only[B];refine Ug (Ug (U7 q d r ?_));rw[av (show(Uj.ref T !=Uj.none)=Um from by simp)];refine Ug (U7 h dT t ?_);by_cases u:(v==rawInt L)=Um
 .rw[av u]
  refine Ut ?_;unfold setFlight;refine Ug (U7 q d r ?_);rw[av (show(Uj.ref T !=Uj.none)=Um from by simp)];refine VS h dT l ?_;refine k _ T (.inl rfl) ⟨I,fs,(f e m.symm).trans q,rfl,rfl,d,C,r,m,_,_,a,dk dT _,?_⟩ ⟨λb o z i g _=>?_,λb o z i g=>⟨o.slots,?_⟩,λb o z=>?_⟩
  .rw[V7 l]
  .exact(f b λy=>g (by rw[y])).trans z
  .exact(f b λy=>g (by rw[y])).trans z
  .by_cases y:b=T
   .subst y;exact⟨_,a⟩
   .exact⟨o,(f b y).trans z⟩
 .rw[ax u]
  refine Ug (VS h dT l ?_);have p:∀b o,s.heap.get? b=lD o->(∀vs,o.data≠.fields vs)->b≠T:=λb o z n y=>by rw[y,h]at z;cases z;exact n H dT
  refine jd P (O.of_keeps λb o z n=>⟨o,(f b (p b o z n)).trans z,rfl⟩) B ((f e m.symm).trans q) d (U3.mp r).1 C λh' T' w R j=>k h' T' (.inr (by rw[Heap.size_after_update]at w;exact w)) R ⟨λb o z i g J=>?_,λb o z i g=>?_,λb o z=>?_⟩
  .exact j.keep b o ((f b λy=>g (by rw[y])).trans z) i (by simp) J
  .exact j.slot b o ((f b λy=>g (by rw[y])).trans z) i (by simp)
  .by_cases y:b=T
   .subst y;exact j.here b _ a
   .exact j.here b o ((f b y).trans z)
theorem Kz{g:Env}{h:String}{e T:Uq}{c m v:Uj}{dx:bg Uq}{Q:Uj->Ur->Prop}(F:aaK s.heap e c dx m T v)
  (k:∀h' v',aaK h' e c dx m T v'->(∀b o,b≠T->s.heap.get? b=lD o->h'.get? b=lD o)->(∃o,h'.get? T=lD o)->E (.ref e) {s with heap:=h'}):wpAny M A (afe h (.ref e) g:Sem Uj) Q E s:=by
 obtain⟨t,fs,q,w,u,d,y,r,l,C,B,j,dT,p⟩:=F;subst w u;have i:=(U3.mp p).1;unfold afe;refine Ug (U7 q d r ?_);rw[ax (show¬((Uj.ref T==Uj.none)=Um)from by simp)];unfold setFlight;refine Ug (Ug (U7 q d r ?_));rw[av (show(Uj.ref T !=Uj.none)=Um from by simp)];refine VS j dT i (wpAny_throw ?_);have n:∀b,b≠T->(s.heap.update T (Obj.mapFields (·.setIfInBounds 3 (g.frame.elim Uj.none λf=>rawInt f)))).get? b=s.heap.get? b:=λb ne=>cn _ _ ne.symm;have a:=cv (Obj.mapFields (·.setIfInBounds 3 (g.frame.elim Uj.none λf=>rawInt f))) j (dt (dk dT _));exact k _ _ ⟨t,fs,(n e l.symm).trans q,rfl,rfl,d,y,r,l,_,_,a,dk dT _,V7 i⟩ (λb o ne z=>(n b ne).trans z) ⟨_,a⟩
end
end L4
namespace L2
open PySem PySem.Spec PyProof.Rows
def TX(Y:Cx)(E:XK):Uj->Ur->Prop:=λx a=>∃pins σ1 H1 e c dx a0 hd,x=.ref e/\Inv Y pins σ1 H1 a/\L4.Fh a.heap e c dx a0 hd/\(Y.s₀.heap.get? e=Uh\/e∈Y.ex)/\(∀T,hd=lD T->Y.s₀.heap.get? T=Uh\/T∈Y.ex)/\H1 e=Uh/\(∀T,hd=lD T->H1 T=Uh)/\E c dx H1
end L2
namespace L4
open PySem PyProof.Rows L2 L3
theorem QX{P:US}{w:Vb}{K:Ld}{mg:Str->bg Uj}{base:Heap}{N:bb Str}{i:Str}{a:Xg}{f:Uq}{M:Uj}{A:U4}{outer:bb Env}{g:Ur}{Q:Hp}{E:XK}
  {m:bb (Uq×Obj)} {R:L2.St} {H:Hp} {s:Ur} {e T:Uq} {c O v:Uj} {dx:bg Uq} (I:L2.Inv (gb (jb P w) P w K mg base N i a f M A outer g Q E) m R H s)
  (F:aaK s.heap e c dx O T v) (J:g.heap.get? e=Uh) (G:g.heap.get? T=Uh) (ne:H e=Uh) (u:H T=Uh) (q:E c dx H):
  (gb (jb P w) P w K mg base N i a f M A outer g Q E).xe (.ref e) s:=by
 have hA:=I.ok.frames;have hF:=I.stack;refine FD (L:=g.heap.objs.size) hA hF rfl F λh' t j F' L=>?_;have X:=L.VR I.VR ne (λT1 z=>by cases z;exact u) I.ZY;have sz:=I.sz;have Z:H t=Uh:=by
  rcases j with e|j
  .rw[e];exact u
  .exact I.VR.fresh j
 have gT:g.heap.get? t=Uh:=by
  rcases j with e|j
  .rw[e];exact G
  .exact da (Va sz j)
 have r:∀b o,g.heap.get? b=lD o->b<g.heap.objs.size:=λb o z=>bP z;have h:∀b o,g.heap.get? b=lD o->b≠e/\lD T≠lD b:=λb o z=>⟨(λy=>by rw[y,J]at z;cases z),(λy=>by cases y;rw[G]at z;cases z)⟩;refine⟨e,c,dx,O,t,H,rfl,J,gT,F',ne,Z,I.os,I.bare,?_,X,q⟩;have B:=I.base;refine⟨λb o z n C _=>?_,λb o z n Y _=>?_,λb o z n _=>?_,λb o z _=>?_,B.aaQ,B.aaw,B.aaI⟩
 .have l:=B.keep b o z n C (λy=>nomatch y)
  refine L.keep b o l (h b o z).1 (h b o z).2 λy=>?_;rcases U2.mp (I.ZD b y)with y|y
  .have y:b=g.heap.objs.size:=y;exact a5 (r b o z) (by rw[y];exact VH _)
  .exact C y
 .obtain⟨sl,l⟩:=B.slot b o z n Y (λy=>nomatch y);obtain⟨p,S⟩:=L.slot b _ l (h b o z).1 (h b o z).2;exact⟨p,S⟩
 .exact B.free b o z n (λy=>nomatch y)
 .obtain⟨U,l⟩:=B.there b o z (λy=>nomatch y);exact L.here b U l
def OI(X:Cx)(E:XK):Prop:=∀(a:L2.St) (H:Hp) (s:Ur) (e T:Uq) (c b v:Uj) (dx:bg Uq),L2.Inv X [] a H s->aaK s.heap e c dx b T v->X.s₀.heap.get? e=Uh->X.s₀.heap.get? T=Uh->H e=Uh->H T=Uh->E c dx H->X.xe (.ref e) s
theorem M4{P:US}{w:Vb}{K:Ld}{mg:Str->bg Uj}{base:Heap}{N:bb Str}{b:Str}{a:Xg}{f:Uq}{m:Uj}{A:U4}{outer:bb Env}{g:Ur}{n:Hp}{E:XK}:
  OI (gb (jb P w) P w K mg base N b a f m A outer g n E) E:=λo H s e T c p v dx I F l j i h q=>QX I F l j i h q
theorem Ii{X:Cx}{h:Ur}{l:Hp}{a:Xg}{C:Uq}{N:bb Str}{fp:bb Uq}{E:XK}:
  fW (jb X.prog X.w) ((cL X h l a C N fp).Y6 (TX (cL X h l a C N fp) E)) E:=by
 rintro f m H s x u I ⟨e,c,dx,n,T,t,rfl,le,lT,F,ne,nT,os,bare,un,VR,q⟩;have r:=I.abW (ch:=[]) os un VR bare (λb z=>nomatch z);have g:∀b,s.heap.get? b=Uh->h.heap.get? b=Uh\/b∈fp:=λb z=>by
  by_cases j:b∈fp
  .exact .inr j
  .refine .inl ?_
   cases y:h.heap.get? b with
   |none=>rfl
   |some o=>obtain⟨v,i⟩:=I.base.there b o y j;rw[z]at i;cases i
 exact⟨f,m,t,e,c,dx,n,lD T,rfl,r.XZ,F,g e le,(λp z=>by cases z;exact g T lT),ne,(λp z=>by cases z;exact nT),q⟩
theorem aaK.at{h h':Heap}{e T:Uq}{c a v:Uj}{dx:bg Uq}(F:aaK h e c dx a T v)(k:∀b o,b=e\/b=T->h.get? b=lD o->h'.get? b=lD o):aaK h' e c dx a T v:=by obtain⟨j,fs,q,p,n,d,t,r,m,l,f,i,dT,g⟩:=F;exact⟨j,fs,k _ _ (.inl rfl) q,p,n,d,t,r,m,l,f,k _ _ (.inr rfl) i,dT,g⟩
end L4
namespace L2
open PySem PySem.Spec PyProof.Rows
theorem Inv.ahe{X:Cx}{a:bb (Uq×Obj)}{b:St}{H:Hp}{s:Ur}(I:Inv X a b H s):Inv X [] b H s:=
 ⟨I.ok,I.os,I.bare,I.base,I.loc,I.cell,I.free,I.X2,λp e=>I.pin p (by rw[UT]at e;exact X0 _ e),I.VR,I.len⟩
theorem GZ{X:Cx}{elt tg iter:Vq}{ifs:bb Vq}{scope:Xg}{pos:Pos}(own:bb Str)(fv:bb (Str×Nat)){wi:TI}{g:TG}{tc:TT}{te:TE}{EK:XK}(d5:X.stack=X.env::X.outer/\X.env.frame=lD X.env.locals)(hex:X.ex=[])(hpn:X.pn=[])(PX:L4.OI X EK)(hc:X.calm=Um)(hi:PI X tg iter wi)
  (hg:∀s H C fp,PG (cL X s H scope C (fA own fv) fp) tg g) (ht:∀s H C fp,FK (cL X s H scope C (fA own fv) fp) ifs tc) (he:∀s H C fp,PE ((cL X s H scope C (fA own fv) fp).Y6 (TX (cL X s H scope C (fA own fv) fp) EK)) elt te) (hfv:abZ X scope fv)
  (adM:(scope.names.all λy=> !(y.2==U5.free)||(X.env.scope.names.lookup y.1==lD U5.cell)||(X.env.scope.names.lookup y.1==lD U5.free))=Um)
  (XT:scope.kind=.function:=by rfl) (hnd:(scope.names.map (·.1)).Nodup:=by left)
  (aaL:∀y∈scope.names,y.2=.local->scope.names.lookup y.1=lD .local:=by left) (hs:∀x,foldedSetIterable iter X.env x=pure x:=by intro _;rfl):
  PE X (.ListComp elt [⟨tg,iter,ifs,0⟩] scope pos) (uW own fv wi g tc te):=by
 intro pins s σ H Q I h;have hfr:=G5 adM;rw[akH];refine YW (use:=Uh) rfl hs (oA (mM I.ok hfr)) XT aaL (cQ (hi pins s σ H _ I h) λxv s1 h1=>cQ h1 λitv s2 h2=>?_);obtain⟨it,fp,tn,J,H2,e,I2,T,st2,f2,R⟩:=h2;subst e;refine oo I2 hc XT hnd (mM I.ok hfr) hfv T st2 f2 (λC=>hg _ _ C _) (λC=>ht _ _ C _) (λC=>he _ _ C _) ?_ (Fin:=λD H'=>Q (.ref D) H') R ?_
 .rintro D C x s3 hC ⟨ak5,σ3,H3,e,c,dx,a0,hd,rfl,I3,F,fe,fT,ne,nT,q⟩
  have hsz:s2.heap.objs.size<=s3.heap.objs.size:=I3.sz;show wpAny (model X.prog X.w) X.A (noteFrame (.ref e) X.env) _ _ s3;refine L4.PF (env:=X.env) (outer:=X.outer) (base:=X.base) (L:=X.env.locals) (by rw[<-d5.1];exact I3.ok.frames) (by rw[<-d5.1];exact I3.stack) d5.2 F λh' T' hT F' L=>?_;rw[<-d5.1]at L;obtain⟨m,hm,_⟩:=I3.loc;have hm:s3.heap.Ns C m:=hm;have hn3:H3 C=Uh:=I3.free;have fo:∀b,b=e\/hd=lD b->s2.heap.get? b=Uh\/b∈fp:=λb z=>by
   rcases z with z|z
   .rw[z];exact fe
   .exact fT b z
  have ajS:∀b,b=e\/hd=lD b->∃o vs,s3.heap.get? b=lD o/\o.data=.fields vs:=λb z=>by
   obtain⟨ob,fs,q1,_,_,d,_,r⟩:=F;rcases z with z|z
   .rw[z];exact⟨ob,fs,q1,d⟩
   .subst z;obtain⟨_,_,oT,ts,qT,dT,_⟩:=r;exact⟨oT,ts,qT,dT⟩
  have nC:¬(C=e\/hd=lD C):=λz=>by obtain⟨o,vs,q1,d⟩:=ajS C z;obtain⟨o',es,ep,q2,d2,_⟩:=hm;rw[q1]at q2;cases q2;rw[d]at d2;cases d2
  have nfr:C∉yP X.stack:=λz=>by obtain⟨_,o,qo,_⟩:=I2.stack.mem z;exact a5 (UU (bP qo) hC) (VH _)
  have IX:Inv X [] σ H3 s3:=(I2.abW (ch:=fp) I3.os I3.base I3.VR I3.bare λb hb=>⟨(f2 b hb).2.2.2.1,(f2 b hb).2.1,(f2 b hb).2.2.2.2.1,(f2 b hb).2.2.2.2.2⟩).ahe;have n0:∀b,b=e\/hd=lD b->X.s₀.heap.get? b=Uh:=λb z=>by
   rcases fo b z with y|y
   .cases z0:X.s₀.heap.get? b with
    |none=>rfl
    |some o=>obtain⟨o',z1⟩:=I2.base.there b o z0 (by rw[hex];exact λy=>nomatch y);rw[y]at z1;cases z1
   .rcases(f2 b y).2.2.2.1 with w|w
    .rw[hex]at w;cases w
    .exact da w
  have Ia:Inv X [] σ H3 {s3 with heap:=h'}:=by
   refine L4.uS IX (λb=>b=e\/hd=lD b) hex (by rw[hpn];exact λp hp=>nomatch hp) (λb o z n nf=>L.keep b o z (λy=>n (.inl y)) (λy=>n (.inr y)) nf) (λb o z n=>L.slot b o z (λy=>n (.inl y)) (λy=>n (.inr y))) L.here n0 (λz=>?_) (λx cc z y=>?_) (λb z=>?_)
   .rcases fo _ z with y|y
    .obtain⟨mm,hn,_⟩:=I2.loc;obtain⟨o,_,_,qo,_⟩:=hn;rw[y]at qo;cases qo
    .exact(f2 _ y).2.1 rfl
   .rcases fo _ y with w|w
    .obtain⟨v,o,qo,_⟩:=I2.cell x cc z;rw[w]at qo;cases qo
    .exact(f2 _ w).2.2.2.2.1 x cc z rfl
   .rcases z with z|z
    .rw[z];exact ne
    .exact nT b z
  have nT3:H3 T'=Uh:=I3.VR.fresh hT;refine⟨m,hm.at' λo z=>L.keep C o z (λy=>nC (.inl y)) (λy=>nC (.inr y)) nfr,λh4 sb acE _=>?_⟩;have CT:C<s3.heap.objs.size:=hm.lt;have F4:L4.aaK h4 e c dx a0 T' (rawInt X.env.locals):=F'.at λb o z y=>by
   refine(sb.2 b λw=>?_).trans y;rcases z with z|z
   .exact nC (.inl (w.symm.trans z))
   .have this:T'=C:=z.symm.trans w;rw[this]at hT;exact a5 (UU CT hT) (VH _)
  refine L4.Kz F4 λh5 v' F5 k5 t5=>?_;obtain⟨f0,f1,_,f3,f4,f5⟩:=I2.abi (H':=H3) hC hn3;have Ib:Inv X [] σ H3 {s3 with heap:=h4}:=Ia.turned (t':=s3.toks) (λb o hb z=>(sb.2 b hb).trans z) f0 f1 f3 f4 (by rw[hpn];exact λp hp=>nomatch hp);obtain⟨g0,g1,_,g3,g4,g5⟩:=I2.abi (H':=H3) (Va hsz hT) nT3;have Ic:Inv X [] σ H3 {s3 with heap:=h5}:=Ib.turned (t':=s3.toks) (λb o hb z=>k5 b o hb z) g0 g1 g3 g4 (by rw[hpn];exact λp hp=>nomatch hp);refine PX σ H3 _ e T' c a0 v' dx Ic F5 (n0 e (.inl rfl)) ?_ ne nT3 q;rcases g3 with w|w
  .rw[hex]at w;cases w
  .exact da w
 .intro D C H' s' I' fin hm hC hn;obtain⟨m,hm⟩:=hm;refine⟨m,hm,λh' hs'=>⟨.ref D,H',?_,rfl,fin⟩⟩;obtain⟨f0,f1,_,f3,f4,f5⟩:=I2.abi hC hn;exact I'.turned (t':=s'.toks) (λb o hb q=>(hs'.2 b hb).trans q) f0 f1 f3 f4 f5
end L2
namespace L10
open PySem PyProof.Rows L2 L3
section
variable{B O O':cz}{K:Ld}{E:XK}{H H' H1 H2:Hp}{X α' U α2:bb Uq}{Z Z' Z1 T:bh}{Y:L2.St}{ρ:bz}{v:V}
theorem PY{g:TG}{gt:Bg}(h:KB K E0 g gt):KB K E g (λx ρ Z=>iE (gt x ρ Z)):=λB Y H X Z ρ v x Q s a r w=>h B Y H X Z ρ v x Q s a r (WS.e0 w)
theorem QQ{t:TT}{ft:vM}(h:vT K E0 t ft):vT K E t (λρ Z=>iE (ft ρ Z)):=λB Y H X Z ρ Q s a w=>h B Y H X Z ρ Q s a (WS.e0 w)
def vj(n:Nat)(fj:bb Nat)(a:Lq)(gt:Bg)(ft:vM)(fe:dI):dI:=λρ Z=>(a ρ Z).bind λds Z1=>(cx (λx ρ Z=>iE (gt x ρ Z)) (λρ Z=>iE (ft ρ Z)) fe ds (fy n fj ρ) Z1 []).bind λxs T=>.ok (.rf T.length) (T++[.lst xs])
theorem Fy{own:bb Str}{fv:bb (Str×Nat)}{a:TI}{g:TG}{e:TT}{b:TE}{h:Lq}{gt:Bg}{ft:vM}{fe:dI}{n:Nat}{fj:bb Nat}(hn:own.length=n)(p:fv.map (·.2)=fj)
  (hi:Rb K E a h) (o:KB K E0 g gt) (m:vT K E0 e ft) (q:cW K E b fe):cW K E (uW own fv a g e b) (vj n fj h gt ft fe):=by
 intro B Y H X Z ρ Q s f w;refine hi B Y H X Z ρ _ s f (WS.imp (WS.bind w) λds U Z1 H1 r j i J l=>?_);exact vh hn p (PY o) (QQ m) q j (f.WN r) l i
end
end L10
namespace L3
open PySem L2
section
variable{P:US}{w:Vb}{K:Ld}{mg:Str->bg Uj}{base h:Heap}{f C:Uq}{n m q:Str}{t:Ws}{ps fs:bb Str}{Z k:Nat}{sp sp':Sp}{Y:xT}
theorem MI.ahi(i:MI K C f m q t)(c:CI K C n fs)(b:BA m q t ps)(ok:∀fd,Xn K m q t f fd->FnOk P w K mg base Y Z f fd ps sp):L10.b7 P w K mg base Y Z n m ps sp:=
 let⟨fd,z⟩:=i.F;⟨C,f,fd,c.a,c.cls,⟨i.a,i.i,z.kp⟩,ok fd z,z.binds b⟩
theorem MI.ajQ(i:MI K C f "__init__" q t)(c:CI K C n fs)(X:K.In h)(G:h.Ns UK mg)(b:BA "__init__" q t ps)(ok:∀fd,Xn K "__init__" q t f fd->FnOk P w K mg base Y Z f fd ps sp):L10.ub P w K mg base Y Z n ps sp:=
 let⟨fd,z⟩:=i.F;⟨C,f,fd,c.a,Wd X G c.a,⟨c.mm,i.a,i.i,c.kc⟩,ok fd z,z.binds b⟩
end
end L3
namespace L10
open PySem PySem.Spec PyProof.Rows L2 L3
section
variable{B O O':cz}{K:Ld}{E:XK}{H H' X H2:Hp}{α α' Y α2:bb Uq}{Z Z' Z1 Z2:bh}{σ:L2.St}{ρ:bz}{v:V}
def sX(c f:Str)(fe:dI):fu:=λρ Z=>(fe ρ Z).bind λx Z1=>match x with
 |.fz d=>if L9.RQ d=Um then .er ⟨c,[(f,d)]⟩ Z1 else .bad
 |_=>.bad
theorem Cl(M:UP K UK c=lD (lD (.ref C)))(L:cW K E te fe):pU K E (L9.C0 C (L9.yp C f) E (iH te ng)) (sX c f fe):=by
 intro B σ H α Z ρ D s G w;refine L B σ H α Z ρ _ s G (WS.imp (WS.bind w) λx Y Z1 X Q I a v h=>?_)
 match x,h,a with
 |.fz d,h,a=>
  have h:=h;dsimp only at a;by_cases r:L9.RQ d=Um
  .rw[av r]at a
   have j:L9.SY v/\∀(O':cz) (H':Hp),L3.DV O' K H' v d:=by
    cases d with
    |none=>cases h;exact⟨.inl rfl,λ_ _=>.WA⟩
    |int i=>cases h;exact⟨.inr ⟨i,rfl,a4 r⟩,λ_ _=>.int i⟩
    |_=>cases r
   refine⟨by show 1<=UB;decide,λe hn=>⟨e,v,rfl,j.1,aV,λp F g=>⟨rfl,p,?_,?_⟩⟩⟩
   .rw[aI (dN g),aV]
   .have u:X p=Uh:=by rw[aI g]at F;exact F
    have A:We X (L9.Rn (bM (bM (bM X e (.ext (L9.LQ C e))) e (.ext (L9.Si C e p))) p (.xd [(f,v)])) e):=λb o z=>by
     have t:b≠e:=λy=>by rw[y,hn]at z;cases z
     have J:b≠p:=λy=>by rw[y,u]at z;cases z
     rw[L9.kB t,aI J,aI t,aI t];exact z
    refine a (.ref C) (lD p) Y _ (Wh.same A) (I.grow A) ⟨⟨C,rfl,M⟩,[(f,v)],λP q=>?_,λm N l=>⟨(λz=>nomatch z),?_⟩⟩
    .cases q;rw[L9.kB g,aV]
    .have n:(match m==f with|true=>lD d|false=>WH m [])=lD N:=l
     cases hb:m==f with
     |true=>rw[hb]at n;cases n;refine⟨v,?_,j.2 _ _⟩;show(match m==f with|true=>lD v|false=>WH m [])=lD v;rw[hb]
     |false=>rw[hb]at n;cases n
  .rw[ax r]at a;exact a.elim
 |.rf _,_,a=>exact a.elim
 |.tp _,_,a=>exact a.elim
end
end L10
namespace L10
open PySem L2 L3
section
variable{P:US}{w:Vb}{K:Ld}{mg:Str->bg Uj}{base:Heap}{x Z:Str}{Y:Ws}{f:Uq}{fd:Vz}{T:Uq}{Vh:Array Uj}{N ps:bb Str}{k n m:Nat}{g:fu}{X:i8}
theorem EB(F:Xn K x Z Y f fd)(S:WL N ps (aB Y))(hn:ps.length=n)(hm:N.length=m)(e:X=c9 m g)
  (h:∀(a:Uj) (A:U4) (outer:bb Env) (s:Ur) (H:Hp) (E:XK),N.Nodup->Wt k (A.deeper (U0 Z (aB Y) s.heap.objs.size f a))->(A.deeper (U0 Z (aB Y) s.heap.objs.size f a)).units+64<cLine->(A.deeper (U0 Z (aB Y) s.heap.objs.size f a)).units+1<cLine->(A.deeper (U0 Z (aB Y) s.heap.objs.size f a)).units+65<cLine->
   ∃t,PSs (gb (L4.jb P w) P w K mg base N Z (aB Y) f a A outer s H E) (cC Y) t/\pU K E t g):FnOk P w K mg base (L4.jb P w) (k+1) f fd ps (dg K n X):=
 S9 F S hn hm e λa A outer s H E b=>h a A outer s H E S.nd b b.units (Eo b) (Ew b)
theorem Cz(F:aaN K x Z Y f fd T Vh)(S:WL N ps (aB Y))(hn:ps.length=n)(hm:N.length=m)(e:X=c9 m g)
  (h:∀(a:Uj) (A:U4) (outer:bb Env) (s:Ur) (H:Hp) (E:XK),N.Nodup->Wt k (A.deeper (U0 Z (aB Y) s.heap.objs.size f a))->(A.deeper (U0 Z (aB Y) s.heap.objs.size f a)).units+64<cLine->(A.deeper (U0 Z (aB Y) s.heap.objs.size f a)).units+1<cLine->(A.deeper (U0 Z (aB Y) s.heap.objs.size f a)).units+65<cLine->
   ∃t,PSs (gb (L4.jb P w) P w K mg base N Z (aB Y) f a A outer s H E) (cC Y) t/\pU K E t g):FnOk P w K mg base (L4.jb P w) (k+1) f fd ps (dg K n X):=
 RJ F S hn hm e λa A outer s H E b=>h a A outer s H E S.nd b b.units (Eo b) (Ew b)
end
end L10
namespace L3
open PySem L2
theorem Bq{X:Cx}{P:US}{w:Vb}:fW (L4.jb P w) X E0:=λ_ _ _ _ _ _ _ ⟨_,_,_,_,_,_,_,_,_,_,_,_,_,_,_,_,h⟩=>h.elim
end L3
namespace L10
open PySem PyProof.Rows L2 L3
section
variable{B O O':cz}{K:Ld}{E:XK}{H H' H1 H2:Hp}{α α' Y α2:bb Uq}{Z Z' Z1 Z2:bh}{σ:L2.St}{ρ:bz}{v:V}
def qC(F:i8)(n:Nat)(es:bb D)(fa:wD):dI:=λρ Z=>(fa ρ Z).bind λxs Z1=>if(xs++es.map SV.fz).length=n then iE (F (xs++es.map SV.fz) Z1)else .bad
theorem oz(hd:∀O H,L3.V9 O K H dvs es)(ha:v3 K E ta fa):cW K E (lj (dg K n F) dvs E0 ta) (qC F n es fa):=by
 intro B σ H α Z ρ Q s e w;refine ha B σ H α Z ρ _ s e (w.bind.imp λxs Y Z1 H1 h f b vs g=>?_);by_cases hn:(xs++es.map SV.fz).length=n
 .rw[av hn]at b;have a:=BT g (kI (ow B Y Z1) Y (hd (ow B Y Z1) H1));exact⟨a.length.trans hn,B,Y,Z1,_,f,a,WS.e0 b⟩
 .rw[ax hn]at b;exact b.elim
end
end L10
namespace L10
open PySem L2 L3
def Tt(T:A->bh->Prop)(X:Xc->Prop):RS A->Prop
 |.ok a Z=>T a Z
 |.er x _=>X x
 |.bad=>False
structure Out{A:Type}(r:RS A)(T:A->bh->Prop)(X:Xc->Prop):Prop where
 out:Tt T X r
section
variable{A B:Type}{r r':RS A}{T T':A->bh->Prop}{U:B->bh->Prop}{X:Xc->Prop}{Z:bh}
theorem Out.eq(e:r=r')(h:Out r' T X):Out r T X:=by rw[e];exact h
theorem Out.imp(h:Out r T X)(k:∀a Z,T a Z->T' a Z):Out r T' X:=by
 refine⟨?_⟩;have h:=h.out;cases r with
 |bad=>exact h
 |er x o=>exact h
 |ok a o=>exact k a o h
theorem Out.bind(h:Out r (λa o=>Out (f a o) U X) X):Out (r.bind f) U X:=by
 refine⟨?_⟩;have h:=h.out;cases r with
 |bad=>exact h
 |er x o=>exact h
 |ok a o=>exact(show Out (f a o) U X from h).out
theorem Out.all(h:Out r T λ_=>False):∃a o,r=.ok a o/\T a o:=by
 have h:=h.out;cases r with
 |bad=>exact h.elim
 |er x o=>exact h.elim
 |ok a o=>exact⟨a,o,rfl,h⟩
theorem Out.er(h:Out r (λ_ _=>False) X):∃x o,r=.er x o/\X x:=by
 have h:=h.out;cases r with
 |bad=>exact h.elim
 |er x o=>exact⟨x,o,rfl,h⟩
 |ok a o=>exact h.elim
end
section
variable{ρ ρ1 ρ2:bz}{Z Z1 Y Z3:bh}{x y z:SV}{i n:Nat}{d:D}{ds:bb D}{b:Bool}{f g:fu}{fe:dI}{N:bz->bh->Prop}{T:SV->bh->Prop}{X:Xc->Prop}
def T0(N:bz->bh->Prop)(T:SV->bh->Prop):FlS->bh->Prop
 |.nx ρ,Z=>N ρ Z
 |.rt v,Z=>T v Z
 |_,_=>False
abbrev lA(r:RS FlS)(N:bz->bh->Prop)(T:SV->bh->Prop)(X:Xc->Prop):Prop:=Out r (T0 N T) X
theorem kW(h:lA (f ρ Z) (λr o=>lA (g r o) N T X) T X):lA (aM f g ρ Z) N T X:=by
 refine Out.bind (h.imp λa o k=>?_);cases a with
 |nx r=>exact k
 |rt v=>exact⟨k⟩
 |ct r=>exact k.elim
 |bk r=>exact k.elim
theorem tT(a:f ρ Z=.ok (.nx ρ1) Z1)(h:lA (g ρ1 Z1) N T X):lA (aM f g ρ Z) N T X:=kW (.eq a ⟨h⟩)
theorem yo(a:f ρ Z=.ok (.nx ρ1) Z1)(h:N ρ1 Z1):lA (f ρ Z) N T X:=.eq a ⟨h⟩
theorem dM(e:fe ρ Z=.ok x Z1)(a:gt x ρ Z1=.ok ρ1 Y)(h:lA (g ρ1 Y) N T X):lA (aM (cA fe gt) g ρ Z) N T X:=tT (by unfold cA;rw[e,eh,a,eh]) h
theorem x0(a:Out (fe ρ Z) (λx Z1=>lA (g (ρ.set i (lD x)) Z1) N T X) X):lA (aM (cA fe (cV i)) g ρ Z) N T X:=kW (Out.bind (a.imp λ_ _ k=>⟨k⟩))
theorem Kt(a:Out (fe ρ Z) (λ_ Z1=>lA (g ρ Z1) N T X) X):lA (aM (bS fe) g ρ Z) N T X:=kW (Out.bind (a.imp λ_ _ k=>⟨k⟩))
theorem PB{a j:fu}(e:c ρ Z=.ok Um Z1)(h:lA (aM a g ρ Z1) N T X):lA (aM (cT c a j) g ρ Z) N T X:=by refine .eq ?_ h;unfold aM cT;rw[e,eh,av rfl]
theorem AZ{j a:fu}(e:c ρ Z=.ok Uw Z1)(h:lA (aM a g ρ Z1) N T X):lA (aM (cT c j a) g ρ Z) N T X:=by refine .eq ?_ h;unfold aM cT;rw[e,eh,ax UM]
theorem yI(h:lA (g ρ Z) N T X):lA (aM dH g ρ Z) N T X:=kW ⟨h⟩
theorem yM(a:fe ρ Z=.ok x Z1)(h:T x Z1):lA (gI fe ρ Z) N T X:=.eq (iy a) ⟨h⟩
theorem Ms(a:fe ρ Z=.ok x Z1)(h:T x Z1):lA (aM (gI fe) g ρ Z) N T X:=kW (yM a h)
theorem Eh(a:Out (fe ρ Z) T X):lA (gI fe ρ Z) N T X:=Out.bind (a.imp λ_ _ k=>⟨k⟩)
theorem rA(a:xs.map lD++Uz (n - xs.length) Uh=ρ)(h:lA (g ρ Z) (λ_ Z'=>T (.fz .none) Z') T X):Out (c9 n g xs Z) T X:=by
 unfold c9;rw[a];refine Out.bind (h.imp λe o k=>?_);cases e with
 |nx r=>exact⟨k⟩
 |rt v=>exact⟨k⟩
 |ct r=>exact k.elim
 |bk r=>exact k.elim
theorem J0{b:fu}(I:Nat->bz->bh->Prop)(M:Nat)(j:∀n ρ Z,I n ρ Z->(∃Z1,c ρ Z=.ok Uw Z1/\N ρ Z1)\/(n<M/\∃Z1,c ρ Z=.ok Um Z1/\lA (b ρ Z1) (I (n+1)) T X)):∀(m n:Nat) (ρ:bz) (Z:bh),M - n<m->I n ρ Z->lA (vH c b m ρ Z) N T X
 |0,n,_,_,h,_=>by ext
 |m+1,n,ρ,Z,h,h0=>by
  rcases j n ρ Z h0 with⟨Z1,e,p⟩|⟨hn,Z1,e,l⟩
  .refine .eq (show vH c b (m+1) ρ Z=.ok (.nx ρ) Z1 from ?_) ⟨p⟩;show((c ρ Z).bind _)=_;rw[e,eh,ax UM]
  .refine .eq (show vH c b (m+1) ρ Z=(b ρ Z1).bind λa Y=>match a with
    |.nx ρ2=>vH c b m ρ2 Y
    |.ct ρ2=>vH c b m ρ2 Y
    |.bk ρ2=>.ok (.nx ρ2) Y
    |.rt x=>.ok (.rt x) Y from ?_) (Out.bind (l.imp λa o k=>?_))
   .show((c ρ Z).bind _)=_
    rw[e,eh,av rfl]
    all_goals (cases b ρ Z1 with
     |bad=>rfl
     |er x o=>rfl
     |ok a o=>cases a<;>rfl)
   .cases a with
    |nx r=>exact J0 I M j m (n+1) r o (by ext) k
    |rt v=>exact⟨k⟩
    |ct r=>exact k.elim
    |bk r=>exact k.elim
theorem zN{b:fu}(I:Nat->bz->bh->Prop)(M:Nat)(h:M<1000000)(e:I 0 ρ Z)(a:∀n ρ Z,I n ρ Z->(∃Z1,c ρ Z=.ok Uw Z1/\N ρ Z1)\/(n<M/\∃Z1,c ρ Z=.ok Um Z1/\lA (b ρ Z1) (I (n+1)) T X)):lA (rd c b ρ Z) N T X:=J0 I M a 1000000 0 ρ Z (by ext) e
theorem DW{b:fu}(I:Nat->bz->bh->Prop):∀(ds:bb D) (k:Nat) (ρ:bz) (Z:bh),I k ρ Z->(∀i d ρ Z,ds[i]?=lD d->I (k+i) ρ Z->∃ρ1 Z1,gt (.fz d) ρ Z=.ok ρ1 Z1/\lA (b ρ1 Z1) (I (k+i+1)) T X)->lA (jV gt b ds ρ Z) (I (k+ds.length)) T X
 |[],k,ρ,Z,h0,_=>⟨h0⟩
 |d::r,k,ρ,Z,h0,hs=>by
  obtain⟨ρ1,Z1,w,u⟩:=hs 0 d ρ Z rfl h0;have l:∀a p,I (k+1) a p->lA (jV gt b r a p) (I (k+(r.length+1))) T X:=λa p h=>by
   have e:k+(r.length+1)=k+1+r.length:=by ext
   rw[e];refine DW I r (k+1) a p h λi A j q hi t=>?_;have e:k+1+i=k+(i+1):=by ext
   rw[e]at t⊢;exact hs (i+1) A j q (by simpa using hi) t
  refine .eq (show jV gt b (d::r) ρ Z=(b ρ1 Z1).bind λm Y=>match m with
   |.nx ρ2=>jV gt b r ρ2 Y
   |.ct ρ2=>jV gt b r ρ2 Y
   |.bk ρ2=>.ok (.nx ρ2) Y
   |.rt x=>.ok (.rt x) Y from ?_) (Out.bind (u.imp λm o k=>?_))
  .show((gt (.fz d) ρ Z).bind _)=_
   rw[w,eh]
   all_goals (cases b ρ1 Z1 with
    |bad=>rfl
    |er x o=>rfl
    |ok m o=>cases m<;>rfl)
  .cases m with
   |nx r=>exact l _ _ k
   |rt v=>exact⟨k⟩
   |ct r=>exact k.elim
   |bk r=>exact k.elim
theorem xw{b:fu}(I:Nat->bz->bh->Prop)(hi:fi ρ Z=.ok ds Z1)(h:I 0 ρ Z1)(a:∀i d ρ Z,ds[i]?=lD d->I i ρ Z->∃ρ1 Z1,gt (.fz d) ρ Z=.ok ρ1 Z1/\lA (b ρ1 Z1) (I (i+1)) T X)(e:∀ρ' Z',I ds.length ρ' Z'->N ρ' Z'):lA (pW fi gt b ρ Z) N T X:=by
 have:=DW I ds 0 ρ Z1 h (by simpa using a);rw[Vk]at this;refine .eq ?_ (this.imp λj o k=>?_)
 .unfold pW;rw[hi,eh]
 .cases j with
  |nx r=>exact e _ _ k
  |rt v=>exact k
  |ct r=>exact k.elim
  |bk r=>exact k.elim
theorem i4(I:Nat->bz->bh->bb SV->Prop):∀(ds:bb D) (k:Nat) (ρ:bz) (Z:bh) (a:bb SV),I k ρ Z a->(∀i d ρ Z a,ds[i]?=lD d->I (k+i) ρ Z a->a.length<1000000/\∃ρ1,gt (.fz d) ρ Z=.ok ρ1 Z/\ft ρ1 Z=.ok Um Z/\Out (fe ρ1 Z) (λx Y=>I (k+i+1) ρ1 Y (a++[x])) X)->Out (cx gt ft fe ds ρ Z a) (λxs Z'=>∃ρ',I (k+ds.length) ρ' Z' xs) X
 |[],k,ρ,Z,a,h0,_=>⟨ρ,h0⟩
 |d::r,k,ρ,Z,a,h0,hs=>by
  obtain⟨q,ρ1,v,u,t⟩:=hs 0 d ρ Z a rfl h0;refine .eq (show cx gt ft fe (d::r) ρ Z a=(fe ρ1 Z).bind λx Z3=>cx gt ft fe r ρ1 Z3 (a++[x])from ?_) (Out.bind (t.imp λx o p=>?_))
  .show((gt (.fz d) ρ Z).bind _)=_
   rw[v,eh,u,eh,av rfl];cases fe ρ1 Z with
   |bad=>rfl
   |er x o=>rfl
   |ok x o=>show(if a.length<1000000 then _ else _)=_;rw[av q];rfl
  .have e:k+(d::r).length=k+1+r.length:=by rw[UD];ext
   rw[e];refine i4 I r (k+1) ρ1 o _ p λi w h l j hi m=>?_;have e:k+1+i=k+(i+1):=by ext
   rw[e]at m⊢;exact hs (i+1) w h l j (by simpa using hi) m
theorem CF(hi:fi ρ Z=.ok ds Z1)(a:Out (cx (λx ρ Z=>iE (gt x ρ Z)) (λρ Z=>iE (ft ρ Z)) fe ds (fy n fj ρ) Z1 []) (λxs Y=>T (.rf Y.length) (Y++[.lst xs])) X):Out (vj n fj fi gt ft fe ρ Z) T X:=by unfold vj;rw[hi,eh];exact Out.bind (a.imp λ_ _ k=>⟨k⟩)
theorem EI(a:fo ρ Z=.ok (.rf i) Z1)(h:Z1[i]?=lD (.obj C fs))(hm:fs.lookup m=Uh)(ha:fa ρ Z1=.ok xs Y)(hn:(SV.rf i::xs).length=n):rE C m F n fo fa ρ Z=F (.rf i::xs) Y:=by
 have e:nK Z1 C m (.rf i)=Um:=by unfold nK;dsimp only;rw[h];dsimp only;rw[hm];simp
 unfold rE;rw[a,eh,av e,ha,eh,av hn]
theorem CA(ha:fa ρ Z=.ok xs Z1)(hn:(SV.rf Z1.length::xs).length=n):vv C F n fa ρ Z=(F (.rf Z1.length::xs) (Z1++[.obj C []])).bind λr Y=>(if Gd r=Um then .ok (.rf Z1.length) Y else .bad):=by unfold vv;rw[ha,eh];unfold vR;rw[av hn]
theorem yT(ha:fa ρ Z=.ok xs Z1)(hn:(xs++es.map SV.fz).length=n):zY F n es fa ρ Z=F (xs++es.map SV.fz) Z1:=by unfold zY;rw[ha,eh,av hn]
theorem qQ(ha:fa ρ Z=.ok xs Z1)(hn:(xs++es.map SV.fz).length=n)(a:F (xs++es.map SV.fz) Z1=.ok x Y):qC F n es fa ρ Z=.ok x Y:=by unfold qC;rw[ha,eh,av hn,a];rfl
theorem EU{c f:Str}(h:fe ρ Z=.ok (.fz d) Z1)(hd:L9.RQ d=Um):sX c f fe ρ Z=.er ⟨c,[(f,d)]⟩ Z1:=by unfold sX;rw[h,eh];dsimp only;rw[av hd]
end
end L10
namespace L3
open PySem PyProof.Rows L2
section
variable{P:US}{w:Vb}{K:Ld}{mg:Str->bg Uj}{base h:Heap}{f T:Uq}{n:Str}{t:Ws}{ps:bb Str}{Y:Nat}{sp:Sp}{U:xT}{Z:Array Uj}
theorem NI.aj4(i:NI K f n t)(X:K.In h)(G:h.Ns UK mg)(b:BA n n t ps)(ok:∀fd,Xn K n n t f fd->FnOk P w K mg base U Y f fd ps sp):qL P w K mg base U Y n ps [] sp:=
 let⟨fd,z⟩:=i.F;⟨f,fd,[],ok fd z,z.binds b,.nil,z.kp,Wd X G i.a⟩
structure DI(K:Ld)(f T:Uq)(n:Str)(t:Ws)(Z:Array Uj):Prop where
 a:UP K UK n=lD (lD (.ref f))
 F:∃fd,aaN K n n t f fd T Z
theorem Nw{x a:Str}{b:Ws}{r:Uj}{q:bg Uq}{kV e j:Uj}{l:bg Uq}{i ct:Uj}{g:Array (bg Uj)}{p:Uj}{o:bg Uq}{k:Nat}{m:Array (bg Uj)}
  (u:K.lookup f=lD ⟨r,q,.func (VY x a (gr b) (cC b) (aB b) (.ref T) kV e j l i ct),g⟩) (y:X7 K i a=Um) (v:V8 K (.ref f)=Um) (lt:K.lookup T=lD ⟨p,o,.seq Z k,m⟩):aaN K x a b f (VY x a (gr b) (cC b) (aB b) (.ref T) kV e j l i ct) T Z:=
 ⟨⟨_,_,_,_,_,_,_,_,_,rfl,u,y⟩,v,_,_,lt,rfl⟩
def BD(n:Str)(t:Ws)(T:Uq)(Z:Array Uj)(ps:bb Str)(ds:bb Uj):Prop:=∀(kV b e:Uj) (g:bg Uq) (i ct:Uj) (a:bb Uj),(a++ds).length=ps.length->∃k:bg (Array Uj)->Sem (bb (Str×Uj)),bindArgs (VY n n (gr t) (cC t) (aB t) (.ref T) kV b e g i ct) ⟨a,[]⟩=seqItems? (.ref T)>>=k/\k (lD Z)=pure (ps.zip (a++ds))
theorem DI.cal{ds:bb Uj}{dvs:bb V}(i:DI K f T n t Z)(X:K.In h)(G:h.Ns UK mg)(e:BD n t T Z ps ds)(b:Vals dvs ds)(ok:∀fd,aaN K n n t f fd T Z->FnOk P w K mg base U Y f fd ps sp):qL P w K mg base U Y n ps dvs sp:=
 let⟨fd,z⟩:=i.F;⟨f,fd,ds,ok fd z,z.binds e,b,z.kp,Wd X G i.a⟩
end
structure Tp(P:US)(w:Vb)(K:Ld)(mg:Str->bg Uj)(base h:Heap):Prop where
 X:K.In h
 G:h.Ns UK mg
section
variable{P:US}{w:Vb}{K:Ld}{mg:Str->bg Uj}{base h:Heap}{f C T:Uq}{n m q:Str}{t:Ws}{ps fs:bb Str}{Z:Nat}{sp:Sp}{Y:xT}{U:Array Uj}
theorem NI.c(i:NI K f n t)(W:Tp P w K mg base h)(ok:∀fd,Xn K n n t f fd->FnOk P w K mg base d4 Z f fd ps sp)(a:BA n n t ps:=by fail "ba"):z8 P w K mg base Z n ps sp:=i.cal W.X W.G a ok
theorem NI.d(i:NI K f n t)(W:Tp P w K mg base h)(ok:∀fd,Xn K n n t f fd->FnOk P w K mg base Y Z f fd ps sp)(a:BA n n t ps:=by fail "ba"):qL P w K mg base Y Z n ps [] sp:=i.aj4 W.X W.G a ok
theorem MI.mt(i:MI K C f m q t)(c:CI K C n fs)(W:Tp P w K mg base h)(ok:∀fd,Xn K m q t f fd->FnOk P w K mg base Y Z f fd ps sp)(a:BA m q t ps:=by fail "ba"):L10.b7 P w K mg base Y Z n m ps sp:=i.ahi c a ok
theorem MI.k(i:MI K C f "__init__" q t)(c:CI K C n fs)(W:Tp P w K mg base h)(ok:∀fd,Xn K "__init__" q t f fd->FnOk P w K mg base Y Z f fd ps sp)(a:BA "__init__" q t ps:=by fail "ba"):L10.ub P w K mg base Y Z n ps sp:=i.ajQ c W.X W.G a ok
theorem DI.c{ds:bb Uj}{dvs:bb V}(i:DI K f T n t U)(W:Tp P w K mg base h)(a:Vals dvs ds)(ok:∀fd,aaN K n n t f fd T U->FnOk P w K mg base Y Z f fd ps sp)(b:BD n t T U ps ds:=by fail "bd"):qL P w K mg base Y Z n ps dvs sp:=i.cal W.X W.G b a ok
end
end L3
namespace LD
open PySem PySem.Spec PyProof.Rows L2 L3
section
variable{prog:US}{w:Vb}{K:Type}[DecidableEq K]{knd:aiK prog w K}{A:U4}{E:Uj->Ur->Prop}{s:Ur}
theorem E1(t:knd.room A)(g:knd.is s.heap k a)(hm:s.heap.DictOfH knd d xs)(hsz:xs.length<=UB)
  (F:∀p,atKey xs k=lD p->Q p.2 {s with toks:=s.toks+knd.draws k})
  (C:atKey xs k=Uh->∀h',h'.DictOfH knd d (storedH xs k a v)->Heap.SameBut d s.heap h'->Q v {s with heap:=h',toks:=s.toks+knd.draws k}):wpAny (model prog w) A (dictSetDefault d (.ref a) v) Q E s:=by
 obtain⟨o,H,G,h,B,f,n,m,hn⟩:=hm;unfold dictSetDefault
 try specialize V1 ?_
 refine Ug (knd.pyHash t g (Ug (wpAny_dictFind_heap t g h f n m hn (λi=>?_) λj p u=>?_)))
 .have l:=atKey_none_of_get i
  have q:=C l;rw[storedH_new l]at q;have r:=not_mem_keys_of_get i;refine Ug (YB (Ug (wpAny_updateDictKeys (hz:=by have e:=ahz n;ext) h f (Ut (q _ ⟨_,_,G+1,cv _ h (Obj.isFreed_of_dict (Obj.data_mapDictKeys f _)),B.mapDictKeys _,Obj.data_mapDictKeys f _,by simp[n,entryOfKey],λx b=>?_,?_⟩ (Heap.SameBut.update ..))))))
  .rcases Vp.mp b with b|b
   .exact knd.keeps (m x b) h f (Heap.SameBut.update ..)
   .rw[UR.mp b];exact knd.keeps g h f (Heap.SameBut.update ..)
  .rw[UI,Xz];exact⟨hn,by simp,λx b y z e=>r (by rw[UR.mp z]at e;rw[show k=x from e.symm];exact b)⟩
 .have q:=F p (atKey_of_get hn u);refine Ug (afS h f ?_);rw[entry_at n j,u];exact Ug (YB (Ut q))
theorem zS(d a:Uq)(hd:(d==VW)=Uw)(v:Uj):MeetsIn prog w (Vf.«dict.setdefault» ⟨[.ref d,.ref a,v],[]⟩) (λA R s=>knd.room A.in1/\∃k xs,knd.is s.heap k a/\s.heap.DictOfH knd d xs/\xs.length<=UB/\
  (∀p,atKey xs k=lD p->R (.ok (.ret p.2)) {s with toks:=s.toks+knd.draws k})/\(atKey xs k=Uh->∀h',h'.DictOfH knd d (storedH xs k a v)->Heap.SameBut d s.heap h'->R (.ok (.ret v)) {s with heap:=h',toks:=s.toks+knd.draws k})):=
 .of_wp λA R s ⟨h,k,xs,g,hm,b,l,j⟩=>by refine Ug ?_;refine Ug (ad9 hm.typeIs ?_);refine Ut ?_;show wpAny _ _ (if(d==VW)=Um then _ else(dictSetDefault d (.ref a) v>>=_)) _ _ s;rw[ax (by rw[hd];exact UM)];exact Ug (E1 h g hm b (λp i=>Ut ⟨p.2,rfl,l p i⟩) λhn h' f e=>Ut ⟨v,rfl,j hn h' f e⟩)
end
section
variable{X:Cx}{Z:bb (Uq×Obj)}{Y:L2.St}{H:Hp}{s:Ur}{A:U4}{E:Uj->Ur->Prop}{a b:Uq}{xs:bb (KD×Uq×V)}{k:KD}{v:V}{r:Uj}
theorem LH(M:A.units+64<cLine)(I:L2.Inv X Z Y H s)(e:H a=lD (DkO a xs))(y:uc X.K H xs)(C:L2.DV X.K H (.ref b) k.1)(rv:RelV v r)(N:xs.length<UB)
  (J:∀u w' s',l9 xs k=lD u->L2.Inv X Z Y H s'->RelV u w'->Q w' s') (G:l9 xs k=Uh->∀s',L2.Inv X Z Y (bM H a (DkO a (nj xs k b v))) s'->Q r s'):
  wpAny (model X.prog X.w) A (call (.builtin "dict.setdefault") [.ref a,.ref b,r]) Q E s:=by
 obtain⟨z,m,l,h,dd⟩:=zG I e y;have n:l.length<=UB:=by rw[<-Paired.length h];exact z
 have j:(nj xs k b v).length<=UB:=by have:=rK xs k b v;ext
 have f:=xO (k:=k) h;refine aaY aau dd.typeIs PySem.F.entry_dict_setdefault (PySem.F.args_dict_setdefault_3 _ _ _) (zS a b m r) ⟨tf (by ext),k,l,vd I C,dd,n,λp t=>?_,λhn L i o=>?_⟩
 .rw[t]at f
  cases g:l9 xs k with
  |none=>rw[g]at f;exact f.elim
  |some u=>rw[g]at f;exact J u p.2 _ g (I.tok _) f
 .rw[hn]at f
  cases g:l9 xs k with
  |some u=>rw[g]at f;exact f.elim
  |none=>
   refine G g _ ?_;have B:∃q,L.get? a=lD q:=let⟨q,_,_,hq,_⟩:=i;⟨q,hq⟩
   exact oV I (by rw[e];exact True.intro) o B (B9 j m (Jo rv h) i)
def N6(K:Ld)(h ty g:TE):TE:=λY H Q=>h Y H λx f=>∃a xs0,x=.ref a/\f a=lD (DkO a xs0)/\ty Y f λy i=>g Y i λz e=>∃b xs k,y=.ref b/\e a=lD (DkO a xs)/\uc K e xs/\L2.DV K e (.ref b) k.1/\xs.length<UB/\
 (∀u,l9 xs k=lD u->Q u e)/\(l9 xs k=Uh->Q z (bM e a (DkO a (nj xs k b z))))
end
section
variable{X:Cx}{o e f:Vq}{td ty tx:TE}{Z Xb:Pos}
theorem aeE(R:X.A.units+64<cLine)(S:PE X o td)(Y:PE X e ty)(U:PE X f tx)(m:M2 X o "setdefault" Z e f Xb):PE X (.Call (.Attribute o "setdefault" Z) [e,f] [] Xb) (N6 X.K td ty tx):=by
 intro i s j H Q I h;refine afP m.base m.few m.line Xl aau PySem.F.type_dict_setdefault (cQ (S i s j H _ I h) λu C ⟨x,H1,q,G,a,r,ex,e0,N⟩=>?_);subst ex;obtain rfl:=G;obtain⟨v,t,_⟩:=D0 q e0;refine⟨v,t,?_⟩;rw[m.trees];refine Calls.callWith_builtin rfl (Calls.evalArgs_plain (Calls.spliced_cons (cQ (Y i C j H1 _ q N) λiv B ⟨y,H2,I2,E,M⟩=>
  Calls.spliced_cons (cQ (U i B j H2 _ I2 M) λfv s3 ⟨z,H3,I3,p,b,xs,k,ey,e3,O,P,T,L,J⟩=>Calls.spliced_nil ?_))))
 subst ey;obtain rfl:=E;exact LH R I3 e3 O P p T (λu w' w g n l=>⟨u,H3,n,l,L u g⟩) λg w n=>⟨z,_,n,p,J g⟩
end
end LD
namespace L10
open PySem PyProof.Rows L2 L3 LD
section
variable{B O O':cz}{K:Ld}{E:XK}{H H' H1 H2:Hp}{α α' U X:bb Uq}{Z Z' Z1 S Y:bh}{T:L2.St}{ρ:bz}{v:V}
def Aa(fd fk a:dI):dI:=λρ Z=>(fd ρ Z).bind λo Z1=>(RS.Vm Z1 (qZ Z1 o)).bind λ_ Z1=>(fk ρ Z1).bind λx S=>(a ρ S).bind λz Y=>(RS.Vm Y (lV x)).bind λk Y=>(RS.Vm Y (Re z)).bind λe Y=>(RS.Vm Y (qZ Y o)).bind λp Y=>
 if p.2.length<1000000 then(match gL p.2 k with
  |some d=>.ok (.fz d) Y
  |none=>.ok (.fz e) (Y.set p.1 (.dd (lh p.2 k e))))else .bad
theorem Hj(hd:cW K E td fd)(hk:cW K E tk fk)(hx:cW K E tx fx):cW K E (N6 K td tk tx) (Aa fd fk fx):=by
 intro B T H α Z ρ Q s t w;refine hd B T H α Z ρ _ s t (w.bind.imp λo U Z1 H1 e1 L r u N=>?_);obtain⟨⟨i0,agW⟩,q0,r⟩:=WS.Vm r;obtain⟨_,a,p,_,rfl,g0,_⟩:=wN L N q0;refine⟨a,p,rfl,g0,?_⟩;refine hk B T H1 U Z1 ρ _ L (t.WN e1) (r.bind.imp λx X S H2 e2 s2 w2 v hv=>?_);refine hx B T H2 X S ρ _ s2 (t.WN (e1.trans e2)) (w2.bind.imp λz f Y j e3 A g l hz=>?_);obtain⟨d,q1,g⟩:=WS.Vm g;obtain⟨e,C,g⟩:=WS.Vm g;obtain⟨⟨i,UY⟩,q2,g⟩:=WS.Vm g;obtain⟨F,a',xs,ha,ea,g1,n⟩:=wN A (N.WN (e2.trans e3)) q2;cases ea;obtain⟨k,b,rfl,rfl,P⟩:=oO q1 (hv.WN e3);have h:L3.DV (ow B f Y) K j l e:=by
  cases z with
  |fz d=>cases C;exact hz
  |rf _=>cases C
  |tp _=>cases C
 by_cases I:UY.length<1000000
 .rw[av I]at g
  have G:xs.length<UB:=uU (by rw[Paired.length n];exact I);obtain⟨M,p2⟩:=pQ n;refine⟨b,xs,k,rfl,g1,v9 n,P.plain,G,λu m=>?_,λR=>?_⟩
  .cases q:gL UY k.1 with
   |none=>rw[p2 q]at m;cases m
   |some y=>rw[q]at g;obtain⟨u',J,h'⟩:=M y q;rw[J]at m;cases m;exact WS.now A g _ h'
  .cases q:gL UY k.1 with
   |some y=>obtain⟨u',J,_⟩:=M y q;rw[J]at R;cases R
   |none=>rw[q]at g;have ev:Ev (ow B f Y) j (ow B f Y) (bM j a (DkO a (nj xs k b l))):=qS ha F (by nofun);have e4:Wh f Y j f (Y.set i (.dd (lh UY k.1 e))) (bM j a (DkO a (nj xs k b l))):=Wh.put ha F (by nofun) (by nofun);exact g f _ e4 (A.put ha F (by nofun) (by nofun) ⟨_,aV,z9 (P.ev ev) (h.ev ev) (Ke ev n)⟩) l (Xu.WN e4 h)
 .rw[ax I]at g;exact g.elim
end
end L10
namespace LD
open PySem PySem.Spec PyProof.Rows L2 L3
section
variable{prog:US}{w:Vb}{K:Type}[DecidableEq K]{knd:aiK prog w K}{A:U4}{E:Uj->Ur->Prop}{s:Ur}
theorem Cy(d:Uq)(hd:(d==VW)=Uw):MeetsIn prog w (Vf.«dict.__len__» ⟨[.ref d],[]⟩) (λ_ R s=>∃xs,s.heap.DictOfH knd d xs/\R (.ok (.ret (.int xs.length s.toks))) {s with toks:=s.toks+1}):=
 .of_wp λA R s ⟨xs,hm,h⟩=>by obtain⟨o,i,j,b,g,a,f,e,hn⟩:=hm;show wpAny _ _ (dictSize d>>=_) _ _ s;refine Ug (Ug (afS b a (Ut ?_)));refine Ug (wpAny_pendingCount_other hd ?_);refine wpAny_ret_mkInt ?_;rw[Nat.add_zero,ahz f];exact h
theorem Ka(hd:(d==VW)=Uw)(hm:s.heap.DictOfH knd d xs)(a:(xs.length:Int)<2^63)
  (h:Q (.int xs.length (s.toks+1)) {s with toks:=s.toks+1+1}):wpAny (model prog w) A (call (.builtin "len") [.ref d]) Q E s:=by
 refine Calls.call_function_entry kind_len plain_len entry_len (args_len1 _) ?_;refine Ug (Ut ?_);refine Ug (Wg hm.typeIs abB
  (aaY abB hm.typeIs PySem.F.entry_dict_len (PySem.F.args_dict_len_1 _) (Cy d hd) ⟨xs,hm,?_⟩))
 refine Ug (V1 (Ut ?_));refine Ug (Xh ?_);rw[ax (by ext)];rw[ax (by ext)];exact Ug (ael (Ut ⟨_,rfl,h⟩))
end
def Ir(K:Ld):bb V->Hp->(V->Hp->Prop)->Prop:=λxs H Q=>∃a UY,xs=[V.ref a]/\H a=lD (DkO a UY)/\uc K H UY/\Q (.int UY.length) H
theorem acC:Xd X (.builtin "len") (Ir X.K):=by intro e s j H xs m Q I r h;obtain⟨a,UY,rfl,ha,g,q⟩:=h;obtain⟨u,rfl,f⟩:=k8 r;cases f;obtain⟨z,i,l,b,dd⟩:=zG I ha g;refine Ka i dd (by rw[<-Paired.length b];rw[Wx]at z;ext) ?_;rw[<-Paired.length b];exact⟨.int UY.length,H,I.tok _,⟨_,rfl⟩,q⟩
end LD
namespace L10
open PySem PyProof.Rows L2 L3 LD
section
variable{B O O':cz}{K:Ld}{E:XK}
def qX(fd:dI):dI:=λρ Z=>(fd ρ Z).bind λo a=>(RS.Vm a (qZ a o)).bind λp a=>.ok (.fz (.int p.2.length)) a
theorem FH(hd:cW K E td fd):cW K E (KF (Ir K) (iH td ng)) (qX fd):=by intro B h H α Z ρ Q s j w;refine hd B h H α Z ρ _ s j (w.bind.imp λo b q r p f e u m=>?_);obtain⟨⟨i,UY⟩,l,e⟩:=WS.Vm e;obtain⟨_,a,xs,ha,rfl,n,g⟩:=wN f m l;refine⟨a,xs,rfl,n,v9 g,?_⟩;rw[Paired.length g];exact e b _ .refl f _ (.int _)
def lX(fe:dI):Lq:=λρ Z=>(fe ρ Z).bind λx a=>(RS.Vm a (Re x)).bind λd a=>RS.Vm a (gJ [d])
theorem JZ(h:cW K E tl fe):Rb K E (Ko (iH tl ng)) (lX fe):=by
 intro B i H α Z ρ r s l w;refine h B i H α Z ρ _ s l (WS.imp (WS.bind w) λx b p g q m a v n=>?_);obtain⟨d,e,a⟩:=WS.Vm a;cases qx:gJ [d]with
 |none=>rw[qx]at a;exact a.elim
 |some ds=>
  rw[qx]at a;have o:L3.DV (ow B b p) K g v d:=by
   cases x with
   |fz d=>cases e;exact n
   |rf _=>cases e
   |tp _=>cases e
  cases d with
  |int j=>
   unfold gJ at qx;dsimp only at qx;split at qx
   .rename_i f;cases qx;cases o;exact⟨j,rfl,f.1,f.2,a b g .refl m _ Ag⟩
   .cases qx
  |_=>cases qx
end
end L10
namespace L4
open PySem PySem.Spec PyProof.Rows L2 L3
def NP(E2:XK)(f e:TS):TS:=λD b H=>f D b H/\∀c dx H1,E2 c dx H1->∀(a:L2.St),a.length=b.length->e {nx:=D.nx,rt:=λ_ _=>False} a H1
theorem MW{X:Cx}{G P:bb Ws}{b0:Ws}{tb ts:TS}{E2:XK}{U:Uq}{x:Str}{np ajM pos:Pos}{mU:bb Uj}
  (hex:X.ex=[]) (d5:X.stack=X.env::X.outer) (hfr:X.env.frame=lD X.env.locals) (hg:Gl X x) (hm:X.mg x=lD (.ref U)) (hU:yV X.K U mU) (hbU:mU.contains (.type "BaseException")=Um)
  (hb:∀l,PSs ((Cx.pinned X l).Y6 (GU (Cx.pinned X l) E2)) G tb) (hs:∀l e,PSs (Cx.marked (Cx.pinned X l) e) (b0::P) ts)
  (hE:∀c dx H,E2 c dx H->∃C m,c=.ref C/\yV X.K C m/\(Uj.ref C::m).contains (.ref U)=Um) (hdb:(x==("__debug__":Str))=Uw:=by decide):
  PS X (.Try G [.ExceptHandler (lD (.Name x np)) Uh (b0::P) ajM] [] [] pos) (NP E2 tb ts):=by
 intro g s σ H D I ⟨h,hc⟩;have IY:=Lw I;have M:(Cx.pinned X (X.pn++g)).ex=[]:=hex;refine wpAny_Try_except (wpAny_mono (hb (X.pn++g) [] s σ H D (IY.Y6 _) h) (λf O n=>?_) (λv O hx=>?_))
 .have n:=SP.XZ n
  cases f with
  |next=>obtain⟨a,j,i,E⟩:=n;exact Yi ⟨a,j,ke I.ok i,E⟩
  |brk=>obtain⟨a,j,i,E⟩:=n;exact⟨a,j,ke I.ok i,E⟩
  |cont=>obtain⟨a,j,i,E⟩:=n;exact⟨a,j,ke I.ok i,E⟩
  |ret u=>obtain⟨v,a,j,i,r,E⟩:=n;exact⟨v,a,j,ke I.ok i,r,E⟩
 .obtain⟨a,j,e,c,dx,a0,T,rfl,i,F,S,R,ne,nT,q⟩:=hx
  obtain⟨C,mC,hcC,⟨n1,E,N1,b1,d1,t1,u1,a1,l1,x1,i0,i1,i2,i3,i5,id1,kC⟩,hup⟩:=hE c dx j q;obtain⟨n2,q2,N2,b2,d2,t2,u2,a2,l2,x2,j0,j1,j2,j3,j5,id2,kU⟩:=hU;have fr:X.A.frames=lD (X.env::X.outer):=by rw[<-d5];exact I.ok.frames
  have ff:O.heap.FunFrames X.base (X.env::X.outer):=by rw[<-d5];exact i.stack
  refine MU fr ff hfr F λh2 Y z2 F2 N=>?_
  have I2:L2.Inv (Cx.pinned X (X.pn++g)) [] a j {O with heap:=h2}:=uS i (λb=>b=e\/b=T) M (λp Q y=>y.elim (S.nP p Q) (R.nP p Q))
   (λb o z t nf=>N.keep b o z (λy=>t (.inl y)) (λy=>t (.inr (UH y).symm)) (by rw[<-d5];exact nf))
   (λb o z t=>N.slot b o z (λy=>t (.inl y)) (λy=>t (.inr (UH y).symm))) N.here
   (λb y=>y.elim (λy=>by rw[y];exact S.n0) (λy=>by rw[y];exact R.n0)) (λy=>y.elim (λy=>S.nL y.symm) (λy=>R.nL y.symm))
   (λy k z w=>w.elim (S.nC y k z) (R.nC y k z)) (λb y=>y.elim (λy=>by rw[y];exact ne) (λy=>by rw[y];exact nT))
  have B:Apart (Cx.pinned X (X.pn++g)) Y:=uK i M (da z2);have nT2:j Y=Uh:=i.VR.fresh z2;refine wpAny_handleBy_cons (codeAny_handlers_test (my (X:=Cx.marked (Cx.pinned X (X.pn++g)) e) (uL I2 e) hg hm ?_ hdb)) (by nofun);have F2':=F2;obtain⟨ob,fs,qe,cE,dE,dF,_⟩:=F2';refine Jf (I2.Zv _ _ kC) (I2.Zv _ _ kU) qe (cE.trans hcC) hbU hup ?_;refine codeAny_handlers_suite (QH F2 λh3 F3 Yo hT3=>?_)
  have I3:L2.Inv (Cx.pinned X (X.pn++g)) [] a j {O with heap:=h3}:=uS (s:={O with heap:=h2}) I2 (λb=>b=Y) M (λp Q y=>B.nP p Q y)
   (λb o z t _=>(Yo b t).trans z) (λb o z t=>⟨o.slots,(Yo b t).trans z⟩)
   (λb o z=>(Classical.em (b=Y)).elim (λy=>by rw[y];exact hT3) (λy=>⟨o,(Yo b y).trans z⟩)) (λb y=>by rw[y];exact B.n0) (λy=>B.nL y.symm) (λy k z w=>B.nC y k z w) (λb y=>by rw[y];exact nT2)
  have w:=hc c dx j q a (i.len.trans I.len.symm);refine wpAny_mono (hs (X.pn++g) e [] _ _ _ _ (uL I3 e) w) (λf s5 n=>?_) (λy s5 z=>z.elim);cases f with
  |next=>obtain⟨J,H2,Z,L⟩:=n;exact⟨_,_,ke I.ok (A3 IY.ok Z),L⟩
  |brk=>obtain⟨J,H2,Z,L⟩:=n;exact L.elim
  |cont=>obtain⟨J,H2,Z,L⟩:=n;exact L.elim
  |ret u=>obtain⟨v,J,H2,Z,r,L⟩:=n;exact L.elim
end L4
namespace L10
open PySem PyProof.Rows L2 L3
def K8(F:FN)(n:Nat)(fa:wD):dI:=λρ Z=>(fa ρ Z).bind λxs a=>match aC (mZ 6 a) xs with
 |some ds=>if ds.length=n then(match F ds with
  |.ok rv=>pp a rv
  |_=>.bad)else .bad
 |none=>.bad
theorem IC{K:Ld}{E:XK}{F:FN}{n:Nat}{fa:wD}(ha:v3 K E ta fa):cW K E (lj (pT K n F) [] E0 ta) (K8 F n fa):=by
 intro B j H α Z ρ Q s l w;refine ha B j H α Z ρ _ s l (w.bind.imp λxs b h i o f a vs m=>?_);rw[UT];cases q1:aC (mZ 6 h) xs with
 |none=>rw[q1]at a;exact a.elim
 |some ds=>
  rw[q1]at a;have g:V9 noO K i vs ds:=jS (cS (R:=Xu (ow B b h) K i b) (λv x y r e=>ki f 6 r e) m q1);dsimp only at a;by_cases hn:ds.length=n
  .rw[av hn]at a
   refine⟨g.length.trans hn,noO,ds,λ_ z=>z.elim,g,?_⟩;cases q:F ds with
   |bad=>rw[q]at a;exact a.elim
   |er x=>rw[q]at a;exact a.elim
   |ok rv=>rw[q]at a;exact CH f a
  .rw[ax hn]at a;exact a.elim
theorem K3{F:FN}{n:Nat}{fa:wD}{ρ:bz}{Z Z1:bh}{xs:bb SV}{ds:bb D}{d:D}(ha:fa ρ Z=.ok xs Z1)(hd:aC (mZ 6 Z1) xs=lD ds)(hn:ds.length=n)(b:F ds=.ok (.fz d))(a:BF d=Um):K8 F n fa ρ Z=.ok (.fz d) Z1:=by unfold K8;rw[ha,eh,hd];dsimp only;rw[av hn,b];exact av a
end L10
namespace L10
open PySem PySem.Spec PyProof.Rows L2 L3
def M8(fo:dI):dI:=λρ Z=>(fo ρ Z).bind λo a=>(RS.Vm a (gp a o)).bind λp a=>.ok (.fz .none) (a.set p.1 (.lst []))
theorem Nq{K:Ld}{E:XK}{to:TE}{fo:dI}(n:cW K E to fo):cW K E (QR K "list" IJ to) (M8 fo):=by intro B j H α Z ρ Q s l w;refine n B j H α Z ρ _ s l (w.bind.imp λo b t u r f e v m=>?_);obtain⟨⟨i,xs⟩,q,e⟩:=WS.Vm e;obtain⟨g,a,vs,ha,rfl,h,p⟩:=yB f m q;refine⟨.inl ⟨rfl,vs,YL.of h⟩,a,vs,rfl,rfl,h,?_⟩;exact e b _ (Wh.put ha g (by nofun) (by nofun)) (f.put ha g (by nofun) (by nofun) ⟨_,aV,.nil⟩) _ .WA
theorem Ph{ρ:bz}{Z Z1:bh}{i:Nat}{fo:dI}{xs:bb SV}(h:fo ρ Z=.ok (.rf i) Z1)(a:Z1[i]?=lD (.lst xs)):M8 fo ρ Z=.ok (.fz .none) (Z1.set i (.lst [])):=by unfold M8;rw[h,eh,show gp Z1 (.rf i)=lD (i,xs) by unfold gp;dsimp only;rw[a]];rfl
end L10
namespace M02
inductive Con(E:bb (Nat×Nat))(r0:Nat):Bool->Nat->Prop
 |base:Con E r0 Um r0
 |col {r c:Nat}:Con E r0 Um r->(r,c)∈E->Con E r0 Uw c
 |row {r c:Nat}:Con E r0 Uw c->(r,c)∈E->Con E r0 Um r
def has(n c:Nat):Prop:=n.testBit c=Um
structure Nums(E:bb (Nat×Nat))(R C:Nat)(ns:bb Nat):Prop where
 len:ns.length=R
 lt:∀n∈ns,n<2^C
 own:∀r c,(r,c)∈E->has (ns.getD r 0) c
 snd:∀r,r<R->∀c,has (ns.getD r 0) c->Con E r Uw c
abbrev NF:=bb Nat×bb Nat
structure anr(E:bb (Nat×Nat))(r0:Nat)(s:NF):Prop where
 a:r0∈s.1
 n:∀x∈s.1,Con E r0 Um x
 f:∀x∈s.2,Con E r0 Uw x
 d:s.2.Nodup
 d1:s.1.Nodup
structure aoA(R C:Nat)(ss:bb (Nat×Nat)):Prop where
 r1:1<=R
 r6:R<=6
 c1:1<=C
 c6:C<=6
 l1:1<=ss.length
 l12:ss.length<=12
 nd:ss.Nodup
 inn:∀s∈ss,s.1<R/\s.2<C
end M02
local macro_rules(kind:=«term{_}»)|`({$a})=>`(L3.ag $a L3.az)|`({$a,$b})=>`(L3.ag $a (L3.ag $b L3.az))|`({$a,$b,$c})=>`(L3.ag $a (L3.ag $b (L3.ag $c L3.az)))|`({$a,$b,$c,$d})=>`(L3.ag $a (L3.ag $b (L3.ag $c (L3.ag $d L3.az))))
local macro_rules|`(~~~$n)=>`(L3.pC (.int $n))
namespace STP
open PySem L2 L3
def om:FS:=(b8 (oK (aY (aR um (aR bA (aa 0) (~~~2)) (pC .none))) (eR (aR bA (aa 0) (~~~2))) fG)
 (eR (fM (L10.Jw 0) {eO 2 [] (gh (aR bA (aa 0) (~~~0))) (gT 2 (Ra (gN 0) (Ra (gN 1) S4))) (aY (aR d6 (aR bA (aa 1) (~~~0)) (pC (.str "layer")))) (aR bA (aa 1) (~~~1))})))
def eB:FN:=ii 1 om
def lM:FS:=(b8 (jo (aR bA (aR bA (aR bA (aa 0) (~~~1)) (aa 1)) (aa 2)) (gN 3))
 (b8 (oK (aY (aR d6 (aR bA (aa 3) (~~~0)) (pC (.str "below")))) (eR (aR bA (aR bA (aR bA (aa 0) (~~~1)) (~~~0)) (aa 2))) fG)
 (eR (aa 3))))
def jE:FN:=ii 4 lM
def jK:FS:=(eR (eO 1 [1] (gh (aR bA (aa 0) (~~~2))) (gN 0) (aY (fM zx {eO 1 [0] (gh (aa 1)) (gN 0) dc (aR KI (aa 0) (aR bA (aa 1) (~~~0)))})) (aa 0)))
def bN:FN:=ii 2 jK
def k7:FS:=(b8 (r8 (gh (aR bA (aa 0) (~~~2))) (gN 2) (oK (aY (aR d6 (fM t9 {aR bA (aa 2) (~~~0)}) (fM L9.iQ {aa 1}))) (eR (aR d7 (cY {cP {pC (.str "letter"),aR bA (aa 2) (~~~1)}}) (aR jh (cY {pC (.tuple [(.str "none")])}) (aR vF (fM db {aa 1}) (~~~1))))) fG))
 (eR (eO 1 [0] (gh (aa 1)) (gN 0) dc (aR bA (aR bA (aR bA (aa 1) (~~~1)) (~~~0)) (aa 0)))))
def gx:FN:=ii 3 k7
open L10
def lr:fu:=(aM (eY "Hand" "bed" (au 0) (ae (aa 1)))
 (aM (eY "Hand" "acts" (au 0) (za (ae (aR bA (aa 2) (~~~0)))))
 (aM (eY "Hand" "waiting" (au 0) (ae (aR bA (aa 2) (~~~1))))
 (aM (eY "Hand" "once" (au 0) (ae (aR bA (aa 2) (~~~2))))
 (eY "Hand" "sent" (au 0) (ae (cY az)))))))
def eK:i8:=c9 3 lr
def nV:fu:=(gI (mh (aj (kg fF (aj (eZ 1 [0] (fZ (wl (aZ "Hand" "acts" (au 0)))) (cV 0) cR (mh (aj (ae (aa 0)) (aj (wb (aZ "Hand" "acts" (au 1)) (ae (aa 0))) aH)))) aH)) (aj (aZ "Hand" "waiting" (au 0)) (aj (aZ "Hand" "once" (au 0)) aH)))))
def bL:i8:=c9 1 nV
def jC:fu:=(gI (Fc (lC um (aZ "Hand" "waiting" (au 0)) (ae (pC .none))) (lC KI (ae (aa 1)) (fP (aZ "Hand" "waiting" (au 0)) (ae (~~~0))))))
def ci:i8:=c9 2 jC
def lR:fu:=(gI (lC KI (ae (aa 1)) (EC (aZ "Hand" "acts" (au 0)))))
def bX:i8:=c9 2 lR
def lW:fu:=(aM (cT (oP (cH (aY (aR d6 (aR bA (aa 2) (~~~0)) (pC (.str "letter"))))) (xC (bK (a9 "Hand" "has_act" bX 2 (au 0) (aj (ae (aa 2)) aH))))) (bS (kK (aZ "Hand" "sent" (au 0)) (ae (cP {aR bA (aa 2) (~~~1),pC (.str "down")})))) dH)
 (yX (aZ "Hand" "acts" (au 0)) (ae (aa 1)) (ae (aa 2))))
def bF:i8:=c9 3 lW
def qE:fu:=(aM (cA (zQ (aZ "Hand" "acts" (au 0)) (ae (aa 1))) (cV 2))
 (cT (oP (cH (aY (aR d6 (aR bA (aa 2) (~~~0)) (pC (.str "letter"))))) (xC (bK (a9 "Hand" "has_act" bX 2 (au 0) (aj (ae (aa 2)) aH))))) (bS (kK (aZ "Hand" "sent" (au 0)) (ae (cP {aR bA (aa 2) (~~~1),pC (.str "up")})))) dH))
def j6:i8:=c9 3 qE
def nO:fu:=(aM (cA (fP (aZ "Hand" "waiting" (au 0)) (ae (~~~0))) (cV 1))
 (aM (cA (fP (aZ "Hand" "waiting" (au 0)) (ae (~~~2))) (cV 2))
 (aM (eY "Hand" "waiting" (au 0) (ae (pC .none)))
 (aM (cA (jN (OS (cH (aY (aR d6 (aa 2) (pC (.tuple [(.str "chord")]))))) (j8 gx 2 (aj (aZ "Hand" "bed" (au 0)) (aj (ae (aa 1)) aH))) (ae (cY {cP {pC (.str "layer"),aR bA (aa 2) (~~~2)}})))) (cV 3))
 (pW (eT (yr {aa 1,aa 3})) (Nd 2 (l7 (cV 4) (l7 (cV 5) xA))) (bS (a9 "Hand" "come" bF 3 (au 0) (aj (ae (aa 4)) (aj (ae (aa 5)) aH)))))))))
def b6:i8:=c9 6 nO
def fR:fu:=(aM (cT (Bb (bK (lC vx (aZ "Hand" "waiting" (au 0)) (ae (pC .none)))) (Bb (bK (lC uz (fP (aZ "Hand" "waiting" (au 0)) (ae (~~~2))) (ae (pC (.tuple [(.str "chord")]))))) (bK (lC uz (j8 eB 1 (aj (a9 "Hand" "stands" bL 1 (au 0) aH) aH)) (ae (~~~0)))))) (gI (ae (pC (.bool Uw)))) dH)
 (gI (lC uz (j8 bN 2 (aj (aZ "Hand" "bed" (au 0)) (aj (lC d7 (fP (aZ "Hand" "waiting" (au 0)) (ae (~~~0))) (ae (cP {aa 1}))) aH))) (ae (cY az)))))
def ef:i8:=c9 2 fR
def iG:fu:=(aM (cA (lC d7 (fP (aZ "Hand" "waiting" (au 0)) (ae (~~~0))) (ae (cP {aa 1}))) (cV 2))
 (aM (eY "Hand" "waiting" (au 0) (mh (aj (ae (aa 2)) (aj (fP (aZ "Hand" "waiting" (au 0)) (ae (~~~1))) (aj (ae (pC (.tuple [(.str "chord")]))) aH)))))
 (cT (bK (lC d6 (eZ 1 [] (fZ (j8 bN 2 (aj (aZ "Hand" "bed" (au 0)) (aj (ae (aa 2)) aH)))) (cV 0) cR (ae (fM db {aR bA (aa 0) (~~~0)}))) (ae (cY {fM db {aa 2}})))) (bS (a9 "Hand" "decide" b6 1 (au 0) aH)) dH)))
def dJ:i8:=c9 3 iG
def kz:fu:=(aM (cA (j8 eB 1 (aj (a9 "Hand" "stands" bL 1 (au 0) aH) aH)) (cV 2))
 (aM (cA (j8 jE 3 (aj (aZ "Hand" "bed" (au 0)) (aj (ae (aa 2)) (aj (ae (aa 1)) aH)))) (cV 3))
 (aM (cA (ae (aR bA (aa 3) (~~~0))) (cV 4))
 (aM (cT (cH (aY (aR BS (aa 4) (cP {pC (.str "layer"),pC (.str "once")})))) (eY "Hand" "once" (au 0) (ae (pC .none))) dH)
 (cT (cH (aY (aR d6 (aa 4) (pC (.str "tap"))))) (eY "Hand" "waiting" (au 0) (ae (cP {cP {aa 1},~~~0,aa 3}))) (cT (oP (cH (aY (aR d6 (aa 4) (pC (.str "letter"))))) (oP (cH (aY (aR d6 (aa 2) (~~~0)))) (bK (lC uz (j8 bN 2 (aj (aZ "Hand" "bed" (au 0)) (aj (ae (cP {aa 1})) aH))) (ae (cY az)))))) (eY "Hand" "waiting" (au 0) (ae (cP {cP {aa 1},~~~0,pC (.tuple [(.str "chord")])}))) (cT (cH (aY (aR d6 (aa 4) (pC (.str "once"))))) (aM (bS (a9 "Hand" "come" bF 3 (au 0) (aj (ae (aa 1)) (aj (ae (pC (.tuple [(.str "none")]))) aH))))
 (eY "Hand" "once" (au 0) (ae (aR bA (aa 3) (~~~1))))) (bS (a9 "Hand" "come" bF 3 (au 0) (aj (ae (aa 1)) (aj (ae (aa 3)) aH)))))))))))
def gH:i8:=c9 5 kz
def kF:fu:=(aM (cT (Bb (bK (Al Uw (ae (aa 1)) (aZ "Hand" "acts" (au 0)))) (bK (a9 "Hand" "is_waiting" ci 2 (au 0) (aj (ae (aa 1)) aH)))) wJ dH)
 (aM (cT (bK (a9 "Hand" "makes_chord" ef 2 (au 0) (aj (ae (aa 1)) aH))) (aM (bS (a9 "Hand" "put_to_chord" dJ 2 (au 0) (aj (ae (aa 1)) aH)))
 wJ) dH)
 (aM (cT (bK (lC um (aZ "Hand" "waiting" (au 0)) (ae (pC .none)))) (bS (a9 "Hand" "decide" b6 1 (au 0) aH)) dH)
 (bS (a9 "Hand" "begin" gH 2 (au 0) (aj (ae (aa 1)) aH))))))
def iX:i8:=c9 2 kF
def jL:fu:=(aM (cA (fP (aZ "Hand" "waiting" (au 0)) (ae (~~~2))) (cV 2))
 (cT (cH (aY (aR d6 (aa 2) (pC (.tuple [(.str "chord")]))))) (bS (a9 "Hand" "decide" b6 1 (au 0) aH)) (aM (eY "Hand" "waiting" (au 0) (ae (pC .none)))
 (bS (a9 "Hand" "come" bF 3 (au 0) (aj (ae (aa 1)) (aj (ae (cP {pC (.str "letter"),aR bA (aa 2) (~~~1)})) aH)))))))
def g8:i8:=c9 3 jL
def lK:fu:=(aM (cT (bK (a9 "Hand" "is_waiting" ci 2 (au 0) (aj (ae (aa 1)) aH))) (bS (a9 "Hand" "settle" g8 2 (au 0) (aj (ae (aa 1)) aH))) dH)
 (cT (bK (Al Uw (ae (aa 1)) (aZ "Hand" "acts" (au 0)))) (bS (a9 "Hand" "go" j6 2 (au 0) (aj (ae (aa 1)) aH))) dH))
def jD:i8:=c9 2 lK
def ji:fu:=(aM (cT (bK (lC vx (aZ "Hand" "waiting" (au 0)) (ae (pC .none)))) wJ dH)
 (aM (cA (lC d7 (fP (aZ "Hand" "waiting" (au 0)) (ae (~~~1))) (ae (~~~1))) (cV 1))
 (aM (eY "Hand" "waiting" (au 0) (mh (aj (fP (aZ "Hand" "waiting" (au 0)) (ae (~~~0))) (aj (ae (aa 1)) (aj (fP (aZ "Hand" "waiting" (au 0)) (ae (~~~2))) aH)))))
 (cT (bK (lC d6 (ae (aa 1)) (fP (aZ "Hand" "bed" (au 0)) (ae (~~~3))))) (bS (a9 "Hand" "decide" b6 1 (au 0) aH)) dH))))
def gD:i8:=c9 2 ji
def Ba:fu:=(aM (cA (vZ "Hand" eK 3 (aj (ae (aa 0)) (aj (ae (aa 1)) aH))) (cV 3))
 (aM (cT (cH (aY (aR d6 (aR bA (aa 2) (~~~0)) (pC (.str "turn"))))) (bS (a9 "Hand" "wait_on" gD 1 (au 3) aH)) (cT (cH (aY (aR d6 (aR bA (aa 2) (~~~0)) (pC (.str "down"))))) (bS (a9 "Hand" "press" iX 2 (au 3) (aj (ae (aR bA (aa 2) (~~~1))) aH))) (bS (a9 "Hand" "lift" jD 2 (au 3) (aj (ae (aR bA (aa 2) (~~~1))) aH)))))
 (gI (mh (aj (aZ "Hand" "sent" (au 3)) (aj (a9 "Hand" "stands" bL 1 (au 3) aH) aH))))))
def gR:i8:=c9 4 Ba
end STP
local macro_rules| `(tactic|fail "nm")=> `(tactic|first|((simp only[adj,adk]);rfl)|rfl)| `(tactic|fail "evf")=> `(tactic|first|with_reducible assumption|change L3.ir _ _|change L3.uu _ _|change L3.pV _ _|change L3.ahr _ _|change L3.Dj _ _|change L3.zH _ _|change L3.ai5 _ _|change L3.ai7 _ _|change L3.kh _ _|change L3.yt _ _|change L3.ad0 _ _|change L3.adO _ _|change L3.ahM _ _|change L3.ah8 _ _|change L3.xW _ _|change L3.ah0 _ _|change L3.aiu _ _|change L3.ahj _ _|change L3.wU _ _|change L3.agC _ _|change L3.aho _ _|change L3.ais _ _|change L3.aiW _ _|change L3.jA|change L3.lQ|change L3.tW|change L3.anv|change L3.al8|change L3.Ov|change L3.lZ _|change L3.eU _|(with_reducible rfl))| `(tactic|fail "ev")=> `(tactic|first
 |change L3.aO
 |((exists L3.af);rfl)
 |((exists L3.kH);rfl)
 |change L3.aL
 |change L3.agJ
 |((exists L3.aN);(·fail "ev");(·fail "ev");(·rfl);(·rfl);(·fail "evf"))
 |((exists L3.zU);(·fail "ev");(·rfl);(·rfl))
 |((exists L3.am);(·fail "ev");(·fail "ev"))
 |((exists L3.cg);(·fail "ev");(·rfl))
 |((exists L3.dR);(·fail "ev");(·rfl);(·first|fail "evf"|rfl))
 |((exists L3.dG);(·fail "ev");(·rfl);(·rfl);(·with_reducible assumption))
 |((exists L3.gW);(·fail "ev");(·rfl);(·exact Uv rfl))
 |((exists L3.p9);(·fail "ev");(·rfl);(·exact Uv rfl))
 |((exists L3.Iv);(·fail "ev");(·rfl);(·rfl))
 |((exists L3.t8);(·fail "ev");(·rfl))
 |((exists L3.NO);(·fail "ev");(·fail "ev");(·fail "ev");(·rfl);(·first|with_reducible assumption|rfl))
 |((exists L3.DY);(·fail "ev"))
 |((exists L3.yD);(·fail "ev");(·intro _;fail "ev"))
 |((exists L3.xn);(·fail "ev");(·intro _;fail "ev"))
 |((exists L3.ahY);(·fail "ev"))
 |((exists L3.xX);(·fail "ev");(·intro _;fail "ev"))
 |((exists L3.aft);(·fail "ev");(·intro _;fail "ev"))
 |((exists L3.pi);(·fail "ev");(·rfl);(·first|with_reducible assumption|rfl))
 |((exists L3.gm);(·fail "ev");(·rfl);(·rfl))
 |((exists L3.agS);(·fail "ev");(·rfl);(·rfl))
 |((exists L3.xY);(·rfl);(·fail "ev");(·rfl);(·rfl);(·first|with_reducible assumption|(simp only[Wn,UD,L3.gY] at*;ext));(·fail "nm"))
 |((exists L3.ajd);(·rfl);(·fail "ev");(·rfl);(·rfl);(·with_reducible assumption);(·with_reducible assumption);(·with_reducible assumption);(·fail "nm"))
 |((exists L3.B4);(·fail "ev");(·rfl);(·fail "nm"))
 |((exists L3.C6);(·fail "ev"))
 |((exists L3.xI);(·fail "ev");(·rfl)))
local macro_rules| `(tactic|fail "evb")=> `(tactic|first
 |((exists L3.ajX);(·fail "ev");(·fail "ev");(·rfl);(·rfl);(·fail "evf"))
 |((exists L3.ah7);(·fail "ev");(·rfl);(·rfl);(·with_reducible assumption))
 |((exists L3.aiN);(·fail "ev");(·rfl);(·first|fail "evf"|rfl))
 |fail "ev")
local macro_rules| `(tactic|fail "ev")=> `(tactic|first
 |with_reducible assumption
 |((exists L3.xX);(·fail "ev");(·intro _;fail "evb"))
 |((exists L3.aft);(·fail "ev");(·intro _;fail "evb"))
 |((exists L3.ahp);(·fail "ev");(·fail "ev");(·fail "ev");(·rfl);(·rfl);(·rfl);(·fail "evf");(·intro _;fail "evf"))
 |((exists L3.sV);(·fail "ev");(·rfl);(·rfl);(·rfl)))
local macro_rules| `(tactic|fail "go")=> `(tactic|first
 |((exists L3.fX);(·fail "ev");(·rfl);(·fail "nm");try fail "go")
 |((exists L3.ah2);(·fail "ev");try fail "go")
 |((exists L3.HM);try fail "go")
 |((exists L3.gF);try fail "go")
 |((exists L3.jO);(·fail "ev");(·rfl))
 |((exists L3.nz);(·fail "ev"))
 |((exists L3.aj7);(·fail "ev");(·rfl);(·fail "nm"))
 |((exists L3.sZ);(·fail "ev"))
 |((exists L3.fU);(·fail "ev");(·rfl))
 |((exists L3.Hs);(·fail "ev"))
 |(exists L3.yE))
namespace STP
open PySem L2 L3
def k9(c:Nat):Str:=⟨#[97+c]⟩
inductive Mn where
 |Vd (c:Nat)
 |WX (n:Int)
 |ZI (c:Nat) (n:Int)
 |once (n:Int)
 |none
 |below
 deriving DecidableEq
def mD:Mn->D
 |.Vd c=>.tuple [.str "letter",.str (k9 c)]
 |.WX n=>.tuple [.str "layer",.int n]
 |.ZI c n=>.tuple [.str "tap",.str (k9 c),.int n]
 |.once n=>.tuple [.str "once",.int n]
 |.none=>.tuple [.str "none"]
 |.below=>.tuple [.str "below"]
def VM(L a:Int):Mn->Prop
 |.Vd c=>c<26
 |.WX n=>1<=n/\n<a
 |.ZI c n=>c<26/\1<=n/\n<a
 |.once n=>1<=n/\n<a
 |.none=>True
 |.below=>L≠0
def Mn.isL:Mn->Bool
 |.Vd _=>Um
 |_=>Uw
structure Bd where
 n:Int
 ls:bb (bb Mn)
 cs:bb (bb Nat×Nat)
 wt:Int
def lG(l:bb Mn):D:=.tuple (l.map mD)
def gU(c:bb Nat×Nat):D:=.tuple [.tuple (bQ c.1),.str (k9 c.2)]
def bD(b:Bd):D:=.tuple [.int b.n,.tuple (b.ls.map lG),.tuple (b.cs.map gU),.int b.wt]
def VL(n a:Int)(b:bb (bb Mn)):Prop:=∀(i:Nat) l,b[i]?=lD l->(l.length:Int)=n/\∀m∈l,VM i a m
def Gn(l0:bb Mn)(k:Nat):Bool:=(l0[k]?.map Mn.isL).getD Uw
def VC(l0:bb Mn)(c:bb Nat×Nat):Prop:=2<=c.1.length/\c.1.Pairwise (·<·)/\(∀k∈c.1,Gn l0 k=Um)/\c.2<26
structure VB(b:Bd):Prop where
 n1:1<=b.n
 n5:b.n<=5
 l1:1<=b.ls.length
 l3:b.ls.length<=3
 vl:VL b.n b.ls.length b.ls
 c4:b.cs.length<=4
 vc:∀c∈b.cs,VC (b.ls.headD []) c
 cu:b.cs.Pairwise λa c=>a.1≠c.1
 w1:1<=b.wt
 w4:b.wt<=4
def wn:Mn->Nat
 |.Vd _=>0
 |.WX _=>1
 |.ZI _ _=>2
 |.once _=>3
 |.none=>4
 |.below=>5
def ws:Nat->Str
 |0=> "letter"
 |1=> "layer"
 |2=> "tap"
 |3=> "once"
 |4=> "none"
 |_=> "below"
def wd(m:Mn):Str:=ws (wn m)
theorem rH(m:Mn):wn m<6:=by cases m<;>exact Uv rfl
theorem rG(m:Mn):bA (mD m) (.int 0)=lD (.fz (.str (wd m))):=by cases m<;>exact jA
theorem Os(m:Mn):Up.strOk (wd m)=Um:=(by left:∀i,i<6->Up.strOk (ws i)=Um) _ (rH m)
theorem AR:∀i,i<6->∀j,j<6->(ws i==ws j)=decide (i=j):=by left
theorem z4(m:Mn)(j:Nat)(a:j<6):d6 (.str (wd m)) (.str (ws j))=lD (.fz (.bool (decide (wn m=j)))):=by rw[Ts (Os m) ((by left:∀i,i<6->Up.strOk (ws i)=Um) j a)];unfold wd;rw[AR _ (rH m) _ a]
def Mn.isB:Mn->Bool
 |.below=>Um
 |_=>Uw
def Mn.ac4:Mn->Bool
 |.WX _=>Um
 |_=>Uw
def Mn.isT:Mn->Bool
 |.ZI _ _=>Um
 |_=>Uw
def Mn.isO:Mn->Bool
 |.once _=>Um
 |_=>Uw
theorem mJ(m:Mn):d6 (.str (wd m)) (.str "letter")=lD (.fz (.bool m.isL)):=(z4 m 0 (by decide)).trans (by cases m<;>rfl)
theorem Hq(m:Mn):d6 (.str (wd m)) (.str "below")=lD (.fz (.bool m.isB)):=(z4 m 5 (by decide)).trans (by cases m<;>rfl)
theorem HW(m:Mn):d6 (.str (wd m)) (.str "layer")=lD (.fz (.bool m.ac4)):=(z4 m 1 (by decide)).trans (by cases m<;>rfl)
theorem QE(m:Mn):d6 (.str (wd m)) (.str "tap")=lD (.fz (.bool m.isT)):=(z4 m 2 (by decide)).trans (by cases m<;>rfl)
theorem KL(m:Mn):d6 (.str (wd m)) (.str "once")=lD (.fz (.bool m.isO)):=(z4 m 3 (by decide)).trans (by cases m<;>rfl)
theorem Rx(m:Mn):BS (.str (wd m)) (.tuple [.str "layer",.str "once"])=lD (.fz (.bool (!(m.ac4||m.isO)))):=by
 have h:∀a:Str,Up.strOk a=Um->BS (.str a) (.tuple [.str "layer",.str "once"])=lD (.fz (.bool (!(("layer":Str)==a||("once":Str)==a)))):=λa ha=>by show(if(ny (.str a)&&(Up.strOk "layer"&&(Up.strOk "once"&&Um)))=Um then lD (RV.fz (.bool (!(Up.eqv (.str "layer") (.str a)||(Up.eqv (.str "once") (.str a)||false)))))else Uh)=_;rw[show ny (.str a)=Um by unfold ny;rw[show Up.canLay0 (.str a)=Um from ha];rfl,show Up.strOk "layer"=Um by left,show Up.strOk "once"=Um by left,afa];rfl
 rw[h _ (Os m)];unfold wd;rw[show(("layer":Str)==ws (wn m))=_ from AR 1 (by decide) _ (rH m),show(("once":Str)==ws (wn m))=_ from AR 3 (by decide) _ (rH m)];cases m<;>rfl
def LB:Mn->Prop
 |.Vd c=>c<26
 |.ZI c _=>c<26
 |_=>True
theorem VM.lb(h:VM L nL m):LB m:=by
 cases m with
 |Vd c=>exact h
 |ZI c n=>exact h.1
 |_=>trivial
theorem og(h:c<26):Up.strOk (k9 c)=Um:=by show((#[97+c]:Array Nat).all λc=>decide (c<0x110000))=Um;simp;ext
theorem xB(h:k9 c=k9 d):c=d:=by
 have:(97+c)=97+d:=by have a:=d3 (λz:Str=>z.cps.toList) h;exact List.head_eq_of_cons_eq a
 ext
theorem Hr(h:LB m):Up.canLay0 (mD m)=Um:=by
 cases m with
 |Vd c=>show(Up.strOk "letter"&&(Up.strOk (k9 c)&&Um))=Um;rw[og h,show Up.strOk "letter"=Um by left];rfl
 |WX n=>show(Up.strOk "layer"&&(Um&&Um))=Um;left
 |ZI c n=>show(Up.strOk "tap"&&(Up.strOk (k9 c)&&(Um&&Um)))=Um;rw[og h,show Up.strOk "tap"=Um by left];rfl
 |once n=>show(Up.strOk "once"&&(Um&&Um))=Um;left
 |none=>show(Up.strOk "none"&&Um)=Um;left
 |below=>show(Up.strOk "below"&&Um)=Um;left
theorem Jk(h:LB m):ny (mD m)=Um:=by unfold ny;rw[Hr h];cases m<;>rfl
def mR:Mn->bb D
 |.Vd c=>[.str (k9 c)]
 |.WX n=>[.int n]
 |.ZI c n=>[.str (k9 c),.int n]
 |.once n=>[.int n]
 |.none=>[]
 |.below=>[]
theorem Oa(m:Mn):mD m=.tuple (.str (wd m)::mR m):=by cases m<;>rfl
theorem Sz(a b:Mn):decide (wd a=wd b)=decide (wn a=wn b):=by have h:=AR _ (rH a) _ (rH b);unfold wd;rw[<-h];rfl
theorem DF(c d:Nat):decide (k9 c=k9 d)=decide (c=d):=decide_eq_decide.mpr ⟨xB,λh=>by rw[h]⟩
theorem PM(a b:Mn)(h:wn a=wn b):Up.eqvAll (mR a) (mR b)=decide (a=b):=by
 cases a<;>cases b<;>first|cases h|skip
 .show(decide (k9 _=k9 _)&&Um)=_;rw[DF,ZO];exact decide_eq_decide.mpr ⟨λh=>by rw[h],λh=>by cases h;rfl⟩
 .show(decide (_=_)&&Um)=_;rw[ZO];exact decide_eq_decide.mpr ⟨λh=>by rw[h],λh=>by cases h;rfl⟩
 .show(decide (k9 _=k9 _)&&(decide (_=_)&&Um))=_;rw[DF,ZO,<-Bool.decide_and];exact decide_eq_decide.mpr ⟨λh=>by rw[h.1,h.2],λh=>by cases h;exact⟨rfl,rfl⟩⟩
 .show(decide (_=_)&&Um)=_;rw[ZO];exact decide_eq_decide.mpr ⟨λh=>by rw[h],λh=>by cases h;rfl⟩
 .rfl
 .rfl
theorem P9(a b:Mn):Up.eqv (mD a) (mD b)=decide (a=b):=by
 rw[Oa,Oa];show(decide (wd a=wd b)&&Up.eqvAll (mR a) (mR b))=_;rw[Sz];by_cases h:wn a=wn b
 .rw[aE h,ZN,PM a b h]
 .rw[aP h,Ye,aP λz=>h (by rw[z])]
theorem Eb:∀{l:bb Mn},(∀m∈l,LB m)->Up.canLayAll0 (l.map mD)=Um
 |[],_=>rfl
 |m::r,h=>by show(Up.canLay0 (mD m)&&Up.canLayAll0 (r.map mD))=Um;rw[Hr (h m UE),Eb λx a=>h x (UC _ a)];rfl
theorem D1(a:Mn):∀l:bb Mn,((l.map mD).any λe=>Up.eqv e (mD a))=decide (a∈l)
 |[]=>rfl
 |m::r=>by rw[UJ,XX,D1 a r,P9,<-Bool.decide_or];exact decide_eq_decide.mpr (by rw[U2];exact⟨λh=>h.imp (λz=>z.symm) id,λh=>h.imp (λz=>z.symm) id⟩)
theorem Nz{l:bb Mn}(ha:LB a)(b:∀m∈l,LB m):KI (mD a) (.list (l.map mD))=lD (.fz (.bool (decide (a∈l)))):=by show(if(ny (mD a)&&Up.canLayAll0 (l.map mD))=Um then _ else _)=_;rw[Jk ha,Eb b,WM,av rfl,D1]
theorem Et(e:α->D)(g:α->bg D)(I:bw->Prop)(xs:bb α)(p:I ρ)(i:xs.length<=1000)(b:∀x∈xs,∀ρ,I ρ->∃ρ',mn gt ft fe (e x) ρ=.ok (g x,ρ')/\I ρ'):lB (d9 gt ft fe (xs.map e) ρ [])=.ok (xs.filterMap g):=by
 have h:∀(xs:bb α) (a:bb D) (ρ:bw),I ρ->a.length+xs.length<=1000->(∀x∈xs,∀ρ,I ρ->∃ρ',mn gt ft fe (e x) ρ=.ok (g x,ρ')/\I ρ')->d9 gt ft fe (xs.map e) ρ a=.ok (a++xs.filterMap g):=by
  intro xs
  induction xs with
  |nil=>intro a ρ _ _ _;show Res.ok a=_;rw[List.filterMap_nil,UT]
  |cons x r j=>
   intro a ρ m i b;rw[UD]at i;obtain⟨ρ',o,n⟩:=b x UE ρ m;rw[UJ,vg o (by ext)];have f:(a++(g x).toList).length+r.length<=1000:=by
    rw[Uo];cases g x with
    |none=>rw[acP,Wn];ext
    |some y=>rw[Option.toList_some,Y7];ext
   rw[j _ ρ' n f λy l=>b y (UC _ l),UQ];cases q:g x with
   |none=>rw[abC q];rfl
   |some y=>rw[abD q];rfl
 rw[h xs [] ρ p (by simpa using i) b];rfl
theorem C7(a:dQ cp=cp):dQ (lD (PV.fz d)::cp)=lD (.fz d)::cp:=by show IA _::dQ cp=_;rw[a];rfl
theorem x8{α:Type}{ft:FT}{fe:FE}{cp:bw}(e f:α->D)(p:α->Bool)(xs:bb α)(i:xs.length<=1000)(l:dQ cp=cp)(g:∀x∈xs,ft (lD (.fz (e x))::cp)=.ok (p x,lD (.fz (e x))::cp))(j:∀x∈xs,p x=Um->fe (lD (.fz (e x))::cp)=.ok (.fz (f x),lD (.fz (e x))::cp)):lB (d9 (gN 0) ft fe (xs.map e) (Uh::cp) [])=.ok ((xs.filter p).map f):=by
 rw[Et e (λx=>if p x=Um then lD (f x)else Uh) (λρ=>∃o,ρ=o::cp) xs ⟨Uh,rfl⟩ i ?_]
 .congr 1
  clear i g j
  induction xs with
  |nil=>rfl
  |cons x r h=>
   cases q:p x with
   |true=>rw[abD (b:=f x) (by rw[av q]),List.filter_cons_of_pos q,h];rfl
   |false=>rw[abC (by rw[ax (by rw[q];simp)]),List.filter_cons_of_neg (by rw[q];simp),h]
 .rintro x a ρ ⟨o,rfl⟩
  cases q:p x with
  |true=>exact⟨_,Je rfl ((g x a).trans (by rw[q])) (j x a q) rfl (C7 l),_,rfl⟩
  |false=>exact⟨_,Se rfl ((g x a).trans (by rw[q])) (C7 l),_,rfl⟩
theorem BU(xs:bb α):xs.filter (λ_=>Um)=xs:=List.filter_eq_self.mpr λ_ _=>rfl
theorem iM{α:Type}(e f:α->D)(xs:bb α)(b:xs.length<=1000)(h:dQ cp=cp)(g:∀x∈xs,fe (lD (.fz (e x))::cp)=.ok (.fz (f x),lD (.fz (e x))::cp)):lB (d9 (gN 0) dc fe (xs.map e) (Uh::cp) [])=.ok (xs.map f):=by rw[x8 e f (λ_=>Um) xs b h (λ_ _=>rfl) λx a _=>g x a,BU]
theorem lL(p:α->Bool):∀l:bb α,rV (l.map λc=>Up.bool (p c))=lD (l.map p)
 |[]=>rfl
 |c::r=>by show(rV (r.map λc=>Up.bool (p c))).map (p c::·)=_;rw[lL p r];rfl
theorem pO(p:α->Bool)(l:bb α):zx [.list (l.map λc=>Up.bool (p c))]=lD (.fz (.bool (l.all p))):=by show(rV _).map (λbs=>RV.fz (.bool (bs.all id)))=_;rw[lL];show lD (RV.fz (.bool _))=_;rw[afT];rfl
theorem jw:∀ns:bb Int,lz (ns.map Up.int)=lD ns
 |[]=>rfl
 |n::r=>by show(lz (r.map Up.int)).map (n::·)=_;rw[jw r];rfl
abbrev Ac:=Nat->bg Mn
abbrev Wq:=bg (bb Nat×Int×bg (Nat×Int))
structure WI where
 ac:Ac
 wt:Wq
 oc:bg Int
def i9(ac:Ac):bb (Nat×Mn):=(Ul 5).filterMap λk=>(ac k).map λa=>(k,a)
def pD(p:Nat×Mn):D:=.tuple [nd p.1,mD p.2]
def vL:bg (Nat×Int)->D
 |some (c,n)=>mD (.ZI c n)
 |none=>.tuple [.str "chord"]
def kJ:Wq->D
 |some (ks,a,w)=>.tuple [.tuple (bQ ks),.int a,vL w]
 |none=>.none
def vo:bg Int->D
 |some o=>.int o
 |none=>.none
def cM(s:WI):D:=.tuple [.tuple ((i9 s.ac).map pD),kJ s.wt,vo s.oc]
inductive X1 where
 |down (k:Nat)
 |up (k:Nat)
 |turn
def dS:X1->D
 |.down k=>.tuple [.str "down",nd k]
 |.up k=>.tuple [.str "up",nd k]
 |.turn=>.tuple [.str "turn",.int 0]
theorem hV:p∈i9 ac↔p.1<5/\ac p.1=lD p.2:=by
 unfold i9;rw[Yf];constructor
 .rintro⟨k,e,b⟩
  cases q:ac k with
  |none=>rw[q]at b;cases b
  |some a=>rw[q]at b;cases b;exact⟨Vr.mp e,q⟩
 .rintro⟨e,b⟩;exact⟨p.1,Vr.mpr e,by rw[b];rfl⟩
theorem yA(ac:Ac):(i9 ac).length<=5:=List.length_filterMap_le _ _
def Q9:Nat×Mn->bg Int
 |(_,.WX n)=>lD n
 |_=>Uh
def Ah(ac:Ac):Int:=(((i9 ac).filterMap Q9).foldl nr Uh).getD 0
def su(ac:Ac):bg Int->Int
 |some o=>o
 |none=>Ah ac
theorem IV(ac:Ac):lB (d9 (gT 2 (Ra (gN 0) (Ra (gN 1) S4))) (aY (aR d6 (aR bA (aa 1) (~~~0)) (pC (.str "layer")))) (aR bA (aa 1) (~~~1)) ((i9 ac).map pD) [Uh,Uh] [])=.ok (((i9 ac).filterMap Q9).map .int):=by
 rw[Et pD (λp=>(Q9 p).map .int) (λρ=>∃e b,ρ=[e,b]) (i9 ac) ⟨Uh,Uh,rfl⟩ (Va (yA ac) (by decide)) ?_,List.map_filterMap];rintro⟨k,a⟩ _ ρ ⟨e,b,rfl⟩;have h:=rG a;have g:=HW a;have f:aY (aR d6 (aR bA (aa 1) (~~~0)) (pC (.str "layer"))) [lD (.fz (nd k)),lD (.fz (mD a))]=.ok (a.ac4,[lD (.fz (nd k)),lD (.fz (mD a))]):=by fail "ev"
 refine⟨[lD (.fz (nd k)),lD (.fz (mD a))],?_,_,_,rfl⟩;cases a with
 |WX n=>exact Je rfl f (aN (af rfl) aO rfl rfl lQ) rfl rfl
 |_=>exact Se rfl f rfl
theorem Ab(s:WI):eB [cM s]=.ok (.fz (.int (su s.ac s.oc))):=by
 refine jJ rfl ?_;have a:bA (cM s) (.int 2)=lD (.fz (vo s.oc)):=tW;have e0:bA (cM s) (.int 0)=lD (.fz (.tuple ((i9 s.ac).map pD))):=jA;unfold om;cases q:s.oc with
 |some o=>
  rw[q]at a;have b:um (vo (lD o)) .none=lD (.fz (.bool Um)):=rfl;fail "go"
  .intro _;exact jO (by fail "ev") rfl rfl
  .intro h;cases h
 |none=>
  rw[q]at a;have b:um (vo Uh) .none=lD (.fz (.bool Uw)):=rfl;fail "go"
  .intro h;cases h
  .intro _;refine gF (fU (dR (rv:=.fz (.int (Ah s.ac))) (am (eC (by fail "ev") rfl (IV s.ac)) aL) rfl ?_) rfl rfl);show(lz _).map _=_;rw[jw];rfl
def vG(b:Bd)(L k:Nat):Mn:=((b.ls[L]?.getD [])[k]?).getD .none
def look(b:Bd)(L:Int)(k:Nat):Mn:=if(vG b L.toNat k).isB=Um then vG b 0 k else vG b L.toNat k
section
variable{b:Bd}(Z:VB b)
include Z
theorem NT{L k:Nat}(a:L<b.ls.length)(f:(k:Int)<b.n):∃l,b.ls[L]?=lD l/\l[k]?=lD (vG b L k):=by
 have g:=Z.vl L _ (Us a);have e:k<(b.ls[L]).length:=by ext
 refine⟨_,Us a,?_⟩;unfold vG;rw[Us a,aai,Us e];rfl
theorem BM{L k:Nat}(e:L<b.ls.length)(a:(k:Int)<b.n):VM L b.ls.length (vG b L k):=by obtain⟨l,g,f⟩:=NT Z e a;exact(Z.vl L l g).2 _ (UL f)
theorem J7{L k:Nat}(e:L<b.ls.length)(a:(k:Int)<b.n):∃d,bA (.tuple (b.ls.map lG)) (nd L)=lD (.fz d)/\bA d (nd k)=lD (.fz (mD (vG b L k))):=by obtain⟨l,g,f⟩:=NT Z e a;exact⟨lG l,Gk (by rw[Uu,g];rfl),Gk (by rw[Uu,f];rfl)⟩
theorem Ly{L:Int}{k:Nat}(r:0<=L)(p:L<b.ls.length)(e:(k:Int)<b.n):jE [bD b,.int L,nd k]=.ok (.fz (mD (look b L k))):=by
 obtain⟨n,rfl⟩:∃n:Nat,L=(n:Int):=⟨L.toNat,by ext⟩;have o:=Z.l1;obtain⟨d,u,j⟩:=J7 Z (L:=n) (by ext) e;obtain⟨l,i,h⟩:=J7 Z (L:=0) (by ext) e;have v:bA (bD b) (.int 1)=lD (.fz (.tuple (b.ls.map lG))):=lQ;have g:=rG (vG b n k);have f:=Hq (vG b n k);have t:bA (.tuple (b.ls.map lG)) (.int 0)=lD (.fz l):=i;have a:look b (n:Int) k=if(vG b n k).isB=Um then vG b 0 k else vG b n k:=rfl
 rw[a];generalize vG b n k=m at j g f a;generalize vG b 0 k=m0 at h a;refine jJ rfl ?_;unfold lM;fail "go"
 .intro q;rw[av q];exact jO (by fail "ev") rfl rfl
 .intro q;rw[ax (by rw[q];simp)];exact gF (fU (by fail "ev") rfl rfl)
theorem xJ{L:Int}{k:Nat}(g:0<=L)(i:L<b.ls.length)(f:(k:Int)<b.n):VM L b.ls.length (look b L k)/\look b L k≠.below:=by
 have h:=Z.l1;have a:=BM Z (L:=0) (k:=k) (by ext) f;have v:=BM Z (L:=L.toNat) (k:=k) (by ext) f;have e:vG b 0 k≠.below:=λz=>by rw[z]at a;exact a rfl
 rw[ZL g]at v;unfold look;split
 .refine⟨?_,e⟩
  generalize vG b 0 k=m at a e;cases m with
  |below=>exact a5 rfl e
  |_=>exact a
 .rename_i q;refine⟨v,λz=>?_⟩;rw[z]at q;exact q rfl
omit Z in
theorem IL(ks:bb Nat)(a:ks.length<=5)(c:bb Nat×Nat):aY (fM zx {eO 1 [0] (gh (aa 1)) (gN 0) dc (aR KI (aa 0) (aR bA (aa 1) (~~~0)))}) [lD (.fz (gU c)),lD (.fz (.tuple (bQ ks)))]=.ok (ks.all λk=>decide (k∈c.1),[lD (.fz (gU c)),lD (.fz (.tuple (bQ ks)))]):=by
 have e:lB (d9 (gN 0) dc (aR KI (aa 0) (aR bA (aa 1) (~~~0))) (bQ ks) [Uh,lD (.fz (gU c))] [])=.ok (ks.map λk=>.bool (decide (k∈c.1))):=iM nd (λk=>.bool (decide (k∈c.1))) ks (by ext) rfl λk _=>by have e0:bA (gU c) (.int 0)=lD (.fz (.tuple (bQ c.1))):=jA;exact aN (rv:=.fz (.bool (decide (k∈c.1)))) (af rfl) (by fail "ev") rfl rfl (wU _ _)
 exact cg (dR (rv:=.fz (.bool (ks.all λk=>decide (k∈c.1)))) (ds:=[.list (ks.map λk=>.bool (decide (k∈c.1)))]) (am (eC (cs:=[gU c]) (ds:=bQ ks) (by fail "ev") rfl e) aL) rfl (pO _ _)) rfl
def gf(b:Bd)(ks:bb Nat):bb (bb Nat×Nat):=b.cs.filter λc=>ks.all λk=>decide (k∈c.1)
theorem ED(a:ks.length<=5):bN [bD b,.tuple (bQ ks)]=.ok (.ow ((gf b ks).map gU)):=by have f:bA (bD b) (.int 2)=lD (.fz (.tuple (b.cs.map gU))):=tW;have e:=Z.c4;refine jJ rfl ?_;unfold jK;exact fU (eC (cs:=[.tuple (bQ ks)]) (by fail "ev") rfl (x8 gU gU (λc=>ks.all λk=>decide (k∈c.1)) b.cs (by ext) rfl (λc _=>IL ks a c) λc _ _=>af rfl)) rfl rfl
def sj(ks:bb Nat):bb Nat:=(l8 (ks.map aaH)).map ab7
omit Z in
theorem uy(ks:bb Nat):(sj ks).Perm ks:=by have h:=(fQ (ks.map aaH)).map ab7;rw[UZ]at h;exact h.trans (by rw[show(ab7∘aaH)=id from funext λx=>rfl,List.map_id])
omit Z in
theorem Mb(ks:bb Nat):(l8 (ks.map aaH)).map Up.int=bQ (sj ks):=by unfold sj bQ;rw[UZ];refine Wy λx a=>?_;obtain⟨n,_,rfl⟩:=Vc.mp ((fQ _).mem_iff.mp a);rfl
omit Z in
theorem B7(ks:bb Nat):(sj ks).Pairwise (·<=·):=by
 have h:∀l:bb Int,l.Pairwise (·<=·)->(l.map ab7).Pairwise (·<=·):=λl h=>by rw[Yq];exact h.imp λh=>by ext
 exact h _ (e9 _)
omit Z in
theorem KO(ks:bb Nat):(sj ks).length=ks.length:=(uy ks).length_eq
omit Z in
theorem z7{ks:bb Nat}(h:ks.length<64):L9.iQ [.tuple (bQ ks)]=lD (.ow (bQ (sj ks))):=by
 have e:bQ ks=(ks.map aaH).map Up.int:=by rw[UZ];rfl
 show(match lz (bQ ks)with
  |some a=>if a.length<64 then lD (RV.ow ((l8 a).map .int))else Uh
  |none=>Uh)=_
 rw[e,jw];dsimp only;rw[av (by rw[Ui];exact h),Mb]
def R0(b:Bd)(ks:bb Nat):bb Mn:=match b.cs.find? λc=>decide (c.1=sj ks)with
 |some c=>.Vd c.2::Uz (ks.length - 1) .none
 |none=>ks.map (vG b 0)
omit Z in
omit Z in
theorem RM(n:Nat)(d:D):(Uz n [d]).flatten=Uz n d:=by
 induction n with
 |zero=>rfl
 |succ n a=>rw[Vy,Wr,a];rfl
theorem PR{ks:bb Nat}(G:1<=ks.length)(F:ks.length<=5)(B:∀k∈ks,(k:Int)<b.n):gx [bD b,.tuple (bQ ks)]=.ok (.ow ((R0 b ks).map mD)):=by
 have H:bA (bD b) (.int 2)=lD (.fz (.tuple (b.cs.map gU))):=tW;have I:bA (bD b) (.int 1)=lD (.fz (.tuple (b.ls.map lG))):=lQ;have E:=Z.l1;have i:=z7 (ks:=ks) (by ext);refine jJ rfl ?_;unfold k7;have rt:∀c:bb Nat×Nat,(aR d7 (cY {cP {pC (.str "letter"),aR bA (aa 2) (~~~1)}}) (aR jh (cY {pC (.tuple [(.str "none")])}) (aR vF (fM db {aa 1}) (~~~1)))) [lD (.fz (bD b)),lD (.fz (.tuple (bQ ks))),lD (.fz (gU c))]=.ok (.ow ((Mn.Vd c.2::Uz (ks.length - 1) Mn.none).map mD),[lD (.fz (bD b)),lD (.fz (.tuple (bQ ks))),lD (.fz (gU c))]):=λc=>by
  have l:bA (gU c) (.int 1)=lD (.fz (.str (k9 c.2))):=lQ;have j:jh (.list [.tuple [.str "none"]]) (.int (((bQ ks).length:Int) - 1))=lD (.ow (Uz (ks.length - 1) (.tuple [.str "none"]))):=by rw[gY,show((ks.length:Int) - 1)=((ks.length - 1:Nat):Int) by ext];exact(QU (by ext) (by decide)).trans (by rw[RM])
  have y:d7 (.list [mD (.Vd c.2)]) (.list (Uz (ks.length - 1) (.tuple [.str "none"])))=lD (.ow ((Mn.Vd c.2::Uz (ks.length - 1) Mn.none).map mD)):=by show(if 1+(Uz (ks.length - 1) (Up.tuple [.str "none"])).length<=1000000 then lD (RV.ow ([mD (.Vd c.2)]++Uz (ks.length - 1) (Up.tuple [.str "none"])))else Uh)=_;rw[U9,av (by ext),UJ,List.map_replicate];rfl
  exact aN (by fail "ev") (aN (by fail "ev") (aN (by fail "ev") aO rfl rfl (uu _ _)) rfl rfl j) rfl rfl y
 have f:∀(e:bb (bb Nat×Nat)) (o:bg PV),(∀c,e.find? (λc=>decide (c.1=sj ks))=lD c->sr (gN 2) (oK (aY (aR d6 (fM t9 {aR bA (aa 2) (~~~0)}) (fM L9.iQ {aa 1}))) (eR (aR d7 (cY {cP {pC (.str "letter"),aR bA (aa 2) (~~~1)}}) (aR jh (cY {pC (.tuple [(.str "none")])}) (aR vF (fM db {aa 1}) (~~~1))))) fG) (e.map gU) [lD (.fz (bD b)),lD (.fz (.tuple (bQ ks))),o]=.ok (.rt (.ow ((Mn.Vd c.2::Uz (ks.length - 1) Mn.none).map mD))))/\
   (e.find? (λc=>decide (c.1=sj ks))=Uh->∃u,sr (gN 2) (oK (aY (aR d6 (fM t9 {aR bA (aa 2) (~~~0)}) (fM L9.iQ {aa 1}))) (eR (aR d7 (cY {cP {pC (.str "letter"),aR bA (aa 2) (~~~1)}}) (aR jh (cY {pC (.tuple [(.str "none")])}) (aR vF (fM db {aa 1}) (~~~1))))) fG) (e.map gU) [lD (.fz (bD b)),lD (.fz (.tuple (bQ ks))),o]=.ok (.nx [lD (.fz (bD b)),lD (.fz (.tuple (bQ ks))),u])):=by
  intro e
  induction e with
  |nil=>exact λo=>⟨λc h=>(by cases h),λ_=>⟨o,rfl⟩⟩
  |cons c r A=>
   intro o;have C:bA (gU c) (.int 0)=lD (.fz (.tuple (bQ c.1))):=jA
   have a:aY (aR d6 (fM t9 {aR bA (aa 2) (~~~0)}) (fM L9.iQ {aa 1})) [lD (.fz (bD b)),lD (.fz (.tuple (bQ ks))),lD (.fz (gU c))]=.ok (decide (c.1=sj ks),[lD (.fz (bD b)),lD (.fz (.tuple (bQ ks))),lD (.fz (gU c))]):=
    cg (aN (dR (by fail "ev") rfl rfl) (dR (by fail "ev") rfl i) rfl rfl (xW _ _)) rfl
   rw[Ve];by_cases h:c.1=sj ks
   .rw[aE h]at a⊢;refine⟨λJ t=>?_,λt=>(by cases t)⟩;cases t;show((gN 2 (.fz (gU c)) [lD (.fz (bD b)),lD (.fz (.tuple (bQ ks))),o]).bind λg=>_)=_;rw[Jl,eg];show((oK _ _ _ [lD (.fz (bD b)),lD (.fz (.tuple (bQ ks))),lD (.fz (gU c))]).bind _)=_;rw[Tb a,xI (rt c) rfl];rfl
   .rw[aP h]at a⊢
    have w:sr (gN 2) (oK (aY (aR d6 (fM t9 {aR bA (aa 2) (~~~0)}) (fM L9.iQ {aa 1}))) (eR (aR d7 (cY {cP {pC (.str "letter"),aR bA (aa 2) (~~~1)}}) (aR jh (cY {pC (.tuple [(.str "none")])}) (aR vF (fM db {aa 1}) (~~~1))))) fG) ((c::r).map gU) [lD (.fz (bD b)),lD (.fz (.tuple (bQ ks))),o]=sr (gN 2) (oK (aY (aR d6 (fM t9 {aR bA (aa 2) (~~~0)}) (fM L9.iQ {aa 1}))) (eR (aR d7 (cY {cP {pC (.str "letter"),aR bA (aa 2) (~~~1)}}) (aR jh (cY {pC (.tuple [(.str "none")])}) (aR vF (fM db {aa 1}) (~~~1))))) fG) (r.map gU) [lD (.fz (bD b)),lD (.fz (.tuple (bQ ks))),lD (.fz (gU c))]:=by show((gN 2 (.fz (gU c)) [lD (.fz (bD b)),lD (.fz (.tuple (bQ ks))),o]).bind λg=>_)=_;rw[Jl,eg];show((oK _ _ _ [lD (.fz (bD b)),lD (.fz (.tuple (bQ ks))),lD (.fz (gU c))]).bind _)=_;rw[Ta a];rfl
    rw[w];exact A _
 obtain⟨z,m⟩:=f b.cs Uh;have v:gh (aR bA (aa 0) (~~~2)) [lD (.fz (bD b)),lD (.fz (.tuple (bQ ks))),Uh]=.ok (b.cs.map gU,[lD (.fz (bD b)),lD (.fz (.tuple (bQ ks))),Uh]):=by fail "ev"
 unfold R0;cases q:b.cs.find? λc=>decide (c.1=sj ks)with
 |some c=>exact .eq (KA ((Bo v).trans (z c q))) ⟨rfl⟩
 |none=>obtain⟨u,m⟩:=m q;refine .eq (Km ((Bo v).trans m)) ?_;refine fU (eC (by fail "ev") rfl ?_) rfl rfl;rw[UZ];refine iM nd (mD∘vG b 0) ks (by ext) rfl λk p=>?_;obtain⟨d,l,j⟩:=J7 Z (L:=0) (by ext) (B k p);have l:bA (.tuple (b.ls.map lG)) (.int 0)=lD (.fz d):=l;exact aN (by fail "ev") (af rfl) rfl rfl j
end
end STP
local macro_rules|`(-($x))=>`(Option.some (.fz $x))
namespace STP
open PySem L2 L3
open L10
def lH(p:Nat×Mn):c7×SV:=(.inl (p.1:Int),.fz (mD p.2))
def nU(ac:Ac)(k:Nat)(o:bg Mn):Ac:=λj=>if j=k then o else ac j
theorem fJ:nU ac k o k=o:=by unfold nU;rw[av rfl]
theorem iB(h:j≠k):nU ac k o j=ac j:=by unfold nU;rw[ax h]
theorem JM(ac:Ac):(i9 ac).Pairwise λp q=>p.1<q.1:=by
 unfold i9;refine agv _ (λa g h p f q b=>?_) (ab8);cases e:ac a with
 |none=>rw[e]at f;cases f
 |some x=>
  cases e':ac g with
  |none=>rw[e']at b;cases b
  |some y=>rw[e]at f;rw[e']at b;cases f;cases b;exact h
theorem uY(ac:Ac):((i9 ac).map (·.1)).Nodup:=by rw[Vg,Yq];exact(JM ac).imp λh=>UX h
theorem CZ{l:bb (Nat×Mn)}(h:(l.map (·.1)).Nodup):l.Nodup:=by rw[Vg,Yq]at h;exact h.imp λh e=>h (by rw[e])
theorem uC{l:bb (Nat×Mn)}(h:(l.map (·.1)).Nodup)(hm:∀p,p∈l↔p.1<5/\ac p.1=lD p.2):l.Perm (i9 ac):=
 (List.perm_ext_iff_of_nodup (CZ h) (CZ (uY ac))).mpr λp=>(hm p).trans hV.symm
section
variable{ps:bb (Nat×Mn)}{ac:Ac}(Z:ps.Perm (i9 ac))
include Z
theorem lP:p∈ps↔p.1<5/\ac p.1=lD p.2:=Z.mem_iff.trans hV
theorem HI:(ps.map (·.1)).Nodup:=(Z.map (·.1)).nodup_iff.mpr (uY ac)
theorem Gu:ps.length<=5:=by rw[Z.length_eq];exact yA ac
theorem pA{k:Nat}(f:k<5):kN (ps.map lH) (.inl (k:Int))=(ac k).map λa=>SV.fz (mD a):=by
 unfold kN;cases q:(ps.map lH).find? λb=>decide (b.1=(.inl (k:Int):c7))with
 |none=>
  cases e:ac k with
  |none=>rfl
  |some a=>have:=List.find?_eq_none.mp q (lH (k,a)) (Vc.mpr ⟨(k,a),(lP Z).mpr ⟨f,e⟩,rfl⟩);exact a5 (aE rfl) this
 |some b=>
  obtain⟨p,i,rfl⟩:=Vc.mp (abf q);have h:=a4 (List.find?_some (p:=λb:c7×SV=>decide (b.1=(.inl (k:Int):c7))) q);have g:p.1=k:=by have:=Sum.inl.inj h;ext
  rw[<-g,((lP Z).mp i).2];rfl
theorem KP{k:Nat}(o:k<5):∃qs:bb (Nat×Mn),lg (ps.map lH) (.inl (k:Int)) (.fz (mD a))=qs.map lH/\qs.Perm (i9 (nU ac k (lD a))):=by
 unfold lg;have g:∀p:Nat×Mn,((lH p).1=(.inl (k:Int):c7))↔p.1=k:=λp=>⟨λh=>by have:=Sum.inl.inj h;ext,λh=>by rw[<-h];rfl⟩;split
 .rename_i h
  refine⟨ps.map λp=>if p.1=k then(k,a)else p,?_,uC ?_ λp=>?_⟩
  .rw[UZ,UZ]
   refine Wy λp _=>?_;show(if(lH p).1=(.inl (k:Int):c7)then((lH p).1,SV.fz (mD a))else lH p)=lH (if p.1=k then(k,a)else p);by_cases e:p.1=k
   .rw[av ((g p).mpr e),av e,(g p).mpr e];rfl
   .rw[ax (λz=>e ((g p).mp z)),ax e]
  .rw[UZ,show ps.map ((·.1)∘λp:Nat×Mn=>if p.1=k then(k,a)else p)=ps.map (·.1)from Wy λp _=>by
    show(if p.1=k then(k,a)else p).1=p.1;split
    .rename_i e;exact e.symm
    .rfl]
   exact HI Z
  .obtain⟨w,l,j⟩:=aaB.mp h
   obtain⟨n,v,rfl⟩:=Vc.mp l;have b:=(g n).mp (a4 j);rw[Vc];constructor
   .rintro⟨r,u,rfl⟩
    split
    .exact⟨o,fJ⟩
    .rename_i e;have:=(lP Z).mp u;exact⟨this.1,by rw[iB e];exact this.2⟩
   .rintro⟨f,i⟩
    by_cases e:p.1=k
    .rw[e,fJ]at i;refine⟨n,v,?_⟩;rw[av b,<-e,UH i]
    .rw[iB e]at i;exact⟨p,(lP Z).mpr ⟨f,i⟩,by rw[ax e]⟩
 .rename_i h
  have hn:=λp m e=>h (aaB.mpr ⟨lH p,Vc.mpr ⟨p,m,rfl⟩,aE ((g p).mpr e)⟩);refine⟨ps++[(k,a)],by rw[UI];rfl,uC ?_ λp=>?_⟩
  .rw[UI,Xz];refine⟨HI Z,Wb.mpr ⟨V6,Zg⟩,λx t y q=>?_⟩;obtain⟨p,b,rfl⟩:=Vc.mp t;rw[UR.mp q];exact hn p b
  .rw[Vp,UR]
   constructor
   .rintro(b|rfl)
    .have:=(lP Z).mp b;exact⟨this.1,by rw[iB (hn p b)];exact this.2⟩
    .exact⟨o,fJ⟩
   .rintro⟨b,f⟩
    by_cases e:p.1=k
    .rw[e,fJ]at f;exact .inr (by rw[<-e,UH f])
    .rw[iB e]at f;exact .inl ((lP Z).mpr ⟨b,f⟩)
theorem GD{k:Nat}:∃qs:bb (Nat×Mn),n6 (ps.map lH) (.inl (k:Int))=qs.map lH/\qs.Perm (i9 (nU ac k Uh)):=by
 have g:∀p:Nat×Mn,((lH p).1=(.inl (k:Int):c7))↔p.1=k:=λp=>⟨λh=>by have:=Sum.inl.inj h;ext,λh=>by rw[<-h];rfl⟩;refine⟨ps.filter λp=>decide (p.1≠k),?_,uC ?_ λp=>?_⟩
 .unfold n6;rw[List.filter_map];congr 1;refine List.filter_congr λp _=>?_;exact decide_eq_decide.mpr (not_congr (g p))
 .exact akM ((List.filter_sublist).map _) (HI Z)
 .rw[WK,lP Z,decide_eq_true_eq]
  constructor
  .rintro⟨⟨b,a⟩,f⟩;exact⟨b,by rw[iB f];exact a⟩
  .rintro⟨b,a⟩
   by_cases e:p.1=k
   .rw[e,fJ]at a;cases a
   .rw[iB e]at a;exact⟨⟨b,a⟩,e⟩
theorem Im:aC Bs ((ps.map lH).map (·.1))=lD (ps.map λp=>(p.1:Int)):=by
 clear Z
 induction ps with
 |nil=>rfl
 |cons p r a=>rw[UJ,UJ];unfold aC;rw[a];rfl
theorem IR:l8 (ps.map λp=>(p.1:Int))=(i9 ac).map λp=>(p.1:Int):=by refine mB ((fQ _).trans (Z.map _)) (e9 _) ?_;rw[Yq];exact(JM ac).imp λh=>by ext
end
abbrev Sn:=bb (Nat×Bool)
def pN(ac:Ac)(a:Mn):Bool:=decide (a∈(i9 ac).map (·.2))
def uX(ac:Ac):Mn->Sn
 |.Vd c=>if pN ac (.Vd c)=Um then[]else[(c,Um)]
 |_=>[]
def Px(ac:Ac):Mn->Sn
 |.Vd c=>if pN ac (.Vd c)=Um then[]else[(c,Uw)]
 |_=>[]
def iq(p:WI×Sn)(k:Nat)(a:Mn):WI×Sn:=({p.1 with ac:=nU p.1.ac k (lD a)},p.2++uX p.1.ac a)
def go(p:WI×Sn)(k:Nat):WI×Sn:=match p.1.ac k with
 |some a=>({p.1 with ac:=nU p.1.ac k Uh},p.2++Px (nU p.1.ac k Uh) a)
 |none=>p
def lc(p:WI×Sn)(a:bb (Nat×Mn)):WI×Sn:=a.foldl (λp q=>iq p q.1 q.2) p
def iu(b:Bd)(ks:bb Nat):bg (Nat×Int)->bb Mn
 |some (_,n)=>[.WX n]
 |none=>R0 b ks
def d8(b:Bd)(p:WI×Sn):WI×Sn:=match p.1.wt with
 |none=>p
 |some (ks,_,w)=>lc ({p.1 with wt:=Uh},p.2) (ks.zip (iu b ks w))
def Fd:Wq->Nat->Bool
 |some (ks,_,_),k=>decide (k∈ks)
 |none,_=>Uw
def HU(b:Bd)(s:WI)(k:Nat):Bool:=match s.wt with
 |some (ks,_,Uh)=>decide (su s.ac s.oc=0)&& !(gf b (ks++[k])).isEmpty
 |_=>Uw
def xH(b:Bd)(p:WI×Sn)(k:Nat):WI×Sn:=match p.1.wt with
 |some (ks,g,_)=>if(gf b (ks++[k])).map (·.1.length)=[(ks++[k]).length]then d8 b ({p.1 with wt:=lD (ks++[k],g,Uh)},p.2)else({p.1 with wt:=lD (ks++[k],g,Uh)},p.2)
 |none=>p
def iA(s:WI)(m:Mn):WI:=if(m.ac4||m.isO)=Um then s else{s with oc:=Uh}
def zZ(b:Bd)(L:Int)(p:WI×Sn)(k:Nat):Mn->WI×Sn
 |.ZI c n=>({p.1 with wt:=lD ([k],0,lD (c,n))},p.2)
 |.Vd c=>if(decide (L=0)&& !(gf b [k]).isEmpty)=Um then({p.1 with wt:=lD ([k],0,Uh)},p.2)else iq p k (.Vd c)
 |.once n=>({(iq p k .none).1 with oc:=lD n},(iq p k .none).2)
 |m=>iq p k m
def KC(b:Bd)(p:WI×Sn)(k:Nat):WI×Sn:=
 zZ b (su p.1.ac p.1.oc) (iA p.1 (look b (su p.1.ac p.1.oc) k),p.2) k (look b (su p.1.ac p.1.oc) k)
def ph(b:Bd)(p:WI×Sn)(k:Nat):WI×Sn:=
 if((p.1.ac k).isSome||Fd p.1.wt k)=Um then p else if HU b p.1 k=Um then xH b p k else KC b (d8 b p) k
def ei(b:Bd)(p:WI×Sn)(k:Nat):WI×Sn:=match p.1.wt with
 |some (_,_,Uh)=>d8 b p
 |some (_,_,lD (c,_))=>iq ({p.1 with wt:=Uh},p.2) k (.Vd c)
 |none=>p
def z6(b:Bd)(p:WI×Sn)(k:Nat):WI×Sn:=go (if Fd p.1.wt k=Um then ei b p k else p) k
def nM(b:Bd)(p:WI×Sn):WI×Sn:=match p.1.wt with
 |none=>p
 |some (ks,g,w)=>if g+1=b.wt then d8 b ({p.1 with wt:=lD (ks,g+1,w)},p.2)else({p.1 with wt:=lD (ks,g+1,w)},p.2)
def aG(b:Bd)(s:WI):X1->WI×Sn
 |.down k=>ph b (s,[]) k
 |.up k=>z6 b (s,[]) k
 |.turn=>nM b (s,[])
def wo(b:Bd)(s:WI):bb (Str×SV):=[("bed",.fz (bD b)),("acts",.rf 1),("waiting",.fz (kJ s.wt)),("once",.fz (vo s.oc)),("sent",.rf 2)]
def jy(p:Nat×Bool):D:=.tuple [.str (k9 p.1),.str (if p.2=Um then "down" else "up")]
def d5(b:Bd)(s:WI)(sn:Sn)(ps:bb (Nat×Mn))(J:bh):bh:=.obj "Hand" (wo b s):: .ZX (ps.map lH):: .lst ((sn.map jy).map .fz)::J
def HS(b:Bd)(p:WI×Sn)(Z:bh):Prop:=∃ps J,ps.Perm (i9 p.1.ac)/\Z=d5 b p.1 p.2 ps J
section
variable{b:Bd}{s:WI}{sn:Sn}{ps:bb (Nat×Mn)}{J:bh}{ρ:bz}{i:Nat}{Z:bh}{p:WI×Sn}{k:Nat}{a:Mn}
theorem Pw:(wo b s).lookup ("bed":Str)=-(bD b):=by unfold wo;rw[WQ]
theorem LA:(wo b s).lookup ("acts":Str)=lD (.rf 1):=by unfold wo;rw[UO,show(("acts":Str)== "bed")=Uw by left];dsimp only;rw[WQ]
theorem LK:(wo b s).lookup ("waiting":Str)=-(kJ s.wt):=by unfold wo;rw[UO,show(("waiting":Str)== "bed")=Uw by left];dsimp only;rw[UO,show(("waiting":Str)== "acts")=Uw by left];dsimp only;rw[WQ]
theorem MB:(wo b s).lookup ("once":Str)=-(vo s.oc):=by unfold wo;rw[UO,show(("once":Str)== "bed")=Uw by left];dsimp only;rw[UO,show(("once":Str)== "acts")=Uw by left];dsimp only;rw[UO,show(("once":Str)== "waiting")=Uw by left];dsimp only;rw[WQ]
theorem Mc:(wo b s).lookup ("sent":Str)=lD (.rf 2):=by unfold wo;rw[UO,show(("sent":Str)== "bed")=Uw by left];dsimp only;rw[UO,show(("sent":Str)== "acts")=Uw by left];dsimp only;rw[UO,show(("sent":Str)== "waiting")=Uw by left];dsimp only;rw[UO,show(("sent":Str)== "once")=Uw by left];dsimp only;rw[WQ]
def Tu(m:Str):Bool:=(m== "bed"||m== "acts"||m== "waiting"||m== "once"||m== "sent")==Uw
theorem RD(h:Tu m=Um):(wo b s).lookup m=Uh:=by unfold Tu at h;simp only[beq_iff_eq,acR]at h;obtain⟨⟨⟨⟨l,j⟩,g⟩,f⟩,e⟩:=h;unfold wo;rw[UO,l];dsimp only;rw[UO,j];dsimp only;rw[UO,g];dsimp only;rw[UO,f];dsimp only;rw[UO,e];rfl
theorem qp(h:ρ[i]?=lD (lD (.rf 0))):aZ "Hand" "bed" (au i) ρ (d5 b s sn ps J)=.ok (.fz (bD b)) (d5 b s sn ps J):=dW (a8 h) rfl Pw
theorem iR(h:ρ[i]?=lD (lD (.rf 0))):aZ "Hand" "acts" (au i) ρ (d5 b s sn ps J)=.ok (.rf 1) (d5 b s sn ps J):=dW (a8 h) rfl LA
theorem b4(h:ρ[i]?=lD (lD (.rf 0))):aZ "Hand" "waiting" (au i) ρ (d5 b s sn ps J)=.ok (.fz (kJ s.wt)) (d5 b s sn ps J):=dW (a8 h) rfl LK
theorem Ei(h:ρ[i]?=lD (lD (.rf 0))):aZ "Hand" "once" (au i) ρ (d5 b s sn ps J)=.ok (.fz (vo s.oc)) (d5 b s sn ps J):=dW (a8 h) rfl MB
theorem xM(h:ρ[i]?=lD (lD (.rf 0))):aZ "Hand" "sent" (au i) ρ (d5 b s sn ps J)=.ok (.rf 2) (d5 b s sn ps J):=dW (a8 h) rfl Mc
theorem IB(w:Wq):eS "waiting" (.fz (kJ w)) (wo b s)=wo b {s with wt:=w}:=by unfold wo;unfold eS;rw[ax (by left)];unfold eS;rw[ax (by left)];unfold eS;rw[av rfl]
theorem GI(o:bg Int):eS "once" (.fz (vo o)) (wo b s)=wo b {s with oc:=o}:=by unfold wo;unfold eS;rw[ax (by left)];unfold eS;rw[ax (by left)];unfold eS;rw[ax (by left)];unfold eS;rw[av rfl]
theorem mK(w:Wq)(h:ρ[i]?=lD (lD (.rf 0)))(e:fe ρ Z=.ok (.fz (kJ w)) (d5 b s sn ps J)):eY "Hand" "waiting" (au i) fe ρ Z=.ok (.nx ρ) (d5 b {s with wt:=w} sn ps J):=
 (kr e (a8 h) rfl (by exact Uv rfl)).trans (by rw[IB];rfl)
theorem Ed(o:bg Int)(h:ρ[i]?=lD (lD (.rf 0)))(e:fe ρ Z=.ok (.fz (vo o)) (d5 b s sn ps J)):eY "Hand" "once" (au i) fe ρ Z=.ok (.nx ρ) (d5 b {s with oc:=o} sn ps J):=
 (kr e (a8 h) rfl (by exact Uv rfl)).trans (by rw[GI];rfl)
theorem cr(e:HS b p Z)(hm:Tu m=Um)(h:ρ[i]?=lD (lD (.rf 0)))(ha:fa ρ Z=.ok xs Z)(hn:(SV.rf 0::xs).length=n)(f:F (.rf 0::xs) Z=.ok x Z'):a9 "Hand" m F n (au i) fa ρ Z=.ok x Z':=by obtain⟨ps,J,g,rfl⟩:=e;exact CV (a8 h) rfl (RD hm) ha hn f
theorem JS(ps:bb (Nat×Mn)):(ps.map lH).map (·.2)=((ps.map (·.2)).map mD).map SV.fz:=by rw[UZ,UZ,UZ];rfl
def AK(ac:Ac):Prop:=∀k a,ac k=lD a->k<5/\LB a
theorem Hv(f:HS b p Z)(g:AK p.1.ac)(ha:LB a):∃Z',bX [.rf 0,.fz (mD a)] Z=.ok (.fz (.bool (pN p.1.ac a))) Z'/\HS b p Z':=by
 obtain⟨ps,J,e,rfl⟩:=f;have j:pN p.1.ac a=decide (a∈ps.map (·.2)):=decide_eq_decide.mpr (e.map (·.2)).symm.mem_iff;have lb:∀m∈ps.map (·.2),LB m:=λm hm=>by obtain⟨q,h,rfl⟩:=Vc.mp hm;exact(g _ _ ((lP e).mp h).2).2
 refine⟨d5 b p.1 p.2 ps (J++[.lst ((ps.map lH).map (·.2))]),?_,ps,_,e,rfl⟩;rw[j];exact jt rfl (iy (dj (ah (af rfl)) (LW (iR rfl) rfl) (uv rfl (dC (by rw[JS];exact aQ)) (Nz ha lb))))
theorem Ec(f:sn.length<1000)(h:ρ[i]?=lD (lD (.rf 0)))(e:fe ρ (d5 b s sn ps J)=.ok (.fz (jy (c,d))) (d5 b s sn ps J)):kK (aZ "Hand" "sent" (au i)) fe ρ (d5 b s sn ps J)=.ok (.fz .none) (d5 b s (sn++[(c,d)]) ps J):=
 (uT (xM h) rfl e rfl (by rw[Ui,Ui];ext)).trans (by unfold d5;rw[UI,UI];rfl)
theorem uG(e:ps.Perm (i9 s.ac))(h:k<5)(o:ρ[0]?=lD (lD (.rf 0)))(n:ρ[1]?=lD (-(nd k)))(m:ρ[2]?=lD (-(mD a))):∃qs:bb (Nat×Mn),qs.Perm (i9 (nU s.ac k (lD a)))/\yX (aZ "Hand" "acts" (au 0)) (ae (aa 1)) (ae (aa 2)) ρ (d5 b s sn ps J)=.ok (.nx ρ) (d5 b {s with ac:=nU s.ac k (lD a)} sn qs J):=by obtain⟨qs,l,j⟩:=KP e h;have g:aa 1 (bT ρ)=.ok (.fz (nd k),bT ρ):=af (by unfold bT;rw[Uu,n];rfl);have f:aa 2 (bT ρ)=.ok (.fz (mD a),bT ρ):=af (by unfold bT;rw[Uu,m];rfl);refine⟨qs,j,(MF (ah f) (iR o) (ah g) rfl rfl (by rw[Ui];have:=Gu e;ext)).trans ?_⟩;rw[l];rfl
theorem sH(l:HS b p Z)(v:AK p.1.ac)(ha:LB a)(m:k<5)(u:p.2.length<1000):∃Z',bF [.rf 0,.fz (nd k),.fz (mD a)] Z=.ok (.fz .none) Z'/\HS b (iq p k a) Z':=by
 have e0:=rG a;have t:=mJ a;cases q:a.isL with
 |false=>
  obtain⟨ps,J,h,rfl⟩:=l;rw[q]at t;obtain⟨f,j,w⟩:=uG (ρ:=[lD (.rf 0),-(nd k),-(mD a)]) h m rfl rfl rfl;refine⟨_,pS rfl (cX (jv (i7 (cy (by fail "ev"))) iS) w),f,J,j,?_⟩;have:uX p.1.ac a=[]:=by cases a<;>first|rfl|cases q
  unfold iq;rw[this,UT]
 |true=>
  rw[q]at t;obtain⟨y,j,z⟩:=Hv l v ha;have g:∀r,pN p.1.ac a=r->(oP (cH (aY (aR d6 (aR bA (aa 2) (~~~0)) (pC (.str "letter"))))) (xC (bK (a9 "Hand" "has_act" bX 2 (au 0) (aj (ae (aa 2)) aH))))) [lD (.rf 0),-(nd k),-(mD a)] Z=.ok (!r) y:=λr e=>by rw[e]at j;exact jU (cy (by fail "ev")) (sW (bx (cr l (by left) rfl (ao (ah (af rfl)) aK) rfl j)))
  obtain⟨ps,J,h,rfl⟩:=z;cases q2:pN p.1.ac a with
  |true=>
   obtain⟨f,o,n⟩:=uG (ρ:=[lD (.rf 0),-(nd k),-(mD a)]) h m rfl rfl rfl;refine⟨_,pS rfl (cX (jv (g Um q2) iS) n),f,J,o,?_⟩;have:uX p.1.ac a=[]:=by
    cases a<;>first|cases q|skip
    show(if pN p.1.ac _=Um then _ else _)=_;rw[av q2]
   unfold iq;rw[this,UT]
  |false=>
   cases a<;>first|cases q|skip
   rename_i c;obtain⟨f,o,n⟩:=uG (ρ:=[lD (.rf 0),-(nd k),-(mD (.Vd c))]) (sn:=p.2++[(c,Um)]) h m rfl rfl rfl;have A:bA (mD (.Vd c)) (.int 1)=-(.str (k9 c)):=lQ;refine⟨_,pS rfl (cX (ib (g Uw q2) (iY (Ec u rfl (ah (show _=Res.ok (PV.fz (.tuple [.str (k9 c),.str "down"]),_) by fail "ev"))))) n),f,J,o,?_⟩;have:uX p.1.ac (.Vd c)=[(c,Um)]:=by show(if pN p.1.ac _=Um then _ else _)=_;rw[ax (by rw[q2];simp)]
   unfold iq;rw[this]
end
end STP
namespace STP
open PySem L2 L3 L10
def VA(a:Int):Mn->Prop
 |.Vd c=>c<26
 |.WX n=>1<=n/\n<a
 |.none=>True
 |_=>False
theorem VA.lb(h:VA nL m):LB m:=by
 cases m with
 |Vd c=>exact h
 |ZI c n=>exact h.elim
 |_=>trivial
structure SA(b:Bd)(s:WI):Prop where
 ac:∀k a,s.ac k=lD a->(k:Int)<b.n/\VA b.ls.length a
 oc:∀o,s.oc=lD o->1<=o/\o<b.ls.length
structure WV(b:Bd)(ac:Ac)(ks:bb Nat)(g:Int)(w:bg (Nat×Int)):Prop where
 ne:ks≠[]
 nd:ks.Nodup
 kn:∀k∈ks,(k:Int)<b.n
 kf:∀k∈ks,ac k=Uh
 g0:0<=g
 tp:∀c n,w=lD (c,n)->c<26/\(1<=n/\n<b.ls.length)/\ks.length=1
 ch:w=Uh->∀k∈ks,Gn (b.ls.headD []) k=Um
structure SW(b:Bd)(s:WI):Prop where
 sa:SA b s
 wt:∀ks g w,s.wt=lD (ks,g,w)->WV b s.ac ks g w/\g<b.wt
theorem Bt{ks:bb Nat}(hd:ks.Nodup)(h:∀k∈ks,k<n):ks.length<=n:=by rw[<-KO ks];have b:=(uy ks).nodup_iff.mpr hd;refine Lp (((B7 ks).and b).imp λh=>by ext) λk a=>h k ((uy ks).mem_iff.mp a)
section
variable{b:Bd}(Z:VB b){s:WI}{p:WI×Sn}{ks:bb Nat}{g:Int}{w:bg (Nat×Int)}{ac:Ac}{k:Nat}{a:Mn}
include Z
theorem WV.len(h:WV b ac ks g w):ks.length<=5:=Bt h.nd λk e=>by have:=h.kn k e;have:=Z.n5;ext
omit Z in
theorem WV.aki(h:WV b ac ks g w):1<=ks.length:=List.length_pos_iff.mpr h.ne
theorem SA.ak(h:SA b s):AK s.ac:=λk a e=>by have:=h.ac k a e;have:=Z.n5;exact⟨by ext,(h.ac k a e).2.lb⟩
omit Z in
theorem SA.cm(h:SA b p.1)(f:(k:Int)<b.n)(ha:VA b.ls.length a):SA b (iq p k a).1:=by
 refine⟨λj x e=>?_,h.oc⟩;by_cases z:j=k
 .subst z;have i:lD a=lD x:=(fJ (ac:=p.1.ac) (k:=j) (o:=lD a)).symm.trans e;cases i;exact⟨f,ha⟩
 .exact h.ac j x ((iB z).symm.trans e)
omit Z in
theorem SA.gg(h:SA b p.1):SA b (go p k).1:=by
 unfold go;split
 .refine⟨λj x e=>?_,h.oc⟩
  by_cases z:j=k
  .subst z;exact a5 ((fJ (ac:=p.1.ac) (k:=j) (o:=Uh)).symm.trans e) (by simp)
  .exact h.ac j x ((iB z).symm.trans e)
 .exact h
omit Z in
theorem uQ:(iq p k a).2.length<=p.2.length+1:=by
 show(p.2++uX p.1.ac a).length<=_;rw[Uo];have:(uX p.1.ac a).length<=1:=by
  cases a with
  |Vd c=>show(if _ then _ else _:Sn).length<=1;split<;>simp
  |_=>simp[uX]
 ext
omit Z in
theorem Gb(e:bb (Nat×Mn)):∀p:WI×Sn,(lc p e).2.length<=p.2.length+e.length:=by
 induction e with
 |nil=>exact λp=>Ux _
 |cons q r f=>intro p;have i:=f (iq p q.1 q.2);have h:=uQ (p:=p) (k:=q.1) (a:=q.2);show(lc (iq p q.1 q.2) r).2.length<=_;rw[UD];ext
omit Z in
theorem SA.cms(e:bb (Nat×Mn)):∀{p:WI×Sn},SA b p.1->(∀q∈e,(q.1:Int)<b.n/\VA b.ls.length q.2)->SA b (lc p e).1/\(lc p e).1.wt=p.1.wt/\(lc p e).1.oc=p.1.oc:=by
 induction e with
 |nil=>exact λh _=>⟨h,rfl,rfl⟩
 |cons q r j=>intro p h f;have i:=f q UE;exact j (h.cm i.1 i.2) λx l=>f x (UC _ l)
theorem Qm(h:Gn (b.ls.headD []) k=Um):∃c,vG b 0 k=.Vd c:=by
 have i:=Z.l1;obtain⟨f,r,e⟩:∃f r,b.ls=f::r:=by
  cases q:b.ls with
  |nil=>rw[q]at i;cases i
  |cons l r=>exact⟨l,r,rfl⟩
 unfold Gn at h;unfold vG;rw[e]at h⊢;rw[abM,aai];rw[List.headD_cons]at h;cases q:f[k]? with
 |none=>rw[q]at h;cases h
 |some m=>
  rw[q]at h;cases m with
  |Vd c=>exact⟨c,rfl⟩
  |_=>cases h
theorem Nk(f:(k:Int)<b.n)(h:Gn (b.ls.headD []) k=Um):VA b.ls.length (vG b 0 k):=by have i:=Z.l1;obtain⟨c,e⟩:=Qm Z h;have:=BM Z (L:=0) (by ext) f;rw[e]at this⊢;exact this
theorem Py(h:WV b ac ks g Uh):∀m∈R0 b ks,VA b.ls.length m:=by
 intro m hm;unfold R0 at hm;split at hm
 .rename_i c f
  rcases U2.mp hm with rfl|hm
  .exact(Z.vc c (abf f)).2.2.2
  .rw[(List.mem_replicate.mp hm).2];trivial
 .obtain⟨j,e,rfl⟩:=Vc.mp hm;exact Nk Z (h.kn j e) (h.ch rfl j e)
theorem xp(h:WV b ac ks g w):∀q∈ks.zip (iu b ks w),(q.1:Int)<b.n/\VA b.ls.length q.2:=by
 intro q f;have e:=X5 f;refine⟨h.kn _ e.1,?_⟩;cases w with
 |none=>exact Py Z h _ e.2
 |some i=>obtain⟨c,n⟩:=i;rw[UR.mp e.2];exact(h.tp c n rfl).2.1
def WD(b:Bd)(s:WI):Prop:=∀ks g w,s.wt=lD (ks,g,w)->WV b s.ac ks g w
theorem ka(h:SA b p.1)(i:WD b p.1):SW b (d8 b p).1/\(d8 b p).1.wt=Uh/\(d8 b p).2.length<=p.2.length+5/\(d8 b p).1.oc=p.1.oc:=by
 unfold d8;split
 .rename_i q;exact⟨⟨h,λks g w e=>by rw[q]at e;cases e⟩,q,aem _ _,rfl⟩
 .rename_i ks g w q
  have v:=i ks g w q;obtain⟨l,f,j⟩:=SA.cms (ks.zip (iu b ks w)) (p:=({p.1 with wt:=Uh},p.2)) ⟨h.ac,h.oc⟩ (xp Z v);refine⟨⟨l,λ_ _ _ e=>?_⟩,f,?_,j⟩
  .rw[f]at e;cases e
  .have:=Gb (ks.zip (iu b ks w)) ({p.1 with wt:=Uh},p.2);have m:=v.len Z;rw[aen]at this;have:(lc ({p.1 with wt:=Uh},p.2) (ks.zip (iu b ks w))).2.length<=p.2.length+min ks.length (iu b ks w).length:=this;ext
omit Z in
theorem Dk:∀(l:bb Int) (m:bg Int),l.foldl nr m=m\/∃x∈l,l.foldl nr m=lD x
 |[],m=>.inl rfl
 |x::r,m=>by
  rw[YT];rcases Dk r (nr m x)with h|⟨y,hy,h⟩
  .rw[h]
   cases m with
   |none=>exact .inr ⟨x,UE,rfl⟩
   |some z=>
    show lD (if x>z then x else z)=lD z\/_;split
    .exact .inr ⟨x,UE,by show lD (if x>z then x else z)=_;rename_i q;rw[av q]⟩
    .exact .inl rfl
  .exact .inr ⟨y,UC _ hy,h⟩
omit Z in
theorem Ds:∀(l:bb Int) (m:bg Int),(∀x∈l,∃y,l.foldl nr m=lD y/\x<=y)/\∀z,m=lD z->∃y,l.foldl nr m=lD y/\z<=y
 |[],m=>⟨λx i=>(by cases i),λz h=>⟨z,h,Yz _⟩⟩
 |x::r,m=>by
  rw[YT];obtain⟨q,o⟩:=Ds r (nr m x);have n:∃z,nr m x=lD z/\x<=z/\∀u,m=lD u->u<=z:=by
   cases m with
   |none=>exact⟨x,rfl,Yz _,λu h=>by cases h⟩
   |some u=>
    refine⟨if x>u then x else u,rfl,?_,λv h=>?_⟩
    .split<;>ext
    .cases h;split<;>ext
  obtain⟨z,A,C,t⟩:=n;obtain⟨y,f,B⟩:=o z A;refine⟨λv e=>?_,λu j=>⟨y,f,by have:=t u j;ext⟩⟩;rcases U2.mp e with rfl|e
  .exact⟨y,f,by ext⟩
  .exact q v e
omit Z in
theorem C1{ac:Ac}{n:Int}:n∈(i9 ac).filterMap Q9↔∃k,k<5/\ac k=lD (.WX n):=by
 rw[Yf];constructor
 .rintro⟨⟨k,m⟩,f,e⟩
  have h:=hV.mp f;cases m with
  |WX x=>have:x=n:=UH e;subst this;exact⟨k,h.1,h.2⟩
  |_=>cases e
 .rintro⟨k,f,e⟩;exact⟨(k,.WX n),hV.mpr ⟨f,e⟩,rfl⟩
theorem M5(h:SA b s):0<=Ah s.ac/\Ah s.ac<b.ls.length/\(∀k n,s.ac k=lD (.WX n)->n<=Ah s.ac)/\(Ah s.ac=0\/∃k,s.ac k=lD (.WX (Ah s.ac))):=by
 have o:=Z.l1;have q:=Z.n5;unfold Ah;generalize hm:((i9 s.ac).filterMap Q9).foldl nr Uh=m;have j:=(Ds ((i9 s.ac).filterMap Q9) Uh).1;have f:=Dk ((i9 s.ac).filterMap Q9) Uh;rw[hm]at j f;have up:∀k n,s.ac k=lD (.WX n)->∃y,m=lD y/\n<=y:=λk n e=>j n (C1.mpr ⟨k,by have:=(h.ac k _ e).1;ext,e⟩);cases m with
 |none=>refine⟨Yz _,by show(0:Int)<_;ext,λk n e=>?_,.inl rfl⟩;obtain⟨y,i,_⟩:=up k n e;cases i
 |some x=>
  rcases f with f|⟨y,hy,f⟩
  .cases f
  .cases f;obtain⟨k,_,e⟩:=C1.mp hy;have:=(h.ac k _ e).2;have:1<=x/\x<b.ls.length:=this;refine⟨by show 0<=x;ext,by show x<_;ext,λk n e=>?_,.inr ⟨k,e⟩⟩;obtain⟨y,i,l⟩:=up k n e;cases i;exact l
theorem B5(h:SA b s):0<=su s.ac s.oc/\su s.ac s.oc<b.ls.length:=by
 cases q:s.oc with
 |none=>have:=M5 Z h;exact⟨this.1,this.2.1⟩
 |some o=>have:=h.oc o q;exact⟨by show 0<=o;ext,this.2⟩
end
section
variable{b:Bd}{s:WI}{sn:Sn}{ps:bb (Nat×Mn)}{J:bh}{ρ:bz}{i:Nat}{Z:bh}{p:WI×Sn}{k:Nat}{a:Mn}
theorem B2(h:f x=lD y):aC f [x]=lD [y]:=by unfold aC;rw[h];rfl
theorem dZ:(l++[c]).set l.length c'=l++[c']:=by simp
theorem qG(f:HS b p Z):∃Z',bL [.rf 0] Z=.ok (.fz (cM p.1)) Z'/\HS b p Z':=by
 obtain⟨ps,J,e,rfl⟩:=f;have h:=Gu e;have j:fZ (wl (aZ "Hand" "acts" (au 0))) [lD (.rf 0)] (d5 b p.1 p.2 ps J)=.ok ((i9 p.1.ac).map λq=>nd q.1) (d5 b p.1 p.2 ps (J++[.dead])):=by
  refine(Hf (ds:=(i9 p.1.ac).map λq=>nd q.1) (NB (iR rfl) rfl (Im e) (by rw[Ui];ext)) ?_).trans ?_
  .rw[IR e];refine aQ.trans ?_;rw[UZ,UZ];rfl
  .rw[dZ];rfl
 have l:cx (cV 0) cR (mh (aj (ae (aa 0)) (aj (wb (aZ "Hand" "acts" (au 1)) (ae (aa 0))) aH))) ((i9 p.1.ac).map λq=>nd q.1) [Uh,lD (.rf 0)] (d5 b p.1 p.2 ps (J++[.dead])) []=.ok (((i9 p.1.ac).map pD).map .fz) (d5 b p.1 p.2 ps (J++[.dead])):=by refine(ja (λq:Nat×Mn=>nd q.1) (λq=>.fz (pD q)) _ (λρ=>∃o,ρ=[o,lD (.rf 0)]) (i9 p.1.ac) _ [] ⟨Uh,rfl⟩ (by have:=yA p.1.ac;rw[Wn];ext) ?_).trans (by rw[UZ];rfl);rintro q g ρ ⟨o,rfl⟩;have hm:=hV.mp g;refine⟨[-(nd q.1),lD (.rf 0)],rfl,rfl,?_,_,rfl⟩;exact qN (ao (ah (af rfl)) (ao (M7 (iR rfl) (ah (af rfl)) rfl rfl (by rw[pA e hm.1,hm.2];rfl)) aK)) (Uv rfl)
 have tp:kg fF (aj (eZ 1 [0] (fZ (wl (aZ "Hand" "acts" (au 0)))) (cV 0) cR (mh (aj (ae (aa 0)) (aj (wb (aZ "Hand" "acts" (au 1)) (ae (aa 0))) aH)))) aH) [lD (.rf 0)] (d5 b p.1 p.2 ps J)=.ok (.fz (.tuple ((i9 p.1.ac).map pD))) (d5 b p.1 p.2 ps (J++[.dead]++[.lst (((i9 p.1.ac).map pD).map .fz)])):=
  nJ (ao (iW j l) aK) (B2 (dC aQ)) rfl
 exact⟨_,jt rfl (iy (qN (ao tp (ao (b4 rfl) (ao (Ei rfl) aK))) (Uv rfl))),ps,_,e,rfl⟩
theorem Jg(h:HS b p Z):ci [.rf 0,.fz (nd k)] Z=.ok (.fz (.bool (Fd p.1.wt k))) Z:=by
 obtain⟨ps,J,l,rfl⟩:=h;refine jt rfl (iy ?_);cases q:p.1.wt with
 |none=>
  have e:um (kJ p.1.wt) .none=-(.bool Uw):=by rw[q];rfl
  exact E4 (bx (dj (b4 rfl) (ah aO) (cI e)))
 |some x=>
  obtain⟨f,g,w⟩:=x;have e:um (kJ p.1.wt) .none=-(.bool Um):=by rw[q];rfl
  have j:bA (kJ p.1.wt) (.int 0)=-(.tuple (bQ f)):=by rw[q];exact jA
  exact FZ (bx (dj (b4 rfl) (ah aO) (cI e))) (dj (ah (af rfl)) (ce (b4 rfl) (ah aO) j) (cI (wU _ _)))
theorem R8(E:HS b p Z)(o:AK p.1.ac)(ha:p.1.ac k=lD a)(F:p.2.length<1000):∃Z',j6 [.rf 0,.fz (nd k)] Z=.ok (.fz .none) Z'/\HS b (go p k) Z':=by
 obtain⟨ps,J,A,rfl⟩:=E;have G:=(o k a ha).1;have lb:=(o k a ha).2;obtain⟨f,K,v⟩:=GD A
 have m:zQ (aZ "Hand" "acts" (au 0)) (ae (aa 1)) [lD (.rf 0),-(nd k),Uh] (d5 b p.1 p.2 ps J)=.ok (.fz (mD a)) (d5 b {p.1 with ac:=nU p.1.ac k Uh} p.2 f J):=
  (MG (iR rfl) rfl (ah (af rfl)) rfl rfl (by rw[pA A G,ha];rfl)).trans (by rw[K];rfl)
 have H:go p k=({p.1 with ac:=nU p.1.ac k Uh},p.2++Px (nU p.1.ac k Uh) a):=by unfold go;rw[ha]
 rw[H];have n:AK (nU p.1.ac k Uh):=λj x e=>by
  by_cases z:j=k
  .subst z;rw[fJ]at e;cases e
  .rw[iB z]at e;exact o j x e
 have e0:=rG a;have N:=mJ a;have h:aY (aR d6 (aR bA (aa 2) (~~~0)) (pC (.str "letter"))) (bT [lD (.rf 0),-(nd k),-(mD a)])=.ok (a.isL,bT [lD (.rf 0),-(nd k),-(mD a)]):=by fail "ev"
 have u:XN (cT (oP (cH (aY (aR d6 (aR bA (aa 2) (~~~0)) (pC (.str "letter"))))) (xC (bK (a9 "Hand" "has_act" bX 2 (au 0) (aj (ae (aa 2)) aH))))) (bS (kK (aZ "Hand" "sent" (au 0)) (ae (cP {aR bA (aa 2) (~~~1),pC (.str "up")})))) dH [lD (.rf 0),-(nd k),-(mD a)] (d5 b {p.1 with ac:=nU p.1.ac k Uh} p.2 f J)) (λ_ Z'=>SV.fz .none=.fz .none/\HS b ({p.1 with ac:=nU p.1.ac k Uh},p.2++Px (nU p.1.ac k Uh) a) Z') (λ_ _=>False) (λr Z'=>r=.fz .none/\HS b ({p.1 with ac:=nU p.1.ac k Uh},p.2++Px (nU p.1.ac k Uh) a) Z'):=by
  cases q:a.isL with
  |false=>
   rw[q]at h;refine eX (i7 (cy h)) (mX ⟨rfl,f,J,v,?_⟩);have:Px (nU p.1.ac k Uh) a=[]:=by cases a<;>first|rfl|cases q
   rw[this,UT]
  |true=>
   rw[q]at h;obtain⟨B,t,L⟩:=Hv (p:=({p.1 with ac:=nU p.1.ac k Uh},p.2)) ⟨f,J,v,rfl⟩ n lb;have g:∀l,pN (nU p.1.ac k Uh) a=l->(oP (cH (aY (aR d6 (aR bA (aa 2) (~~~0)) (pC (.str "letter"))))) (xC (bK (a9 "Hand" "has_act" bX 2 (au 0) (aj (ae (aa 2)) aH))))) [lD (.rf 0),-(nd k),-(mD a)] (d5 b {p.1 with ac:=nU p.1.ac k Uh} p.2 f J)=.ok (!l) B:=λl e=>by
    have t:bX [.rf 0,.fz (mD a)] (d5 b {p.1 with ac:=nU p.1.ac k Uh} p.2 f J)=.ok (.fz (.bool l)) B:=by rw[<-e];exact t
    exact jU (cy h) (sW (bx (cr (p:=({p.1 with ac:=nU p.1.ac k Uh},p.2)) ⟨f,J,v,rfl⟩ (by left) rfl (ao (ah (af rfl)) aK) rfl t)))
   obtain⟨w,C,y,I⟩:=L;rw[I]at g;cases q2:pN (nU p.1.ac k Uh) a with
   |true=>
    refine eX (g Um q2) (mX ⟨rfl,w,C,y,?_⟩);have:Px (nU p.1.ac k Uh) a=[]:=by
     cases a<;>first|cases q|skip
     show(if pN (nU p.1.ac k Uh) _=Um then _ else _)=_;rw[av q2]
    rw[this,UT]
   |false=>
    cases a<;>first|cases q|skip
    rename_i c;have M:bA (mD (.Vd c)) (.int 1)=-(.str (k9 c)):=lQ;refine tH (g Uw q2) (jG (Ec (d:=Uw) F rfl (ah (show _=Res.ok (PV.fz (.tuple [.str (k9 c),.str "up"]),_) by fail "ev"))) ⟨rfl,w,C,y,?_⟩);have:Px (nU p.1.ac k Uh) (.Vd c)=[(c,Uw)]:=by show(if pN (nU p.1.ac k Uh) _=Um then _ else _)=_;rw[ax (by rw[q2];simp)]
    rw[this]
 exact jm rfl (iC m rfl u)
end
section
variable{b:Bd}(Y:VB b){s:WI}{sn:Sn}{ps:bb (Nat×Mn)}{J:bh}{ρ:bz}{i:Nat}{Z:bh}{p:WI×Sn}{k:Nat}{a:Mn}{ks:bb Nat}{g:Int}{w:bg (Nat×Int)}
theorem JF:∀(ks:bb Nat) (e:bb Mn),kY (bQ ks) (e.map mD)=(ks.zip e).map pD
 |[],_=>by cases ‹bb Mn›<;>rfl
 |_::_,[]=>rfl
 |k::r,a::t=>by show Up.tuple [nd k,mD a]::kY (bQ r) (t.map mD)=_;rw[JF r t];rfl
theorem Ct(h:∀c n,w=lD (c,n)->c<26):d6 (vL w) (.tuple [.str "chord"])=-(.bool w.isNone)/\uz (vL w) (.tuple [.str "chord"])=-(.bool w.isSome):=by
 cases w with
 |none=>
  have l:ny (.tuple [.str "chord"])=Um:=by left
  have j:Up.canLay0 (.tuple [.str "chord"])=Um:=by left
  have f:Up.eqv (.tuple [.str "chord"]) (.tuple [.str "chord"])=Um:=by left
  constructor
  .show(if(ny (.tuple [.str "chord"])&&Up.canLay0 (.tuple [.str "chord"]))=Um then lD (RV.fz (.bool (Up.eqv (.tuple [.str "chord"]) (.tuple [.str "chord"]))))else Uh)=_;rw[l,j,f];rfl
  .show(if(ny (.tuple [.str "chord"])&&Up.canLay0 (.tuple [.str "chord"]))=Um then lD (RV.fz (.bool (!Up.eqv (.tuple [.str "chord"]) (.tuple [.str "chord"]))))else Uh)=_;rw[l,j,f];rfl
 |some m=>
  obtain⟨c,n⟩:=m;have lb:LB (.ZI c n):=h c n rfl;have e:Up.eqv (mD (.ZI c n)) (.tuple [.str "chord"])=Uw:=by show(decide (("tap":Str)= "chord")&&Up.eqvAll [.str (k9 c),.int n] [])=Uw;rw[show decide (("tap":Str)= "chord")=Uw by left];rfl
  constructor
  .show(if(ny (mD (.ZI c n))&&Up.canLay0 (.tuple [.str "chord"]))=Um then lD (RV.fz (.bool (Up.eqv (mD (.ZI c n)) (.tuple [.str "chord"]))))else Uh)=_;rw[Jk lb,show Up.canLay0 (.tuple [.str "chord"])=Um by left,e];rfl
  .show(if(ny (mD (.ZI c n))&&Up.canLay0 (.tuple [.str "chord"]))=Um then lD (RV.fz (.bool (!Up.eqv (mD (.ZI c n)) (.tuple [.str "chord"]))))else Uh)=_;rw[Jk lb,show Up.canLay0 (.tuple [.str "chord"])=Um by left,e];rfl
theorem AC(ks:bb Nat)(w:bg (Nat×Int))(f:bb Mn):∀(h:bb (Nat×Mn)) (p:WI×Sn) (Z:bh) (n m:bg SV),HS b p Z->AK p.1.ac->(∀q∈h,q.1<5/\LB q.2)->p.2.length+h.length<1000->
  ∃ρ' Z',jV (Nd 2 (l7 (cV 4) (l7 (cV 5) xA))) (bS (a9 "Hand" "come" bF 3 (au 0) (aj (ae (aa 4)) (aj (ae (aa 5)) aH)))) (h.map pD) [lD (.rf 0),-(.tuple (bQ ks)),-(vL w),-(.list (f.map mD)),n,m] Z=.ok (.nx ρ') Z'/\HS b (lc p h) Z'
 |[],p,Z,n,m,hs,_,_,_=>⟨_,Z,rfl,hs⟩
 |q::r,p,Z,n,m,hs,hA,hq,hl=>by
  rw[UD]at hl;have l:=hq q UE;obtain⟨t,A,E⟩:=sH hs hA l.2 l.1 (by ext);have o:AK (iq p q.1 q.2).1.ac:=λj x e=>by
   by_cases z:j=q.1
   .have B:lD q.2=lD x:=by rw[z]at e;exact(fJ).symm.trans e
    cases B;exact⟨by rw[z];exact l.1,l.2⟩
   .exact hA j x ((iB z).symm.trans e)
  have:=uQ (p:=p) (k:=q.1) (a:=q.2);obtain⟨ρ',Z',y,C⟩:=AC ks w f r (iq p q.1 q.2) t (-(nd q.1)) (-(mD q.2)) E o (λx v=>hq x (UC _ v)) (by ext);refine⟨ρ',Z',?_,C⟩
  have u:bS (a9 "Hand" "come" bF 3 (au 0) (aj (ae (aa 4)) (aj (ae (aa 5)) aH))) [lD (.rf 0),-(.tuple (bQ ks)),-(vL w),-(.list (f.map mD)),-(nd q.1),-(mD q.2)] Z=.ok (.nx [lD (.rf 0),-(.tuple (bQ ks)),-(vL w),-(.list (f.map mD)),-(nd q.1),-(mD q.2)]) t:=
   iY (cr hs (by left) rfl (ao (ah (af rfl)) (ao (ah (af rfl)) aK)) rfl A)
  show((bS (a9 "Hand" "come" bF 3 (au 0) (aj (ae (aa 4)) (aj (ae (aa 5)) aH))) [lD (.rf 0),-(.tuple (bQ ks)),-(vL w),-(.list (f.map mD)),-(nd q.1),-(mD q.2)] Z).bind _)=_;rw[u,eh];exact y
include Y
theorem mE(u:HS b p Z)(o:SA b p.1)(f:p.1.wt=lD (ks,g,w))(v:WV b p.1.ac ks g w)(K:p.2.length<900):∃Z',b6 [.rf 0] Z=.ok (.fz .none) Z'/\HS b (d8 b p) Z':=by
 obtain⟨ps,J,z,rfl⟩:=u;have e0:bA (kJ p.1.wt) (.int 0)=-(.tuple (bQ ks)):=by rw[f];exact jA
 have F:bA (kJ p.1.wt) (.int 2)=-(vL w):=by rw[f];exact tW
 have r:=v.len Y;have t:=v.aki;have E:=Ct λc n h=>(v.tp c n h).1;have C:d8 b p=lc ({p.1 with wt:=Uh},p.2) (ks.zip (iu b ks w)):=by unfold d8;rw[f]
 rw[C];have m:aY (aR d6 (aa 2) (pC (.tuple [.str "chord"]))) (bT [lD (.rf 0),-(.tuple (bQ ks)),-(vL w),Uh,Uh,Uh])=.ok (w.isNone,bT [lD (.rf 0),-(.tuple (bQ ks)),-(vL w),Uh,Uh,Uh]):=cg (aN (af rfl) aO rfl rfl E.1) rfl;have l:jN (OS (cH (aY (aR d6 (aa 2) (pC (.tuple [(.str "chord")]))))) (j8 gx 2 (aj (aZ "Hand" "bed" (au 0)) (aj (ae (aa 1)) aH))) (ae (cY {cP {pC (.str "layer"),aR bA (aa 2) (~~~2)}}))) [lD (.rf 0),-(.tuple (bQ ks)),-(vL w),Uh,Uh,Uh] (d5 b {p.1 with wt:=Uh} p.2 ps J)=.ok (.fz (.list ((iu b ks w).map mD))) (d5 b {p.1 with wt:=Uh} p.2 ps (J++[.dead])):=by
  cases w with
  |none=>have H:=PR Y t r v.kn;exact(iw (ML (cy m) (wV (ao (qp rfl) (ao (ah (af rfl)) aK)) rfl H)) (gl aQ)).trans (by rw[dZ];rfl)
  |some G=>obtain⟨c,n⟩:=G;have I:bA (vL (lD (c,n))) (.int 2)=-(.int n):=tW;exact(iw (Nl (cy m) (dh (show _=Res.ok (PV.ow [.tuple [.str "layer",.int n]],_) by fail "ev"))) (gl aQ)).trans (by rw[dZ];rfl)
 have lp:∃e Z',pW (eT (yr {aa 1,aa 3})) (Nd 2 (l7 (cV 4) (l7 (cV 5) xA))) (bS (a9 "Hand" "come" bF 3 (au 0) (aj (ae (aa 4)) (aj (ae (aa 5)) aH)))) [lD (.rf 0),-(.tuple (bQ ks)),-(vL w),-(.list ((iu b ks w).map mD)),Uh,Uh] (d5 b {p.1 with wt:=Uh} p.2 ps (J++[.dead]))=.ok (.nx e) Z'/\HS b (lc ({p.1 with wt:=Uh},p.2) (ks.zip (iu b ks w))) Z':=by
  have L:=Y.n5;obtain⟨e,Z',B,A⟩:=AC ks w (iu b ks w) (ks.zip (iu b ks w)) ({p.1 with wt:=Uh},p.2) (d5 b {p.1 with wt:=Uh} p.2 ps (J++[.dead])) Uh Uh ⟨ps,_,z,rfl⟩ (SA.ak Y ⟨o.ac,o.oc⟩) (λq y=>by
   have:=xp Y v q y;exact⟨by ext,this.2.lb⟩) (by
   rw[aen];show p.2.length+_<1000;ext)
  refine⟨e,Z',?_,A⟩;unfold pW;rw[fE (sV (am (af rfl) (am (af rfl) aL)) rfl rfl rfl),eh,JF];exact B
 obtain⟨e,Z',lp,j⟩:=lp;refine⟨Z',pS (ρ1:=e) rfl ?_,j⟩;exact cX (mq (ce (b4 rfl) (ah aO) e0) rfl) (cX (mq (ce (b4 rfl) (ah aO) F) rfl) (cX (mK Uh rfl (ah aO)) (cX (mq l rfl) lp)))
omit Y in
theorem LR{c:bb Nat×Nat}(h:c.2<26):Up.canLay0 (gU c)=Um:=by show(Up.canLayAll0 (bQ c.1)&&(Up.strOk (k9 c.2)&&Um))=Um;rw[mQ,og h];rfl
omit Y in
theorem Q3:∀{cs:bb (bb Nat×Nat)},(∀c∈cs,c.2<26)->uz (.list (cs.map gU)) (.list [])=-(.bool (!cs.isEmpty)):=by
 intro cs h;have j:∀cs:bb (bb Nat×Nat),(∀c∈cs,c.2<26)->Up.canLayAll0 (cs.map gU)=Um:=by
  intro cs
  induction cs with
  |nil=>exact λ_=>rfl
  |cons c r e=>intro h;show(Up.canLay0 (gU c)&&Up.canLayAll0 (r.map gU))=Um;rw[LR (h c UE),e λx l=>h x (UC _ l)];rfl
 have f:∀cs:bb (bb Nat×Nat),Up.depthAll (cs.map gU)<=2:=by
  intro cs
  induction cs with
  |nil=>exact Vl _
  |cons c r e=>show max (Up.depth (gU c)) (Up.depthAll (r.map gU))<=2;refine aiL.mpr ⟨?_,e⟩;show max (Up.depthAll (bQ c.1)+1) (max 0 0)+1<=2;rw[mS];decide
 show(if((Up.canLayAll0 (cs.map gU)&&decide (Up.depthAll (cs.map gU)+1<=64))&&Um)=Um then lD (RV.fz (.bool (!Up.eqvAll (cs.map gU) [])))else Uh)=_;rw[j cs h,aE (show Up.depthAll (cs.map gU)+1<=64 by have:=f cs;ext)];cases cs<;>rfl
theorem Ll(h:c∈gf b ks):c.2<26:=(Y.vc c (WK.mp h).1).2.2.2
omit Y in
theorem Ex(h:ks≠[])(e:ks.length<=5):d7 (.tuple (bQ ks)) (.tuple [nd k])=-(.tuple (bQ (ks++[k]))):=by
 show(if bQ ks≠[]/\(bQ ks).length+1<=1000000 then lD (RV.fz (.tuple (bQ ks++[nd k])))else Uh)=_;rw[av ⟨by cases ks with
  |nil=>exact a5 rfl h
  |cons x r=>simp[bQ],by rw[gY];ext⟩,Mu]
 rfl
theorem Dm{fa:dI}{Z1:bh}(e:∃ps J,Z1=d5 b s sn ps J)(l:ρ[0]?=lD (lD (.rf 0)))(f:ks.length<=5)(h:fa ρ Z1=.ok (.fz (.tuple (bQ ks))) Z1):lC uz (j8 bN 2 (aj (aZ "Hand" "bed" (au 0)) (aj fa aH))) (ae (cY az)) ρ Z1=.ok (.fz (.bool (!(gf b ks).isEmpty))) (Z1++[.lst (((gf b ks).map gU).map .fz)]++[.lst []]):=by obtain⟨ps,J,rfl⟩:=e;refine dj (wV (ds:=[bD b,.tuple (bQ ks)]) (ao (qp l) (ao h aK)) rfl (ED Y f)) (dh (ds:=[]) (ρ':=bT ρ) (p9 aL rfl (Vl _))) ?_;exact uv (dC (jg aQ)) (dC (ds:=[]) aQ) (Q3 λc j=>Ll Y j)
theorem Pz(l:HS b p Z)(F:SW b p.1)(M:(k:Int)<b.n)(hn:Fd p.1.wt k=Uw):∃Z',ef [.rf 0,.fz (nd k)] Z=.ok (.fz (.bool (HU b p.1 k))) Z'/\HS b p Z':=by
 cases q:p.1.wt with
 |none=>
  have m:HU b p.1 k=Uw:=by unfold HU;rw[q]
  rw[m];obtain⟨ps,J,j,rfl⟩:=l;have o:vx (kJ p.1.wt) .none=-(.bool Um):=by rw[q];rfl
  exact⟨_,jt rfl (re (ib (oW (bx (dj (b4 rfl) (ah aO) (cI o)))) (iy (ah aO)))),ps,J,j,rfl⟩
 |some x=>
  obtain⟨ks,g,w⟩:=x;have v:=(F.wt ks g w q).1;have G:=v.len Y;have o:vx (kJ p.1.wt) .none=-(.bool Uw):=by rw[q];rfl
  have C:bA (kJ p.1.wt) (.int 2)=-(vL w):=by rw[q];exact tW
  have e0:bA (kJ p.1.wt) (.int 0)=-(.tuple (bQ ks)):=by rw[q];exact jA
  have B:=(Ct λc n h=>(v.tp c n h).1).2;cases w with
  |some O=>
   have m:HU b p.1 k=Uw:=by unfold HU;rw[q]
   rw[m];obtain⟨ps,J,j,rfl⟩:=l;exact⟨_,jt rfl (re (ib (jZ (bx (dj (b4 rfl) (ah aO) (cI o))) (oW (bx (dj (ce (b4 rfl) (ah aO) C) (ah aO) (cI B))))) (iy (ah aO)))),ps,J,j,rfl⟩
  |none=>
   have m:HU b p.1 k=(decide (su p.1.ac p.1.oc=0)&& !(gf b (ks++[k])).isEmpty):=by unfold HU;rw[q]
   rw[m];obtain⟨z,K,E⟩:=qG l;have f:(Bb (bK (lC vx (aZ "Hand" "waiting" (au 0)) (ae (pC .none)))) (Bb (bK (lC uz (fP (aZ "Hand" "waiting" (au 0)) (ae (~~~2))) (ae (pC (.tuple [(.str "chord")]))))) (bK (lC uz (j8 eB 1 (aj (a9 "Hand" "stands" bL 1 (au 0) aH) aH)) (ae (~~~0)))))) [lD (.rf 0),-(nd k)] Z=.ok (!decide (su p.1.ac p.1.oc=0)) z:=by
    have L:bK (lC uz (j8 eB 1 (aj (a9 "Hand" "stands" bL 1 (au 0) aH) aH)) (ae (~~~0))) [lD (.rf 0),-(nd k)] Z=.ok (!decide (su p.1.ac p.1.oc=0)) z:=
     bx (dj (Bc (ao (cr l (by left) rfl aK rfl K) aK) rfl (Ab p.1)) (ah aO) (cI (yt _ _)))
    obtain⟨ps,J,j,rfl⟩:=l;exact jZ (bx (dj (b4 rfl) (ah aO) (cI o))) (jZ (bx (dj (ce (b4 rfl) (ah aO) C) (ah aO) (cI B))) L)
   by_cases A:su p.1.ac p.1.oc=0
   .rw[aE A]at f⊢
    obtain⟨ps,J,j,rfl⟩:=E;have u:k∉ks:=by rw[q]at hn;exact of_decide_eq_false hn
    have r:(ks++[k]).Nodup:=by rw[Xz];exact⟨v.nd,Wb.mpr ⟨V6,Zg⟩,λx t y H e=>u (by rw[<-UR.mp H,<-e];exact t)⟩
    have I:(ks++[k]).length<=5:=Bt r λx t=>by
     have N:=Y.n5;rcases Vp.mp t with h|h
     .have:=v.kn x h;ext
     .rw[UR.mp h];ext
    refine⟨_,jt rfl (cX (jv f iS) (iy (Dm Y ⟨ps,J,rfl⟩ rfl I (dj (ce (b4 rfl) (ah aO) e0) (ah (gW (am (af rfl) aL) rfl (Uv rfl))) (cI (Ex v.ne G)))))),ps,_,j,rfl⟩
   .rw[aP A]at f⊢;exact⟨z,jt rfl (re (ib f (iy (ah aO)))),E⟩
end
section
variable{b:Bd}(Y:VB b){s:WI}{sn:Sn}{ps:bb (Nat×Mn)}{J:bh}{ρ:bz}{i:Nat}{Z:bh}{p:WI×Sn}{k:Nat}{a:Mn}{ks:bb Nat}{g:Int}{w:bg (Nat×Int)}
include Y
theorem Qi(v:WV b p.1.ac ks g w)(hn:k∉ks)(m:(k:Int)<b.n):(ks++[k]).Nodup/\(ks++[k]).length<=5:=by
 have f:(ks++[k]).Nodup:=by rw[Xz];exact⟨v.nd,Wb.mpr ⟨V6,Zg⟩,λx j y l e=>hn (by rw[<-UR.mp l,<-e];exact j)⟩
 refine⟨f,Bt f λx j=>?_⟩;have o:=Y.n5;rcases Vp.mp j with h|h
 .have:=v.kn x h;ext
 .rw[UR.mp h];ext
theorem BZ(o:SW b p.1)(m:(k:Int)<b.n)(ha:p.1.ac k=Uh)(hn:Fd p.1.wt k=Uw)(hm:HU b p.1 k=Um):∃ks g,p.1.wt=lD (ks,g,Uh)/\k∉ks/\WV b p.1.ac (ks++[k]) g Uh/\g<b.wt:=by
 unfold HU at hm;split at hm
 .rename_i ks g q
  rw[UW]at hm;obtain⟨v,t⟩:=o.wt ks g Uh q;have f:k∉ks:=by rw[q]at hn;exact of_decide_eq_false hn
  obtain⟨l,A⟩:=Qi Y v f m;refine⟨ks,g,q,f,⟨by simp,l,λx e=>?_,λx e=>?_,v.g0,λc n h=>(by cases h),λ_ x e=>?_⟩,t⟩
  .rcases Vp.mp e with h|h
   .exact v.kn x h
   .rw[UR.mp h];exact m
  .rcases Vp.mp e with h|h
   .exact v.kf x h
   .rw[UR.mp h];exact ha
  .have j:=hm.2
   cases qo:gf b (ks++[k])with
   |nil=>rw[qo]at j;cases j
   |cons c r=>
    have u:c∈gf b (ks++[k]):=by rw[qo];exact UE
    obtain⟨z,y⟩:=WK.mp u;have:=WC.mp y x e;exact(Y.vc c z).2.2.1 x (a4 this)
 .cases hm
theorem Ni(t:HS b p Z)(l:SW b p.1)(h:p.1.wt=lD (ks,g,Uh))(v:WV b p.1.ac (ks++[k]) g Uh)(j:WV b p.1.ac ks g Uh)(u:p.2.length<900):∃Z',dJ [.rf 0,.fz (nd k)] Z=.ok (.fz .none) Z'/\HS b (xH b p k) Z':=by
 obtain⟨ps,J,m,rfl⟩:=t;have n:=v.len Y;have e0:bA (kJ p.1.wt) (.int 0)=-(.tuple (bQ ks)):=by rw[h];exact jA
 have C:bA (kJ p.1.wt) (.int 1)=-(.int g):=by rw[h];exact lQ
 have B:xH b p k=if(gf b (ks++[k])).map (·.1.length)=[(ks++[k]).length]then d8 b ({p.1 with wt:=lD (ks++[k],g,Uh)},p.2)else({p.1 with wt:=lD (ks++[k],g,Uh)},p.2):=by unfold xH;rw[h]
 have F:HS b ({p.1 with wt:=lD (ks++[k],g,Uh)},p.2) (d5 b {p.1 with wt:=lD (ks++[k],g,Uh)} p.2 ps J):=⟨ps,J,m,rfl⟩;have E:cx (cV 0) cR (ae (fM db {aR bA (aa 0) (~~~0)})) ((gf b (ks++[k])).map gU) [Uh] (d5 b {p.1 with wt:=lD (ks++[k],g,Uh)} p.2 ps (J++[.dead])) []=.ok ((bQ ((gf b (ks++[k])).map (·.1.length))).map .fz) (d5 b {p.1 with wt:=lD (ks++[k],g,Uh)} p.2 ps (J++[.dead])):=by
  refine(ja gU (λc=>.fz (nd c.1.length)) _ (λρ=>∃o,ρ=[o]) (gf b (ks++[k])) _ [] ⟨Uh,rfl⟩ ?_ ?_).trans (by unfold bQ;rw[UZ,UZ];rfl)
  .have:=Y8 (λc:bb Nat×Nat=>(ks++[k]).all λk=>decide (k∈c.1)) b.cs;have:=Y.c4;show 0+(gf b (ks++[k])).length<=_;unfold gf;ext
  .rintro c _ ρ ⟨o,rfl⟩;have r:bA (gU c) (.int 0)=-(.tuple (bQ c.1)):=jA;refine⟨[-(gU c)],rfl,rfl,ah (dR (am (aN (af rfl) aO rfl rfl r) aL) rfl ((lZ _).trans (by rw[gY]))),_,rfl⟩
 have A:fZ (j8 bN 2 (aj (aZ "Hand" "bed" (au 0)) (aj (ae (aa 2)) aH))) [lD (.rf 0),-(nd k),-(.tuple (bQ (ks++[k])))] (d5 b {p.1 with wt:=lD (ks++[k],g,Uh)} p.2 ps J)=.ok ((gf b (ks++[k])).map gU) (d5 b {p.1 with wt:=lD (ks++[k],g,Uh)} p.2 ps (J++[.dead])):=
  (Hf (wV (ao (qp rfl) (ao (ah (af rfl)) aK)) rfl (ED Y n)) aQ).trans (by rw[dZ];rfl)
 have rt:cY {fM db {aa 2}} (bT [lD (.rf 0),-(nd k),-(.tuple (bQ (ks++[k])))])=.ok (.ow (bQ [(ks++[k]).length]),bT [lD (.rf 0),-(nd k),-(.tuple (bQ (ks++[k])))]):=by refine p9 (am (dR (am (af rfl) aL) rfl ((lZ _).trans (by rw[gY]))) aL) rfl (Uv rfl)
 have f:bK (lC d6 (eZ 1 [] (fZ (j8 bN 2 (aj (aZ "Hand" "bed" (au 0)) (aj (ae (aa 2)) aH)))) (cV 0) cR (ae (fM db {aR bA (aa 0) (~~~0)}))) (ae (cY {fM db {aa 2}}))) [lD (.rf 0),-(nd k),-(.tuple (bQ (ks++[k])))] (d5 b {p.1 with wt:=lD (ks++[k],g,Uh)} p.2 ps J)=.ok (decide ((gf b (ks++[k])).map (·.1.length)=[(ks++[k]).length])) (d5 b {p.1 with wt:=lD (ks++[k],g,Uh)} p.2 ps (J++[.dead])++[.lst ((bQ ((gf b (ks++[k])).map (·.1.length))).map .fz)]++[.lst ((bQ [(ks++[k]).length]).map .fz)]):=
  bx (dj (iW A E) (dh rt) (uv (dC (jg aQ)) (dC aQ) (xW _ _)))
 have e:HS b ({p.1 with wt:=lD (ks++[k],g,Uh)},p.2) (d5 b {p.1 with wt:=lD (ks++[k],g,Uh)} p.2 ps (J++[.dead])++[.lst ((bQ ((gf b (ks++[k])).map (·.1.length))).map .fz)]++[.lst ((bQ [(ks++[k]).length]).map .fz)]):=⟨ps,_,m,rfl⟩;generalize (d5 b {p.1 with wt:=lD (ks++[k],g,Uh)} p.2 ps (J++[.dead])++[.lst ((bQ ((gf b (ks++[k])).map (·.1.length))).map .fz)]++[.lst ((bQ [(ks++[k]).length]).map .fz)]:bh)=Z3 at f e;rw[B];refine jm rfl (iC (dj (ce (b4 rfl) (ah aO) e0) (ah (gW (am (af rfl) aL) rfl (Uv rfl))) (cI (Ex j.ne (j.len Y)))) rfl (C5 (mK (lD (ks++[k],g,Uh)) rfl (qN (ao (ah (af rfl)) (ao (ce (b4 rfl) (ah aO) C) (ao (ah aO) aK))) (Uv rfl))) (zv f (λq=>?_) λq=>?_)))
 .rw[av (a4 q)];obtain⟨G,z,y⟩:=mE Y e ⟨l.sa.ac,l.sa.oc⟩ rfl v u;exact jG (cr e (by left) rfl aK rfl z) ⟨rfl,y⟩
 .rw[ax (of_decide_eq_false q)];exact mX ⟨rfl,e⟩
theorem KS(f:SW b p.1)(h:p.1.wt=lD (ks,g,Uh))(v:WV b p.1.ac (ks++[k]) g Uh)(j:g<b.wt):SW b (xH b p k).1:=by
 have l:xH b p k=if(gf b (ks++[k])).map (·.1.length)=[(ks++[k]).length]then d8 b ({p.1 with wt:=lD (ks++[k],g,Uh)},p.2)else({p.1 with wt:=lD (ks++[k],g,Uh)},p.2):=by unfold xH;rw[h]
 rw[l];split
 .exact(ka Y (p:=({p.1 with wt:=lD (ks++[k],g,Uh)},p.2)) ⟨f.sa.ac,f.sa.oc⟩ λ_ _ _ e=>by cases e;exact v).1
 .exact⟨⟨f.sa.ac,f.sa.oc⟩,λ_ _ _ e=>by cases e;exact⟨v,j⟩⟩
omit Y in
theorem En(s:WI)(m:Mn):(iA s m).ac=s.ac/\(iA s m).wt=s.wt:=by unfold iA;split<;>exact⟨rfl,rfl⟩
omit Y in
theorem Dg{m:Mn}(h:SA b s):SA b (iA s m):=by
 unfold iA;split
 .exact h
 .exact⟨h.ac,λo e=>by cases e⟩
theorem Qu(E:HS b p Z)(R:SA b p.1)(hw:p.1.wt=Uh)(T:(k:Int)<b.n)(hl:p.2.length<900):∃Z',gH [.rf 0,.fz (nd k)] Z=.ok (.fz .none) Z'/\HS b (KC b p k) Z':=by
 obtain⟨P,O⟩:=B5 Y R;have K:=Ly Y P O T;obtain⟨u,I⟩:=xJ Y P O T;obtain⟨Z1,h1,YM⟩:=qG E;have h5:=Y.n5;have eb:KC b p k=zZ b (su p.1.ac p.1.oc) (iA p.1 (look b (su p.1.ac p.1.oc) k),p.2) k (look b (su p.1.ac p.1.oc) k):=rfl;rw[eb];have S:j8 eB 1 (aj (a9 "Hand" "stands" bL 1 (au 0) aH) aH) [lD (.rf 0),-(nd k),Uh,Uh,Uh] Z=.ok (.fz (.int (su p.1.ac p.1.oc))) Z1:=Bc (ao (cr E (by left) rfl aK rfl h1) aK) rfl (Ab p.1);generalize su p.1.ac p.1.oc=L at K u I S P O;generalize look b L k=m at K u I;obtain⟨ps,J,hp,rfl⟩:=YM;have lb:=u.lb;have c0:=rG m;have c1:=Rx m;have c2:=QE m;have c3:=mJ m;have c4:=KL m;have eL:d6 (.int L) (.int 0)=-(.bool (decide (L=0))):=kh _ _;have A:(aM (cT (cH (aY (aR BS (aa 4) (cP {pC (.str "layer"),pC (.str "once")})))) (eY "Hand" "once" (au 0) (ae (pC .none))) dH) dH) [lD (.rf 0),-(nd k),-(.int L),-(mD m),-(.str (wd m))] (d5 b p.1 p.2 ps J)=.ok (.nx [lD (.rf 0),-(nd k),-(.int L),-(mD m),-(.str (wd m))]) (d5 b (iA p.1 m) p.2 ps J):=by
  have t:cH (aY (aR BS (aa 4) (cP {pC (.str "layer"),pC (.str "once")}))) [lD (.rf 0),-(nd k),-(.int L),-(mD m),-(.str (wd m))] (d5 b p.1 p.2 ps J)=.ok (!(m.ac4||m.isO)) (d5 b p.1 p.2 ps J):=cy (by fail "ev");unfold iA;cases q:(m.ac4||m.isO)with
  |true=>rw[q]at t;rw[av rfl];exact cX (jv t iS) iS
  |false=>rw[q]at t;rw[ax UM];exact cX (ib t (Ed Uh rfl (ah aO))) iS
 have Q:=En p.1 m;have H:SA b (iA p.1 m):=Dg R;have e:ps.Perm (i9 (iA p.1 m).ac):=by rw[Q.1];exact hp
 have z:HS b (iA p.1 m,p.2) (d5 b (iA p.1 m) p.2 ps J):=⟨ps,J,e,rfl⟩;generalize iA p.1 m=s2 at A Q H e z;have N:XN ((cT (cH (aY (aR d6 (aa 4) (pC (.str "tap"))))) (eY "Hand" "waiting" (au 0) (ae (cP {cP {aa 1},~~~0,aa 3}))) (cT (oP (cH (aY (aR d6 (aa 4) (pC (.str "letter"))))) (oP (cH (aY (aR d6 (aa 2) (~~~0)))) (bK (lC uz (j8 bN 2 (aj (aZ "Hand" "bed" (au 0)) (aj (ae (cP {aa 1})) aH))) (ae (cY az)))))) (eY "Hand" "waiting" (au 0) (ae (cP {cP {aa 1},~~~0,pC (.tuple [(.str "chord")])}))) (cT (cH (aY (aR d6 (aa 4) (pC (.str "once"))))) (aM (bS (a9 "Hand" "come" bF 3 (au 0) (aj (ae (aa 1)) (aj (ae (pC (.tuple [(.str "none")]))) aH))))
 (eY "Hand" "once" (au 0) (ae (aR bA (aa 3) (~~~1))))) (bS (a9 "Hand" "come" bF 3 (au 0) (aj (ae (aa 1)) (aj (ae (aa 3)) aH))))))) [lD (.rf 0),-(nd k),-(.int L),-(mD m),-(.str (wd m))] (d5 b s2 p.2 ps J)) (λ_ Z'=>SV.fz .none=.fz .none/\HS b (zZ b L (s2,p.2) k m) Z') (λ_ _=>False) (λr Z'=>r=.fz .none/\HS b (zZ b L (s2,p.2) k m) Z'):=by
  have y:∀{Z:bh},cH (aY (aR d6 (aa 4) (pC (.str "tap")))) [lD (.rf 0),-(nd k),-(.int L),-(mD m),-(.str (wd m))] Z=.ok m.isT Z:=cy (by fail "ev");have C:∀{Z:bh},cH (aY (aR d6 (aa 4) (pC (.str "letter")))) [lD (.rf 0),-(nd k),-(.int L),-(mD m),-(.str (wd m))] Z=.ok m.isL Z:=cy (by fail "ev");have B:∀{Z:bh},cH (aY (aR d6 (aa 4) (pC (.str "once")))) [lD (.rf 0),-(nd k),-(.int L),-(mD m),-(.str (wd m))] Z=.ok m.isO Z:=cy (by fail "ev");have F:∀{Z:bh},cH (aY (aR d6 (aa 2) (~~~0))) [lD (.rf 0),-(nd k),-(.int L),-(mD m),-(.str (wd m))] Z=.ok (decide (L=0)) Z:=cy (by fail "ev");have kt:∀{Z:bh},ae (cP {aa 1}) [lD (.rf 0),-(nd k),-(.int L),-(mD m),-(.str (wd m))] Z=.ok (.fz (.tuple (bQ [k]))) Z:=ah (gW (am (af rfl) aL) rfl (Uv rfl));have cm:∀{Z:bh},HS b (s2,p.2) Z->VA b.ls.length m->∃Z',bS (a9 "Hand" "come" bF 3 (au 0) (aj (ae (aa 1)) (aj (ae (aa 3)) aH))) [lD (.rf 0),-(nd k),-(.int L),-(mD m),-(.str (wd m))] Z=.ok (.nx [lD (.rf 0),-(nd k),-(.int L),-(mD m),-(.str (wd m))]) Z'/\HS b (iq (s2,p.2) k m) Z':=λ{Z} E va=>by obtain⟨Z',l,j⟩:=sH (k:=k) E (H.ak Y) va.lb (by ext) (show p.2.length<1000 by ext);exact⟨Z',iY (cr E (by left) rfl (ao (ah (af rfl)) (ao (ah (af rfl)) aK)) rfl l),j⟩
  cases m with
  |below=>exact a5 rfl I
  |ZI c n=>refine tH y (pL (mK (lD ([k],0,lD (c,n))) rfl (ah (ρ':=bT [lD (.rf 0),-(nd k),-(.int L),-(mD (.ZI c n)),-(.str (wd (.ZI c n)))]) ?_)) ⟨rfl,ps,J,e,rfl⟩);show _=Res.ok (PV.fz (.tuple [.tuple [nd k],.int 0,mD (.ZI c n)]),_);fail "ev"
  |Vd c=>
   obtain⟨d1,d2⟩:VA b.ls.length (.Vd c)/\True:=⟨u,trivial⟩;by_cases G:L=0
   .rw[aE G]at F
    have ov:=Dm Y (Z1:=d5 b s2 p.2 ps J) ⟨ps,J,rfl⟩ rfl (Uv rfl) kt;have M:HS b (s2,p.2) (d5 b s2 p.2 ps J++[.lst (((gf b [k]).map gU).map .fz)]++[.lst []]):=⟨ps,_,e,rfl⟩;have v:zZ b L (s2,p.2) k (.Vd c)=if(!(gf b [k]).isEmpty)=Um then({s2 with wt:=lD ([k],0,Uh)},p.2)else iq (s2,p.2) k (.Vd c):=by show(if(decide (L=0)&& !(gf b [k]).isEmpty)=Um then _ else _)=_;rw[aE G,ZN]
    rw[v];refine eX y (zv (jU C (jU F (bx ov))) (λq=>?_) λq=>?_)
    .rw[av q];refine pL (mK (lD ([k],0,Uh)) rfl (ah (ρ':=bT [lD (.rf 0),-(nd k),-(.int L),-(mD (.Vd c)),-(.str (wd (.Vd c)))]) ?_)) ⟨rfl,ps,_,e,rfl⟩;show _=Res.ok (PV.fz (.tuple [.tuple [nd k],.int 0,.tuple [.str "chord"]]),_);fail "ev"
    .rw[ax (by rw[q];simp)];obtain⟨Z',l,j⟩:=cm M u;exact eX B (pL l ⟨rfl,j⟩)
   .rw[aP G]at F
    have v:zZ b L (s2,p.2) k (.Vd c)=iq (s2,p.2) k (.Vd c):=by show(if(decide (L=0)&& !(gf b [k]).isEmpty)=Um then _ else _)=_;rw[aP G,Ye,ax UM]
    rw[v];obtain⟨Z',l,j⟩:=cm z u;exact eX y (eX (jU C (i7 F)) (eX B (pL l ⟨rfl,j⟩)))
  |WX n=>obtain⟨Z',l,j⟩:=cm z u;exact eX y (eX (i7 C) (eX B (pL l ⟨rfl,j⟩)))
  |none=>obtain⟨Z',l,j⟩:=cm z trivial;exact eX y (eX (i7 C) (eX B (pL l ⟨rfl,j⟩)))
  |once n=>obtain⟨Z',l,j⟩:=sH (k:=k) (a:=.none) z (H.ak Y) trivial (by ext) (show p.2.length<1000 by ext);have i1:bA (mD (.once n)) (.int 1)=-(.int n):=lQ;obtain⟨X,J2,hq,rfl⟩:=j;refine eX y (eX (i7 C) (tH B (C5 (iY (cr z (by left) rfl (ao (ah (af rfl)) (ao (ah aO) aK)) rfl l)) (pL (Ed (lD n) rfl (ah (ρ':=bT [lD (.rf 0),-(nd k),-(.int L),-(mD (.once n)),-(.str (wd (.once n)))]) ?_)) ⟨rfl,X,J2,hq,rfl⟩))));show _=Res.ok (PV.fz (.int n),_);exact aN (rv:=.fz (.int n)) (af rfl) aO rfl rfl i1
 refine jm (ρ:=[lD (.rf 0),-(nd k),Uh,Uh,Uh]) rfl (iC S rfl (iC (Bc (ds:=[bD b,.int L,nd k]) (ao (qp rfl) (ao (ah (af rfl)) (ao (ah (af rfl)) aK))) rfl K) rfl (iC (ah (d:=.str (wd m)) (ρ':=bT [lD (.rf 0),-(nd k),-(.int L),-(mD m),Uh]) (aN (rv:=.fz (.str (wd m))) (af rfl) aO rfl rfl c0)) rfl ?_)));refine .eq ?_ N;have U:∀{f g:fu} {ρ:bz} {Z Z':bh},aM f dH ρ Z=.ok (.nx ρ) Z'->aM f g ρ Z=g ρ Z':=λ{f g ρ Z Z'} h=>by
  unfold aM at h⊢;cases q:f ρ Z with
  |bad=>rw[q]at h;cases h
  |er x o=>rw[q]at h;cases h
  |ok fl o=>
   rw[q]at h;cases fl with
   |nx r=>cases h;rfl
   |_=>cases h
 exact U A
end
section
variable{b:Bd}(Y:VB b){s:WI}{sn:Sn}{ps:bb (Nat×Mn)}{J:bh}{ρ:bz}{i:Nat}{Z:bh}{p:WI×Sn}{k:Nat}{a:Mn}{ks:bb Nat}{g:Int}{w:bg (Nat×Int)}
include Y
omit Y in
theorem Ez(h:SA b s)(f:s.wt=Uh):SW b s:=⟨h,λ_ _ _ e=>by rw[f]at e;cases e⟩
theorem Qt(A:SA b p.1)(M:p.1.wt=Uh)(y:(k:Int)<b.n)(ha:p.1.ac k=Uh):SW b (KC b p k).1:=by
 obtain⟨H,G⟩:=B5 Y A;obtain⟨f,v⟩:=xJ Y H G y;have O:KC b p k=zZ b (su p.1.ac p.1.oc) (iA p.1 (look b (su p.1.ac p.1.oc) k),p.2) k (look b (su p.1.ac p.1.oc) k):=rfl;rw[O];generalize su p.1.ac p.1.oc=L at f v H G;generalize look b L k=m at f v;have z:=En p.1 m;have l:SA b (iA p.1 m):=Dg A;have j:=z.2.trans M;have u:(iA p.1 m).ac k=Uh:=by rw[z.1];exact ha
 generalize iA p.1 m=s2 at l j u;have S:=Y.w1;have C:[k].Nodup:=Wb.mpr ⟨V6,Zg⟩;have E:∀x∈[k],(x:Int)<b.n:=λx t=>by rw[UR.mp t];exact y
 have F:∀x∈[k],s2.ac x=Uh:=λx t=>by rw[UR.mp t];exact u
 have cm:∀m,VA b.ls.length m->SW b (iq (s2,p.2) k m).1:=λm I=>Ez (l.cm y I) j;cases m with
 |below=>exact a5 rfl v
 |ZI c n=>refine⟨⟨l.ac,l.oc⟩,λ_ _ _ e=>?_⟩;cases e;exact⟨⟨by simp,C,E,F,Yz _,λR K e=>by cases e;exact⟨f.1,f.2,rfl⟩,λe=>by cases e⟩,by ext⟩
 |Vd c=>
  show SW b (if(decide (L=0)&& !(gf b [k]).isEmpty)=Um then({s2 with wt:=lD ([k],0,Uh)},p.2)else iq (s2,p.2) k (.Vd c)).1;split
  .rename_i q
   refine⟨⟨l.ac,l.oc⟩,λ_ _ _ e=>?_⟩;cases e;refine⟨⟨by simp,C,E,F,Yz _,λR K e=>(by cases e),λ_ x t=>?_⟩,by ext⟩;have B:=(UW _ _▸q:_/\_).2;cases qo:gf b [k]with
   |nil=>rw[qo]at B;cases B
   |cons c r=>
    have N:c∈gf b [k]:=by rw[qo];exact UE
    obtain⟨Q,P⟩:=WK.mp N;exact(Y.vc c Q).2.2.1 x (a4 (WC.mp P x t))
  .exact cm _ f
 |WX n=>exact cm _ f
 |none=>exact cm _ trivial
 |once n=>have h:=cm .none trivial;exact⟨⟨h.sa.ac,λo e=>by cases e;exact f⟩,λks g w e=>by have e:s2.wt=lD (ks,g,w):=e;rw[j]at e;cases e⟩
theorem SW.wd(h:SW b s):WD b s:=λks g w e=>(h.wt ks g w e).1
omit Y in
theorem BE(e:bb (Nat×Mn)):∀{p:WI×Sn},p.1.ac k=Uh->k∉e.map (·.1)->(lc p e).1.ac k=Uh:=by
 induction e with
 |nil=>exact λh _=>h
 |cons q r f=>intro p h hn;rw[UJ,U2,not_or]at hn;exact f (p:=iq p q.1 q.2) ((iB hn.1).trans h) hn.2
omit Y in
theorem Bu(ha:p.1.ac k=Uh)(hn:Fd p.1.wt k=Uw):(d8 b p).1.ac k=Uh:=by
 unfold d8;split
 .exact ha
 .rename_i ks g w q;refine BE _ (p:=({p.1 with wt:=Uh},p.2)) ha λz=>?_;rw[q]at hn;obtain⟨x,e,rfl⟩:=Vc.mp z;exact of_decide_eq_false hn (X5 e).1
theorem Ji(e:SW b p.1)(f:(k:Int)<b.n):SW b (ph b p k).1:=by
 unfold ph;split
 .exact e
 .rename_i q
  rw[X6,not_or]at q;have ha:p.1.ac k=Uh:=by
   cases z:p.1.ac k with
   |none=>rfl
   |some x=>rw[z]at q;exact a5 rfl q.1
  have hn:Fd p.1.wt k=Uw:=by
   cases z:Fd p.1.wt k with
   |false=>rfl
   |true=>exact a5 z q.2
  split
  .rename_i h;obtain⟨ks,g,m,o,l,j⟩:=BZ Y e f ha hn h;exact KS Y e m l j
  .have d:=ka Y e.sa (SW.wd Y e);exact Qt Y d.1.sa d.2.1 f (Bu ha hn)
theorem Io(h:HS b p Z)(e:SW b p.1)(B:(k:Int)<b.n)(Q:p.2.length<800):∃Z',iX [.rf 0,.fz (nd k)] Z=.ok (.fz .none) Z'/\HS b (ph b p k) Z':=by
 have R:=Y.n5;have A:k<5:=by ext
 have O:Bb (bK (Al Uw (ae (aa 1)) (aZ "Hand" "acts" (au 0)))) (bK (a9 "Hand" "is_waiting" ci 2 (au 0) (aj (ae (aa 1)) aH))) [lD (.rf 0),-(nd k)] Z=.ok ((p.1.ac k).isSome||Fd p.1.wt k) Z:=by
  have I:=cr (ρ:=[lD (.rf 0),-(nd k)]) (i:=0) (m:= "is_waiting") (fa:=aj (ae (aa 1)) aH) h (by left) rfl (ao (ah (af rfl)) aK) rfl (Jg h);obtain⟨ps,J,y,rfl⟩:=h
  have u:Al Uw (ae (aa 1)) (aZ "Hand" "acts" (au 0)) [lD (.rf 0),-(nd k)] (d5 b p.1 p.2 ps J)=.ok (.fz (.bool (p.1.ac k).isSome)) (d5 b p.1 p.2 ps J):=
   (AY (ah (af rfl)) (iR rfl) rfl rfl).trans (by rw[show kN (ps.map lH) (.inl (k:Int))=_ from pA y A];cases p.1.ac k<;>rfl)
  cases q:(p.1.ac k).isSome with
  |true=>rw[q]at u;rw[Xx];exact oW (bx u)
  |false=>rw[q]at u;rw[Yy];exact jZ (bx u) (bx I)
 refine jm rfl (zt O (λq=>?_) λq=>oS ?_)
 .unfold ph;rw[av q];exact xD ⟨rfl,h⟩
 rw[acR]at q;have ha:p.1.ac k=Uh:=by
  cases z:p.1.ac k with
  |none=>rfl
  |some x=>rw[z]at q;exact a5 q.1 (by simp)
 have L:ph b p k=if HU b p.1 k=Um then xH b p k else KC b (d8 b p) k:=by unfold ph;rw[ax (by rw[q.1,q.2];simp)]
 rw[L];obtain⟨P,H,f⟩:=Pz Y h e B q.2;refine zt (bx (cr h (by left) rfl (ao (ah (af rfl)) aK) rfl H)) (λt=>?_) λt=>oS ?_
 .rw[av t];obtain⟨ks,g,j,T,N,S⟩:=BZ Y e B ha q.2 t;obtain⟨o,C,l⟩:=Ni Y f e j N (e.wt _ _ _ j).1 (by ext);exact Ql (ko (cr f (by left) rfl (ao (ah (af rfl)) aK) rfl C) (xD ⟨rfl,l⟩))
 .rw[ax (by rw[t];simp)]
  have d:=ka Y e.sa (SW.wd Y e);have F:∀o,HS b (d8 b p) o->XN (bS (a9 "Hand" "begin" gH 2 (au 0) (aj (ae (aa 1)) aH)) [lD (.rf 0),-(nd k)] o) (λ_ Z'=>SV.fz .none=.fz .none/\HS b (KC b (d8 b p) k) Z') (λ_ _=>False) (λr Z'=>r=.fz .none/\HS b (KC b (d8 b p) k) Z'):=λo l=>by obtain⟨U,K,v⟩:=Qu Y l d.1.sa d.2.1 B (by have:=d.2.2.1;ext);exact jG (cr l (by left) rfl (ao (ah (af rfl)) aK) rfl K) ⟨rfl,v⟩
  cases qw:p.1.wt with
  |none=>
   have M:d8 b p=p:=by unfold d8;rw[qw]
   have j:um (kJ p.1.wt) .none=-(.bool Uw):=by rw[qw];rfl
   have E:=F P (by rw[M];exact f);obtain⟨ps,J,y,rfl⟩:=f;exact uP (bx (dj (b4 rfl) (ah aO) (cI j))) (oS E)
  |some x=>
   obtain⟨ks,g,w⟩:=x;have j:um (kJ p.1.wt) .none=-(.bool Um):=by rw[qw];rfl
   obtain⟨o,C,l⟩:=mE Y f e.sa qw (e.wt _ _ _ qw).1 (by ext);have G:=cr (ρ:=[lD (.rf 0),-(nd k)]) (i:=0) (m:= "decide") f (by left) rfl aK rfl C;obtain⟨ps,J,y,rfl⟩:=f;exact ye (bx (dj (b4 rfl) (ah aO) (cI j))) (ko G (F o l))
theorem qW(e:SW b p.1)(f:Fd p.1.wt k=Um):SW b (ei b p k).1/\(ei b p k).2.length<=p.2.length+5:=by
 unfold ei;split
 .have d:=ka Y e.sa (SW.wd Y e);exact⟨d.1,d.2.2.1⟩
 .rename_i ks g c n q;have v:=(e.wt _ _ _ q).1;rw[q]at f;have h:=v.kn k (a4 f);have j:=(v.tp c n rfl).1;refine⟨Ez (SA.cm ⟨e.sa.ac,e.sa.oc⟩ h j) rfl,?_⟩;have:=uQ (p:=({p.1 with wt:=Uh},p.2)) (k:=k) (a:=.Vd c);have:(iq ({p.1 with wt:=Uh},p.2) k (.Vd c)).2.length<=p.2.length+1:=this;ext
 .exact⟨e,aem _ _⟩
theorem j9(j:HS b p Z)(e:SW b p.1)(f:Fd p.1.wt k=Um)(I:p.2.length<800):∃Z',g8 [.rf 0,.fz (nd k)] Z=.ok (.fz .none) Z'/\HS b (ei b p k) Z':=by
 have L:=Y.n5;cases q:p.1.wt with
 |none=>rw[q]at f;cases f
 |some x=>
  obtain⟨ks,g,w⟩:=x;have v:=(e.wt _ _ _ q).1;have l:k∈ks:=by rw[q]at f;exact a4 f
  have z:bA (kJ p.1.wt) (.int 2)=-(vL w):=by rw[q];exact tW
  have F:=(Ct λc n h=>(v.tp c n h).1).1;have u:∀{Z:bh},cH (aY (aR d6 (aa 2) (pC (.tuple [.str "chord"])))) [lD (.rf 0),-(nd k),-(vL w)] Z=.ok w.isNone Z:=cy (cg (aN (af rfl) aO rfl rfl F) rfl);cases w with
  |none=>
   have r:ei b p k=d8 b p:=by unfold ei;rw[q]
   rw[r];obtain⟨H,o,t⟩:=mE Y j e.sa q v (by ext);have B:=cr (ρ:=[lD (.rf 0),-(nd k),-(vL Uh)]) (i:=0) (m:= "decide") j (by left) rfl aK rfl o;obtain⟨ps,J,y,rfl⟩:=j;exact jm rfl (iC (ce (b4 rfl) (ah aO) z) rfl (tH u (jG B ⟨rfl,t⟩)))
  |some G=>
   obtain⟨c,n⟩:=G;have r:ei b p k=iq ({p.1 with wt:=Uh},p.2) k (.Vd c):=by unfold ei;rw[q]
   rw[r];have E:=(v.tp c n rfl).1;have K:=v.kn k l;obtain⟨ps,J,y,rfl⟩:=j;have A:HS b ({p.1 with wt:=Uh},p.2) (d5 b {p.1 with wt:=Uh} p.2 ps J):=⟨ps,J,y,rfl⟩;obtain⟨H,o,t⟩:=sH (k:=k) (a:=.Vd c) A (SA.ak Y ⟨e.sa.ac,e.sa.oc⟩) E (by ext) (show p.2.length<1000 by ext);have C:bA (vL (lD (c,n))) (.int 1)=-(.str (k9 c)):=lQ;exact jm rfl (iC (ce (b4 rfl) (ah aO) z) rfl (eX u (C5 (mK Uh rfl (ah aO)) (jG (cr A (by left) rfl (ao (ah (af rfl)) (ao (ah (gW (am aO (am (aN (af rfl) aO rfl rfl C) aL)) rfl (Uv rfl))) aK)) rfl o) ⟨rfl,t⟩))))
omit Y in
theorem OE(f:SW b p.1):SW b (go p k).1:=by
 refine⟨f.sa.gg,?_⟩;unfold go;split
 .intro ks g w e;obtain⟨v,j⟩:=f.wt ks g w e;exact⟨⟨v.ne,v.nd,v.kn,λx h=>by
   by_cases z:x=k
   .rw[z];exact fJ
   .exact(iB z).trans (v.kf x h),v.g0,v.tp,v.ch⟩,j⟩
 .exact f.wt
theorem LM(e:SW b p.1):SW b (z6 b p k).1:=by
 unfold z6;split
 .rename_i q;exact OE (qW Y e q).1
 .exact OE e
theorem L8(e:HS b p Z)(h:SW b p.1)(C:(k:Int)<b.n)(t:p.2.length<700):∃Z',jD [.rf 0,.fz (nd k)] Z=.ok (.fz .none) Z'/\HS b (z6 b p k) Z':=by
 have E:=Y.n5;have j:k<5:=by ext
 have f:∀{p:WI×Sn} {Z:bh},HS b p Z->SW b p.1->p.2.length<800->XN (cT (bK (Al Uw (ae (aa 1)) (aZ "Hand" "acts" (au 0)))) (bS (a9 "Hand" "go" j6 2 (au 0) (aj (ae (aa 1)) aH))) dH [lD (.rf 0),-(nd k)] Z) (λ_ Z'=>SV.fz .none=.fz .none/\HS b (go p k) Z') (λ_ _=>False) (λr Z'=>r=.fz .none/\HS b (go p k) Z'):=λ{p Z} e h t=>by
  cases qa:p.1.ac k with
  |none=>
   have y:go p k=p:=by unfold go;rw[qa]
   rw[y];obtain⟨ps,J,l,rfl⟩:=e;refine eX (bx ((AY (ah (af rfl)) (iR rfl) rfl rfl).trans (by rw[show kN (ps.map lH) (.inl (k:Int))=_ from pA l j,qa];rfl))) (mX ⟨rfl,ps,J,l,rfl⟩)
  |some a=>obtain⟨F,u,A⟩:=R8 e (h.sa.ak Y) qa (by ext);have o:=cr (ρ:=[lD (.rf 0),-(nd k)]) (i:=0) (m:= "go") (fa:=aj (ae (aa 1)) aH) e (by left) rfl (ao (ah (af rfl)) aK) rfl u;obtain⟨ps,J,l,rfl⟩:=e;exact tH (bx ((AY (ah (af rfl)) (iR rfl) rfl rfl).trans (by rw[show kN (ps.map lH) (.inl (k:Int))=_ from pA l j,qa];rfl))) (jG o ⟨rfl,A⟩)
 refine jm rfl (zt (bx (cr e (by left) rfl (ao (ah (af rfl)) aK) rfl (Jg e))) (λq=>?_) λq=>?_)
 .unfold z6;rw[av q];obtain⟨G,v,B⟩:=j9 Y e h q (by ext);have z:=qW Y h q;exact ko (cr e (by left) rfl (ao (ah (af rfl)) aK) rfl v) (f B z.1 (by ext))
 .unfold z6;rw[ax (by rw[q];simp)];exact oS (f e h (by ext))
theorem No(f:SW b p.1):SW b (nM b p).1:=by
 unfold nM;split
 .exact f
 .rename_i ks g w q
  obtain⟨v,l⟩:=f.wt ks g w q;have j:WV b p.1.ac ks (g+1) w:=⟨v.ne,v.nd,v.kn,v.kf,by have:=v.g0;ext,v.tp,v.ch⟩;split
  .exact(ka Y (p:=({p.1 with wt:=lD (ks,g+1,w)},p.2)) ⟨f.sa.ac,f.sa.oc⟩ λ_ _ _ e=>by cases e;exact j).1
  .rename_i h;exact⟨⟨f.sa.ac,f.sa.oc⟩,λ_ _ _ e=>by cases e;exact⟨j,by ext⟩⟩
theorem Nx(n:HS b p Z)(e:SW b p.1)(A:p.2.length<800):∃Z',gD [.rf 0] Z=.ok (.fz .none) Z'/\HS b (nM b p) Z':=by
 obtain⟨ps,J,l,rfl⟩:=n;cases q:p.1.wt with
 |none=>
  have f:nM b p=p:=by unfold nM;rw[q]
  rw[f];have h:vx (kJ p.1.wt) .none=-(.bool Um):=by rw[q];rfl
  exact jm rfl (ye (bx (dj (b4 rfl) (ah aO) (cI h))) (xD ⟨rfl,ps,J,l,rfl⟩))
 |some x=>
  obtain⟨ks,g,w⟩:=x;have v:=(e.wt _ _ _ q).1;have m:WV b p.1.ac ks (g+1) w:=⟨v.ne,v.nd,v.kn,v.kf,by have:=v.g0;ext,v.tp,v.ch⟩;have f:nM b p=if g+1=b.wt then d8 b ({p.1 with wt:=lD (ks,g+1,w)},p.2)else({p.1 with wt:=lD (ks,g+1,w)},p.2):=by unfold nM;rw[q]
  rw[f];have h:vx (kJ p.1.wt) .none=-(.bool Uw):=by rw[q];rfl
  have e0:bA (kJ p.1.wt) (.int 0)=-(.tuple (bQ ks)):=by rw[q];exact jA
  have u:bA (kJ p.1.wt) (.int 2)=-(vL w):=by rw[q];exact tW
  have t:bA (kJ p.1.wt) (.int 1)=-(.int g):=by rw[q];exact lQ
  have r:bA (bD b) (.int 3)=-(.int b.wt):=Gk rfl;have j:HS b ({p.1 with wt:=lD (ks,g+1,w)},p.2) (d5 b {p.1 with wt:=lD (ks,g+1,w)} p.2 ps J):=⟨ps,J,l,rfl⟩;refine jm rfl (uP (bx (dj (b4 rfl) (ah aO) (cI h))) (oS (iC (dj (ce (b4 rfl) (ah aO) t) (ah aO) (cI (ir _ _))) rfl (C5 (mK (lD (ks,g+1,w)) rfl (qN (ao (ce (b4 rfl) (ah aO) e0) (ao (ah (af rfl)) (ao (ce (b4 rfl) (ah aO) u) aK))) (Uv rfl))) (zv (bx (dj (ah (af rfl)) (ce (qp rfl) (ah aO) r) (cI (kh _ _)))) (λz=>?_) λz=>?_)))))
  .rw[av (a4 z)];obtain⟨B,o,y⟩:=mE Y j ⟨e.sa.ac,e.sa.oc⟩ rfl m (show p.2.length<900 by ext);exact jG (cr j (by left) rfl aK rfl o) ⟨rfl,y⟩
  .rw[ax (of_decide_eq_false z)];exact mX ⟨rfl,j⟩
def X1.adU:X1->Bool
 |.turn=>Um
 |_=>Uw
def X1.isDown:X1->Bool
 |.down _=>Um
 |_=>Uw
def EV(b:Bd):X1->Prop
 |.down k=>(k:Int)<b.n
 |.up k=>(k:Int)<b.n
 |.turn=>True
theorem iL(f:SW b s)(h:EV b e):SW b (aG b s e).1:=by
 cases e with
 |down k=>exact Ji Y f h
 |up k=>exact LM Y f
 |turn=>exact No Y f
omit Y in
theorem wc:∀l:bb (Nat×Mn),aC tM (l.map pD)=lD (l.map lH)
 |[]=>rfl
 |q::r=>by rw[UJ];unfold aC;rw[wc r];rfl
omit Y in
theorem An:∀(l f:bb (Nat×Mn)),((f++l).map (·.1)).Nodup->oj (f.map lH) (l.map lH)=(f++l).map lH
 |[],f,_=>by rw[UT];rfl
 |q::r,f,h=>by
  have hn:∀x∈f,x.1≠q.1:=λx j e=>by rw[UI,Xz]at h;exact h.2.2 _ (Vc.mpr ⟨x,j,rfl⟩) q.1 UE e
  have t:lg (f.map lH) (lH q).1 (lH q).2=(f++[q]).map lH:=by
   unfold lg;rw[ax ?_,UI]
   .rfl
   .intro z;obtain⟨u,o,n⟩:=aaB.mp z;obtain⟨x,m,rfl⟩:=Vc.mp o;have:=Sum.inl.inj (a4 n);exact hn x m (by ext)
  show oj (lg (f.map lH) (lH q).1 (lH q).2) (r.map lH)=_;rw[t,An r (f++[q]) (by rw[UQ];exact h),UQ];rfl
omit Y in
theorem MM:eK [.rf 0,.fz (bD b),.fz (cM s)] [.obj "Hand" []]=.ok (.fz .none) (d5 b s [] (i9 s.ac) []):=by
 have e0:bA (cM s) (.int 0)=-(.tuple ((i9 s.ac).map pD)):=jA;have y:bA (cM s) (.int 1)=-(kJ s.wt):=lQ;have v:bA (cM s) (.int 2)=-(vo s.oc):=tW;have z:eS "bed" (.fz (bD b)) []=([("bed",.fz (bD b))]:bb (Str×SV)):=rfl;have q:eS "acts" (.rf 1) ([("bed",.fz (bD b))]:bb (Str×SV))=([("bed",.fz (bD b)),("acts",.rf 1)]:bb (Str×SV)):=by unfold eS;rw[ax (by left)];rfl
 have o:eS "waiting" (.fz (kJ s.wt)) ([("bed",.fz (bD b)),("acts",.rf 1)]:bb (Str×SV))=([("bed",.fz (bD b)),("acts",.rf 1),("waiting",.fz (kJ s.wt))]:bb (Str×SV)):=by unfold eS;rw[ax (by left)];unfold eS;rw[ax (by left)];rfl
 have n:eS "once" (.fz (vo s.oc)) ([("bed",.fz (bD b)),("acts",.rf 1),("waiting",.fz (kJ s.wt))]:bb (Str×SV))=([("bed",.fz (bD b)),("acts",.rf 1),("waiting",.fz (kJ s.wt)),("once",.fz (vo s.oc))]:bb (Str×SV)):=by unfold eS;rw[ax (by left)];unfold eS;rw[ax (by left)];unfold eS;rw[ax (by left)];rfl
 have m:eS "sent" (.rf 2) ([("bed",.fz (bD b)),("acts",.rf 1),("waiting",.fz (kJ s.wt)),("once",.fz (vo s.oc))]:bb (Str×SV))=wo b s:=by unfold eS;rw[ax (by left)];unfold eS;rw[ax (by left)];unfold eS;rw[ax (by left)];unfold eS;rw[ax (by left)];rfl
 have r:oj [] ((i9 s.ac).map lH)=(i9 s.ac).map lH:=An (i9 s.ac) [] (uY s.ac);have e:∀{x:SV} {ρ:bz} {fs:bb (Str×SV)} {Z:bh} {j:dI} {f:Str} {c:Cell} {l:bh},ρ[0]?=lD (lD (.rf 0))->j ρ Z=.ok x (.obj "Hand" fs::l)->fs.length<100->eY "Hand" f (au 0) j ρ Z=.ok (.nx ρ) (.obj "Hand" (eS f x fs)::l):=λh u t=>(kr u (a8 h) rfl t).trans rfl
 have ha:za (ae (aR bA (aa 2) (~~~0))) [lD (.rf 0),-(bD b),-(cM s)] [.obj "Hand" ([("bed",.fz (bD b))]:bb (Str×SV))]=.ok (.rf 1) [.obj "Hand" ([("bed",.fz (bD b))]:bb (Str×SV)),.ZX ((i9 s.ac).map lH)]:=
  (Ma (ah (d:=.tuple ((i9 s.ac).map pD)) (aN (rv:=.fz (.tuple ((i9 s.ac).map pD))) (af rfl) aO rfl rfl e0)) (wc _)).trans (by rw[r];rfl)
 refine pS (ρ:=[lD (.rf 0),-(bD b),-(cM s)]) (ρ1:=[lD (.rf 0),-(bD b),-(cM s)]) rfl (cX (e rfl (c:=.dead) (ah (d:=bD b) (af rfl)) (Uv rfl)) (cX (e rfl (c:=.dead) ha (Uv rfl)) (cX (e rfl (c:=.dead) (ah (d:=kJ s.wt) (aN (rv:=.fz (kJ s.wt)) (af rfl) aO rfl rfl y)) (Uv rfl)) (cX (e rfl (c:=.dead) (ah (d:=vo s.oc) (aN (rv:=.fz (vo s.oc)) (af rfl) aO rfl rfl v)) (Uv rfl)) ?_))));rw[q,o,n];refine(e (fs:=([("bed",.fz (bD b)),("acts",.rf 1),("waiting",.fz (kJ s.wt)),("once",.fz (vo s.oc))]:bb (Str×SV))) rfl (c:=.dead) (dh (ds:=[]) (p9 aL rfl (Vl _))) (Uv rfl)).trans ?_;show RS.ok _ (Cell.obj "Hand" (eS "sent" (.rf 2) ([("bed",.fz (bD b)),("acts",.rf 1),("waiting",.fz (kJ s.wt)),("once",.fz (vo s.oc))]:bb (Str×SV)))::_)=_;rw[m];rfl
omit Y in
theorem Nh(e:X1):∃x:Str,bA (dS e) (.int 0)=-(.str x)/\d6 (.str x) (.str "turn")=-(.bool (e.adU))/\d6 (.str x) (.str "down")=-(.bool (e.isDown)):=by
 have h:Up.strOk "down"=Um:=by left
 have j:Up.strOk "up"=Um:=by left
 have f:Up.strOk "turn"=Um:=by left
 cases e with
 |down k=>exact⟨"down",jA,DQ h f (by left),OG h⟩
 |up k=>exact⟨"up",jA,DQ j f (by left),DQ j h (by left)⟩
 |turn=>exact⟨"turn",jA,OG f,DQ f h (by left)⟩
theorem M0(o:SW b s)(y:EV b e):∃Z',gR [.fz (bD b),.fz (cM s),.fz (dS e)] []=.ok (.tp [.rf 2,.fz (cM (aG b s e).1)]) Z'/\sh Z' (.rf 2)=lD (.list ((aG b s e).2.map jy)):=by
 have f:HS b (s,[]) (d5 b s [] (i9 s.ac) []):=⟨i9 s.ac,[],.refl _,rfl⟩;obtain⟨x,u,A,z⟩:=Nh e;have n:∀{Z:bh},cH (aY (aR d6 (aR bA (aa 2) (~~~0)) (pC (.str "turn")))) [-(bD b),-(cM s),-(dS e),lD (.rf 0)] Z=.ok (e.adU) Z:=cy (cg (aN (aN (af rfl) aO rfl rfl u) aO rfl rfl A) rfl);have v:∀{Z:bh},cH (aY (aR d6 (aR bA (aa 2) (~~~0)) (pC (.str "down")))) [-(bD b),-(cM s),-(dS e),lD (.rf 0)] Z=.ok (e.isDown) Z:=cy (cg (aN (aN (af rfl) aO rfl rfl u) aO rfl rfl z) rfl);have j:∀{Z:bh},HS b (aG b s e) Z->XN (gI (mh (aj (aZ "Hand" "sent" (au 3)) (aj (a9 "Hand" "stands" bL 1 (au 3) aH) aH))) [-(bD b),-(cM s),-(dS e),lD (.rf 0)] Z) (λ_ Z'=>SV.fz .none=.tp [.rf 2,.fz (cM (aG b s e).1)]/\sh Z' (.rf 2)=lD (.list ((aG b s e).2.map jy))) (λ_ _=>False) (λr Z'=>r=.tp [.rf 2,.fz (cM (aG b s e).1)]/\sh Z' (.rf 2)=lD (.list ((aG b s e).2.map jy))):=λ{Z} hs=>by obtain⟨t,h,l⟩:=qG hs;have m:=cr (ρ:=[-(bD b),-(cM s),-(dS e),lD (.rf 0)]) (i:=3) (m:= "stands") hs (by left) rfl aK rfl h;obtain⟨ps,J,F,rfl⟩:=hs;obtain⟨C,G,E,rfl⟩:=l;exact Gw (Gz (ao (xM rfl) (ao m aK)) (Uv rfl) rfl rfl) ⟨rfl,dC rfl⟩
 have B:vZ "Hand" eK 3 (aj (ae (aa 0)) (aj (ae (aa 1)) aH)) [-(bD b),-(cM s),-(dS e),Uh] []=.ok (.rf 0) (d5 b s [] (i9 s.ac) []):=OO (ao (ah (af rfl)) (ao (ah (af rfl)) aK)) rfl MM;refine jm rfl (iC B rfl ?_);cases e with
 |turn=>obtain⟨t,h,l⟩:=Nx Y f o (show 0<800 by decide);exact ye n (ko (cr f (by left) rfl aK rfl h) (j l))
 |down k=>obtain⟨t,h,l⟩:=Io Y f o y (show 0<800 by decide);have q:bA (dS (.down k)) (.int 1)=-(nd k):=lQ;exact uP n (ye v (ko (cr f (by left) rfl (ao (ah (aN (af rfl) aO rfl rfl q)) aK) rfl h) (j l)))
 |up k=>obtain⟨t,h,l⟩:=L8 Y f o y (show 0<700 by decide);have q:bA (dS (.up k)) (.int 1)=-(nd k):=lQ;exact uP n (uP v (ko (cr f (by left) rfl (ao (ah (aN (af rfl) aO rfl rfl q)) aK) rfl h) (j l)))
theorem NL{e:X1}(h:SW b s)(l:EV b e):vi gR 3 [.fz (bD b),.fz (cM s),.fz (dS e)] Z=.ok (.tp [.rf Z.length,.fz (cM (aG b s e).1)]) (Z++[.lst (((aG b s e).2.map jy).map .fz)]):=by
 obtain⟨f,n,m⟩:=M0 Y h l;unfold vi;rw[av (show([.fz (bD b),.fz (cM s),.fz (dS e)]:bb SV).length=3 from rfl),show aC yQ [.fz (bD b),.fz (cM s),.fz (dS e)]=lD [bD b,cM s,dS e]from rfl];dsimp only;rw[show[bD b,cM s,dS e].map SV.fz=[.fz (bD b),.fz (cM s),.fz (dS e)]from rfl,n];show(match Gi f Z.length [.rf 2,.fz (cM (aG b s e).1)]with
  |some (l',cs,js)=>if js.Nodup then RS.ok (SV.tp l') (Z++cs.map S6)else .bad
  |none=>.bad)=_
 have j:Gi f Z.length [.rf 2,.fz (cM (aG b s e).1)]=lD ([.rf Z.length,.fz (cM (aG b s e).1)],[(aG b s e).2.map jy],[2]):=by unfold Gi;rw[m];rfl
 rw[j];dsimp only;rw[av (by decide)];rfl
end
def gc:WI:=⟨λ_=>Uh,Uh,Uh⟩
theorem ti(b:Bd):SW b gc:=⟨⟨λk a e=>(by cases e),λo e=>(by cases e)⟩,λf g w e=>(by cases e)⟩
theorem xS{α:Type}{f:α->D}:∀{l:bb α},(∀a∈l,Up.canLay0 (f a)=Um)->Up.canLayAll0 (l.map f)=Um
 |[],_=>rfl
 |a::r,h=>by show(Up.canLay0 (f a)&&Up.canLayAll0 (r.map f))=Um;rw[h a UE,xS λx b=>h x (UC _ b)];rfl
theorem mG{α:Type}{f:α->D}{n:Nat}:∀{l:bb α},(∀a∈l,Up.depth (f a)<=n)->Up.depthAll (l.map f)<=n
 |[],_=>Vl _
 |a::r,h=>aiL.mpr ⟨h a UE,mG λx b=>h x (UC _ b)⟩
theorem JV{d:D}(b:Up.canLay0 d=Um)(a:Up.depth d<=64):ny d=Um:=by unfold ny;rw[b,aE a];rfl
theorem xE{d:D}(h:ny d=Um):Up.canLay0 d=Um:=by unfold ny at h;exact(UW _ _▸h:_/\_).1
theorem oX{d:D}(h:ny d=Um):uz d d=-(.bool Uw):=by unfold uz;rw[h,xE h,WM,av rfl,YC d (xE h)];rfl
theorem K9{d:D}(h:ny d=Um):d6 d d=-(.bool Um):=by unfold d6;rw[h,xE h,WM,av rfl,YC d (xE h)]
def Yl(sn:Sn):Prop:=∀q∈sn,q.1<26
theorem L6{q:Nat×Bool}(h:q.1<26):Up.canLay0 (jy q)=Um:=by show(Up.strOk (k9 q.1)&&(Up.strOk (if q.2=Um then "down" else "up")&&Um))=Um;rw[og h];cases q.2<;>left
theorem D3(q:Nat×Bool):Up.depth (jy q)<=1:=Uv rfl
section
variable{b:Bd}(Z:VB b){s:WI}{p:WI×Sn}{k:Nat}{a:Mn}
theorem Yl.app{x y:Sn}(f:Yl x)(e:Yl y):Yl (x++y):=λq g=>(Vp.mp g).elim (f q) (e q)
theorem mz(h:Yl p.2)(ha:LB a):Yl (iq p k a).2:=by
 refine h.app λq e=>?_;cases a with
 |Vd c=>
  have e:q∈(if pN p.1.ac (.Vd c)=Um then[]else[(c,Um)]:Sn):=e;split at e
  .cases e
  .rw[UR.mp e];exact ha
 |_=>cases e
theorem Hd(e:bb (Nat×Mn)):∀{p:WI×Sn},Yl p.2->(∀q∈e,LB q.2)->Yl (lc p e).2:=by
 induction e with
 |nil=>exact λh _=>h
 |cons q r g=>exact λh f=>g (mz h (f q UE)) λx i=>f x (UC _ i)
theorem OA(h:Yl p.2)(ha:SA b p.1):Yl (go p k).2:=by
 unfold go;split
 .rename_i a q
  have lb:=(ha.ac k a q).2.lb;refine h.app λx e=>?_;cases a with
  |Vd c=>
   have e:x∈(if pN (nU p.1.ac k Uh) (.Vd c)=Um then[]else[(c,Uw)]:Sn):=e;split at e
   .cases e
   .rw[UR.mp e];exact lb
  |_=>cases e
 .exact h
include Z
theorem pP(h:Yl p.2)(i:WD b p.1):Yl (d8 b p).2:=by
 unfold d8;split
 .exact h
 .rename_i e g w q;exact Hd _ (p:=({p.1 with wt:=Uh},p.2)) h λx f=>(xp Z (i e g w q) x f).2.lb
theorem Qo(h:Yl p.2)(g:SA b p.1)(i:(k:Int)<b.n):Yl (KC b p k).2:=by
 obtain⟨o,l⟩:=B5 Z g;obtain⟨e,f⟩:=xJ Z (k:=k) o l i;have j:KC b p k=zZ b (su p.1.ac p.1.oc) (iA p.1 (look b (su p.1.ac p.1.oc) k),p.2) k (look b (su p.1.ac p.1.oc) k):=rfl;rw[j];generalize look b (su p.1.ac p.1.oc) k=m at e f;generalize su p.1.ac p.1.oc=L at e;have lb:=e.lb;cases m with
 |ZI c n=>exact h
 |Vd c=>
  show Yl (if(decide (L=0)&& !(gf b [k]).isEmpty)=Um then({iA p.1 (.Vd c)with wt:=lD ([k],0,Uh)},p.2)else iq (iA p.1 (.Vd c),p.2) k (.Vd c)).2;split
  .exact h
  .exact mz (p:=(iA p.1 (.Vd c),p.2)) h lb
 |WX n=>exact mz (p:=(iA p.1 (.WX n),p.2)) h lb
 |once n=>exact mz (p:=(iA p.1 (.once n),p.2)) (k:=k) (a:=.none) h trivial
 |none=>exact mz (p:=(iA p.1 .none,p.2)) h lb
 |below=>exact a5 rfl f
theorem xi{e:X1}(h:SW b s)(l:EV b e):Yl (aG b s e).2:=by
 have f:Yl []:=λq o=>by cases o
 cases e with
 |turn=>
  show Yl (nM b (s,[])).2;unfold nM;split
  .exact f
  .rename_i i g w q
   have v:=(h.wt i g w q).1;split
   .exact pP Z (p:=({s with wt:=lD (i,g+1,w)},[])) f λ_ _ _ e=>by cases e;exact⟨v.ne,v.nd,v.kn,v.kf,by have:=v.g0;ext,v.tp,v.ch⟩
   .exact f
 |up k=>
  show Yl (z6 b (s,[]) k).2;unfold z6;split
  .rename_i q
   have z:=qW Z (p:=(s,[])) h q;refine OA ?_ z.1.sa;unfold ei;split
   .exact pP Z (p:=(s,[])) f (SW.wd Z h)
   .rename_i c n e;have r:c<26:=((h.wt _ _ _ e).1.tp c n rfl).1;exact mz (p:=({s with wt:=Uh},[])) f r
   .exact f
  .exact OA (p:=(s,[])) f h.sa
 |down k=>
  show Yl (ph b (s,[]) k).2;unfold ph;split
  .exact f
  .rename_i q
   rw[X6,not_or]at q;have ha:s.ac k=Uh:=by
    cases z:s.ac k with
    |none=>rfl
    |some x=>exact a5 (show(s.ac k).isSome=Um by rw[z];rfl) q.1
   have hn:Fd s.wt k=Uw:=by
    cases z:Fd s.wt k with
    |false=>rfl
    |true=>exact a5 z q.2
   split
   .rename_i m
    obtain⟨i,g,j,y,t,u⟩:=BZ Z (p:=(s,[])) h l ha hn m;have j:s.wt=lD (i,g,Uh):=j;unfold xH;dsimp only;rw[j];dsimp only;split
    .exact pP Z (p:=({s with wt:=lD (i++[k],g,Uh)},[])) f λ_ _ _ e=>by cases e;exact t
    .exact f
   .have d:=ka Z (p:=(s,[])) h.sa (SW.wd Z h);exact Qo Z (pP Z (p:=(s,[])) f (SW.wd Z h)) d.1.sa l
end
def dL(b:Bd):WI->bb X1->WI×bb Sn
 |s,[]=>(s,[])
 |s,e::r=>((dL b (aG b s e).1 r).1,(aG b s e).2::(dL b (aG b s e).1 r).2)
theorem zE(b:Bd):∀(xs a:bb X1) (s:WI),dL b s (xs++a)=((dL b (dL b s xs).1 a).1,(dL b s xs).2++(dL b (dL b s xs).1 a).2)
 |[],_,_=>rfl
 |e::r,a,s=>by show((dL b (aG b s e).1 (r++a)).1,_::(dL b (aG b s e).1 (r++a)).2)=_;rw[zE b r a];rfl
theorem ul(b:Bd):∀(xs:bb X1) (s:WI),(dL b s xs).2.length=xs.length
 |[],_=>rfl
 |e::r,s=>by show(_::(dL b (aG b s e).1 r).2).length=_;rw[UD,ul b r,UD]
theorem yf(b:Bd):∀(xs:bb X1) (s:WI) (i:Nat) (e:X1),xs[i]?=lD e->(dL b s (xs.take (i+1))).1=(aG b (dL b s (xs.take i)).1 e).1/\(dL b s xs).2[i]?=lD (aG b (dL b s (xs.take i)).1 e).2
 |[],_,_,_,h=>by cases h
 |x::r,s,0,e,h=>by cases h;exact⟨rfl,rfl⟩
 |x::r,s,i+1,e,h=>by have:=yf b r (aG b s x).1 i e h;exact this
theorem C9{b:Bd}(a:VB b):∀(xs:bb X1) {s:WI},SW b s->(∀e∈xs,EV b e)->SW b (dL b s xs).1
 |[],_,h,_=>h
 |e::r,s,h,he=>C9 a r (iL a h (he e UE)) λx f=>he x (UC _ f)
def AW(b:bb Sn):bb D:=b.map λa=>.list (a.map jy)
theorem GS(a:bb Sn):(AW a).length=a.length:=by unfold AW;rw[Ui]
end STP
namespace K43
open PySem L2 L3 STP
def rN:FS:=(b8 (oK (aY (aR Ro (aa 1) (fM db {aa 0}))) (eR (aR bA (aa 0) (aa 1))) fG)
 (eR (~~~0)))
def cw:FN:=ii 2 rN
def ip:FS:=(b8 (oK (JX (aY (aR Ro (aa 0) (~~~0))) (aY (aR SD (aa 0) (aR K7 (~~~10) (~~~18))))) (b8 (r8 (lx gJ {aa 1}) (gN 3) (jo (aR EZ (aa 0) (~~~1000)) (gN 0)))
 (eR (aR tU (aa 0) (aa 2)))) fG)
 (b8 (jo (aR jh (aR d7 (aR d7 (aR tU (aa 0) (~~~1000033)) (aR jh (~~~77) (aa 1))) (~~~5)) (aR d7 (aR jh (aa 1) (aa 1)) (~~~40009))) (gN 4))
 (eR (aR tU (aR EZ (aR tU (aR d7 (aR jh (aR tU (aa 4) (~~~998857)) (~~~30011)) (aa 1)) (~~~999983)) (~~~3)) (aa 2)))))
def aU:FN:=ii 5 ip
def nv:FS:=(eR (aR fP (pC (.str "abz")) (fO aU 3 {aa 0,aa 1,~~~3})))
def dD:FN:=ii 2 nv
def eV:FS:=(b8 (jo (fO aU 3 {aa 0,~~~11,~~~12}) (gN 3))
 (b8 (oK (aY (aR d6 (aa 2) (~~~1))) (jo (aR bA (cY {~~~1,~~~1,~~~1,~~~8}) (fO aU 3 {aa 0,~~~12,~~~4})) (gN 3)) fG)
 (b8 (jo (aR d7 (~~~1) (fO aU 3 {aa 0,~~~13,fM Dy {~~~1,aR vF (aa 2) (~~~1)}})) (gN 4))
 (b8 (oK (JX (aY (aR d6 (aa 3) (~~~4))) (aY (aR d6 (aa 3) (~~~5)))) (eR (cP {pC (.str "layer"),aa 4})) fG)
 (b8 (oK (JX (aY (aR d6 (aa 3) (~~~6))) (aY (aR d6 (aa 3) (~~~7)))) (eR (cP {pC (.str "tap"),fO dD 2 {aa 0,~~~14},aa 4})) fG)
 (b8 (oK (aY (aR d6 (aa 3) (~~~8))) (eR (cP {pC (.str "none")})) fG)
 (b8 (oK (aY (aR d6 (aa 3) (~~~9))) (eR (cP {pC (.str "once"),aa 4})) fG)
 (b8 (oK (Bw (aY (aR MY (aa 3) (~~~9))) (aY (aR MY (aa 1) (~~~0)))) (eR (cP {pC (.str "below")})) fG)
 (eR (cP {pC (.str "letter"),fO dD 2 {aa 0,~~~15}}))))))))))
def eW:FN:=ii 5 eV
def g7:FS:=(b8 (jo (cY az) (gN 3))
 (b8 (r8 (lx gJ {aR QK (~~~1) (aa 1)}) (gN 4) (b8 (jo (fM fF {eO 1 [4] (lx gJ {aa 1}) (gN 0) (aY (aR d6 (aR Dx (aR LG (aa 1) (aa 0)) (~~~1)) (~~~1))) (aa 0)}) (gN 5))
 (b8 (jo (Bl (aR MY (fM db {aa 5}) (~~~1)) (fM zx {eO 1 [2] (gh (aa 5)) (gN 0) dc (aR d6 (aR bA (aR bA (aa 1) (aa 0)) (~~~0)) (pC (.str "letter")))})) (gN 6))
 (oK (Bw (aY (aa 6)) (Bw (aY (aR Ro (fM db {aa 3}) (~~~4))) (aY (aR d6 (fO aU 3 {aa 0,aR d7 (~~~20) (aa 4),~~~3}) (~~~0))))) (rQ (Ce 3 (cP {aa 5,aR fP (pC (.str "abcz")) (fO aU 3 {aa 0,aR d7 (~~~40) (aa 4),~~~4})}))) fG))))
 (eR (fM fF {aa 3}))))
def hJ:FN:=ii 7 g7
def kX:FS:=(b8 (jo (fO cw 2 {aa 0,aa 1}) (gN 3))
 (b8 (jo (aR bA (cY (ag (~~~1) {~~~2,~~~2,~~~2,~~~3})) (fO aU 3 {aa 3,~~~5,~~~5})) (gN 4))
 (b8 (jo (cY az) (gN 5))
 (b8 (r8 (lx gJ {aa 4}) (gN 6) (b8 (jo (eO 1 [0,1,2,6] (lx gJ {aa 2}) (gN 0) dc (fO cw 2 {aa 1,aR d7 (aR d7 (aR d7 (aa 2) (~~~1)) (aR jh (aa 3) (aa 4))) (aa 0)})) (gN 7))
 (rQ (Ce 5 (fM fF {eO 1 [6,4] (gh (aa 7)) (gN 0) dc (fO eW 3 {aa 0,aa 1,aa 2})})))))
 (b8 (jo (fO hJ 3 {fO cw 2 {aa 0,aR d7 (aa 1) (~~~10)},aa 2,aR bA (aa 5) (~~~0)}) (gN 8))
 (eR (cP {aa 2,fM fF {aa 5},aa 8,aR d7 (~~~1) (fO aU 3 {aa 3,~~~6,aR bA (cY {~~~4,~~~4,~~~2}) (aR vF (aa 2) (~~~1))})})))))))
def kP:FN:=ii 9 kX
def rJ:FS:=(eR (aR bA (cY {~~~1,~~~2,~~~2,~~~3}) (fO aU 3 {fO cw 2 {aa 0,~~~0},~~~1,~~~4})))
def jI:FN:=ii 1 rJ
def mi:FS:=(b8 (jo (eO 1 [] (lx gJ {aR bA (aa 0) (~~~0)}) (gN 0) dc (cP {pC (.str "down"),aa 0})) (gN 1))
 (b8 (jo (eO 1 [] (lx gJ {aR bA (aa 0) (~~~0)}) (gN 0) dc (cP {pC (.str "up"),aa 0})) (gN 2))
 (eR (aR d7 (aR d7 (aa 1) (aa 2)) (cY {cP {pC (.str "turn"),~~~0}})))))
def ig:FN:=ii 3 mi
def g6:FS:=(b8 (jo (cY az) (gN 1))
 (b8 (r8 (gh (cY {pC (.str "down"),pC (.str "up")})) (gN 2) (r8 (lx gJ {aR bA (aa 0) (~~~0)}) (gN 3) (rQ (Ce 1 (cP {aa 2,aa 3})))))
 (eR (aR d7 (aa 1) (cY {cP {pC (.str "turn"),~~~0}})))))
def hW:FN:=ii 4 g6
def km:FS:=(b8 (oK (JX (Fz (aY (vB "list" (aa 0)))) (JX (aY (aR uz (fM db {aa 0}) (aa 1))) (aY (aR uz (aR bA (aa 0) (~~~0)) (~~~0))))) (eR (pC (.bool Uw))) fG)
 (eR (fM zx {eO 1 [] (gh (aa 0)) (gN 0) dc (Bl (vB "int" (aa 0)) (MH (vB "bool" (aa 0))))})))
def iK:FN:=ii 2 km
section
open L10
def yG:fu:=(aM (cA (ae (pC (.tuple [(.tuple []),.none,.none]))) (cV 2))
 (aM (cA (ae (cY az)) (cV 3))
 (aM (pW (eT (gh (aa 1))) (cV 4) (aM (cA (jN (nA gR 3 (aj (ae (aa 0)) (aj (ae (aa 2)) (aj (ae (aa 4)) aH))))) (cV 5))
 (aM (bS (kK (au 3) (ae (aR bA (aa 5) (~~~0)))))
 (cA (ae (aR bA (aa 5) (~~~1))) (cV 2)))))
 (gI (mh (aj (au 3) (aj (ae (aa 2)) aH)))))))
def yj:i8:=c9 6 yG
end
def tS:FN:=L10.SM yj
end K43
namespace K43
open PySem L2 L3 L10 STP
def dU:fu:=(aM (cT (bK (D4 Um (ae (aa 1)) (aZ "Places" "numbers" (au 0)))) (aM (cT (bK (lC SD (kg db (aj (aZ "Places" "found" (au 0)) aH)) (aZ "Places" "most" (au 0)))) (sX "TooMany" "most" (aZ "Places" "most" (au 0))) dH)
 (aM (ud (aZ "Places" "numbers" (au 0)) (ae (aa 1)) (kg db (aj (aZ "Places" "found" (au 0)) aH)))
 (bS (kK (aZ "Places" "found" (au 0)) (ae (cP {aa 1,aa 2,aa 3})))))) dH)
 (gI (rC (aZ "Places" "numbers" (au 0)) (ae (aa 1)))))
def bW:i8:=c9 4 dU
def dm:fu:=(aM (eY "Places" "most" (au 0) (ae (aa 2)))
 (aM (eY "Places" "found" (au 0) (ae (cY az)))
 (aM (eY "Places" "numbers" (au 0) u9)
 (bS (rE "Places" "enter" bW 4 (au 0) (aj (ae (aa 1)) (aj (ae (pC .none)) (aj (ae (pC .none)) aH))))))))
def dA:i8:=c9 3 dm
def ut:fu:=(aM (cA (jN (ae (fO ig 1 {aa 0}))) (cV 2))
 (aM (cA (vv "Places" dA 3 (aj (ae (pC (.tuple [(.tuple []),.none,.none]))) (aj (ae (aa 1)) aH))) (cV 3))
 (aM (cA (ae (cY az)) (cV 4))
 (aM (cA (ae (cY az)) (cV 5))
 (aM (rd (bK (lC Ro (kg db (aj (au 4) aH)) (kg db (aj (aZ "Places" "found" (au 3)) aH)))) (aM (cA (kg db (aj (au 4) aH)) (cV 6))
 (aM (cA (fP (fP (aZ "Places" "found" (au 3)) (ae (aa 6))) (ae (~~~0))) (cV 7))
 (aM (cA (jN (eZ 1 [0,7] (eT (gh (aa 2))) (cV 0) cR (nA STP.gR 3 (aj (ae (aa 1)) (aj (ae (aa 2)) (aj (ae (aa 0)) aH)))))) (cV 8))
 (aM (bS (kK (au 4) (kg fF (aj (vj 2 [3,6] (eT (yr {aa 2,aa 8})) (Nd 2 (l7 (cV 0) (l7 (cV 1) xA))) cR (rE "Places" "enter" bW 4 (au 2) (aj (ae (aR bA (aa 1) (~~~1))) (aj (ae (aa 3)) (aj (ae (aa 0)) aH))))) aH))))
 (bS (kK (au 5) (ae (fM fF {eO 1 [] (gh (aa 8)) (gN 0) dc (fM fF {aR bA (aa 0) (~~~0)})})))))))))
 (gI (mh (aj (aZ "Places" "found" (au 3)) (aj (au 4) (aj (au 5) aH))))))))))
def ic:i8:=c9 9 ut
def xN:fu:=(gI (fP (zY ic 2 [] (aj (ae (aa 0)) (aj (ae (aa 1)) aH))) (ae (~~~0))))
def eP:i8:=c9 2 xN
def oy:fu:=(aM (cA u9 (cV 1))
 (gI (eZ 1 [1] (fZ (au 0)) (cV 0) cR (Aa (au 1) (ae (aa 0)) (qX (au 1))))))
def ez:i8:=c9 2 oy
def jF:fu:=(aM (cA (fP (aZ "Sorting" "rounds" (au 0)) (ae (DM ra (~~~1)))) (cV 2))
 (gI (mh (aj (fP (au 2) (ae (aa 1))) (aj (kg fF (aj (eZ 1 [2] (fZ (fP (aZ "Sorting" "steps" (au 0)) (ae (aa 1)))) (cV 0) cR (fP (au 1) (ae (aa 0)))) aH)) aH)))))
def bJ:i8:=c9 3 jF
def jr:fu:=(aM (cA (jN (zY ic 2 [] (aj (ae (aa 1)) (aj (ae (aa 2)) aH)))) (cV 3))
 (aM (eY "Sorting" "steps" (au 0) (ae (aR bA (aa 3) (~~~1))))
 (aM (eY "Sorting" "sends" (au 0) (ae (aR bA (aa 3) (~~~2))))
 (aM (eY "Sorting" "rounds" (au 0) (ae (cY az)))
 (aM (cA (nG ez 1 (aj (aZ "Sorting" "sends" (au 0)) aH)) (cV 4))
 (rd (Bb (bK (lC d6 (aZ "Sorting" "rounds" (au 0)) (ae (cY az)))) (bK (lC MY (kg jp (aj (au 4) aH)) (kg jp (aj (fP (aZ "Sorting" "rounds" (au 0)) (ae (DM ra (~~~1)))) aH))))) (aM (bS (kK (aZ "Sorting" "rounds" (au 0)) (au 4)))
 (cA (nG ez 1 (aj (eZ 1 [0] (lX (kg db (aj (aZ "Sorting" "steps" (au 0)) aH))) (cV 0) cR (a9 "Sorting" "mark_of" bJ 2 (au 1) (aj (ae (aa 0)) aH))) aH)) (cV 4)))))))))
def bq:i8:=c9 5 jr
def wM:fu:=(aM (cA (vv "Sorting" bq 3 (aj (ae (aa 0)) (aj (ae (aa 1)) aH))) (cV 2))
 (aM (cA (jN (fP (aZ "Sorting" "rounds" (au 2)) (ae (DM ra (~~~1))))) (cV 3))
 (aM (cA (jN (ae (eO 1 [3] (lx gJ {aR d7 (fM L10.jp {aa 3}) (~~~1)}) (gN 0) dc (L10.Kv 1 (aa 0))))) (cV 4))
 (aM (cA (kg fF (aj (eZ 1 [2,3] (eT (gh (aa 4))) (cV 0) cR (kg fF (aj (eZ 1 [2] (fZ (fP (aZ "Sorting" "steps" (au 1)) (ae (aa 0)))) (cV 0) cR (ae (aR bA (aa 1) (aa 0)))) aH))) aH)) (cV 5))
 (gI (mh (aj (ae (aa 5)) (aj (kg fF (aj (eZ 1 [2] (eT (gh (aa 4))) (cV 0) cR (fP (aZ "Sorting" "sends" (au 1)) (ae (aa 0)))) aH)) aH))))))))
def iZ:i8:=c9 6 wM
def Af:fu:=(gI (fP (aZ "Sorting" "rounds" (vv "Sorting" bq 3 (aj (ae (aa 0)) (aj (ae (aa 1)) aH)))) (ae (DM ra (~~~1)))))
def jj:i8:=c9 2 Af
def cO:i8
 |[.fz b],Z=>(match eP [.fz b,.fz (.int 90)] Z with
  |.ok x Z'=>.ok x Z'
  |.er x Z'=>if x.cls=("TooMany":Str)then .ok (.fz .none) Z' else .bad
  |_=>.bad)
 |_,_=>.bad
def OJ:fu:=(aM (cA (ae (fO kP 3 {aa 0,~~~1,fO jI 1 {aa 0}})) (cV 1))
 (aM (cA (jN (ae (fO hW 1 {aa 1}))) (cV 2))
 (aM (cA (jN (nG cO 1 (aj (ae (aa 1)) aH))) (cV 3))
 (aM (cT (cH (aY (aR vx (aa 3) (pC .none)))) (gI (ae (pC (.bool Um)))) dH)
 (aM (cA (qC iZ 2 [] (aj (ae (aa 1)) (aj (ae (~~~90)) aH))) (Nd 2 (l7 (cV 4) (l7 (cV 5) xA))))
 (aM (cA (qC jj 2 [] (aj (ae (aa 1)) (aj (ae (~~~90)) aH))) (cV 6))
 (aM (cT (xC (bK (K8 iK 2 (aj (au 6) (aj (ae (fM db {aa 3})) aH))))) (gI (ae (pC (.bool Uw)))) dH)
 (aM (cA u9 (cV 7))
 (aM (pW (eT (lx gJ {fM db {aa 3}})) (cV 8) (ud (au 7) (ae (aR bA (aR bA (aa 3) (aa 8)) (~~~0))) (fP (au 6) (ae (aa 8)))))
 (aM (pW (eT (lx gJ {fM db {aa 3}})) (cV 8) (pW (eT (lx gJ {fM db {aa 2}})) (cV 9) (aM (cA (jN (nA STP.gR 3 (aj (ae (aa 1)) (aj (ae (aR bA (aR bA (aa 3) (aa 8)) (~~~0))) (aj (ae (aR bA (aa 2) (aa 9))) aH))))) (Nd 2 (l7 (cV 10) (l7 (cV 11) xA))))
 (cT (Bb (bK (lC uz (fP (fP (ae (aa 5)) (fP (au 6) (ae (aa 8)))) (ae (aa 9))) (ae (fM fF {aa 10})))) (bK (lC uz (fP (fP (ae (aa 4)) (fP (au 6) (ae (aa 8)))) (ae (aa 9))) (rC (au 7) (ae (aa 11)))))) (gI (ae (pC (.bool Uw)))) dH))))
 (aM (cA (jN (ae (eO 1 [2] (gh (Sg SQ (aa 0) (wK (~~~12)) (wK (~~~62)))) (gN 0) dc (fO aU 3 {aa 0,~~~60,fM db {aa 1}})))) (cV 12))
 (aM (cA (ae (~~~0)) (cV 13))
 (aM (pW (eT (yr {aa 12,aR bA (fO tS 2 {aa 1,eO 1 [2] (gh (aa 12)) (gN 0) dc (aR bA (aa 1) (aa 0))}) (~~~0)})) (Nd 2 (l7 (cV 14) (l7 (cV 10) xA))) (aM (cT (cH (aY (aR uz (aR bA (aR bA (aa 5) (aa 13)) (aa 14)) (fM fF {aa 10})))) (gI (ae (pC (.bool Uw)))) dH)
 (cA (ae (aR bA (aR bA (aa 4) (aa 13)) (aa 14))) (cV 13))))
 (aM (cA (jN (kg t9 (aj (au 6) aH))) (cV 15))
 (aM (bS (M8 (au 6)))
 (gI (lC d6 (qC jj 2 [] (aj (ae (aa 1)) (aj (ae (~~~90)) aH))) (ae (aa 15)))))))))))))))))))
def F_law:i8:=c9 16 OJ
abbrev zf(d:D):bg PV:=-(d)
abbrev zo(l:bb D):bg PV:=lD (.ow l)
theorem sY(ns:bb Int)(k:Nat):∃c:Int,cw [.list (ns.map .int),nd k]=.ok (.fz (.int c)):=by
 have a:db [.list (ns.map .int)]=-(nd ns.length):=(eU _).trans (by rw[Ui]);have lt:=pV (k:Int) (ns.length:Int);by_cases h:k<ns.length
 .rw[aE (by ext)]at lt;have e:bA (.list (ns.map .int)) (nd k)=-(.int ns[k]):=vq (by rw[Uu,Us h];rfl);exact⟨ns[k],jJ (ρ:=[zf (.list (ns.map .int)),zf (nd k)]) rfl (nz (b:=Um) (cg (aN (rv:=.fz (.bool Um)) (af rfl) (dR (rv:=.fz (nd ns.length)) (am (af rfl) aL) rfl a) rfl rfl lt) rfl) (λ_=>jO (pv:=.fz (.int ns[k])) (rv:=.fz (.int ns[k])) (aN (rv:=.fz (.int ns[k])) (af rfl) (af rfl) rfl rfl e) rfl rfl) λq=>nomatch q)⟩
 .rw[aP (by ext)]at lt;exact⟨0,jJ (ρ:=[zf (.list (ns.map .int)),zf (nd k)]) rfl (nz (b:=Uw) (cg (aN (rv:=.fz (.bool Uw)) (af rfl) (dR (rv:=.fz (nd ns.length)) (am (af rfl) aL) rfl a) rfl rfl lt) rfl) (λq=>nomatch q) λ_=>gF (fU (pv:=.fz (.int 0)) (rv:=.fz (.int 0)) aO rfl rfl))⟩
abbrev ET(c:Int)(k m:Nat)(a b:bg PV):bw:=[zf (.int c),zf (nd k),zf (nd m),a,b]
theorem gX(c:Int)(k m:Nat)(o:k<=1000)(hm:0<m):∃r:Nat,aU [.int c,nd k,nd m]=.ok (.fz (nd r))/\r<m:=by
 have a:∀x:Int,∃r:Nat,tU (.int x) (nd m)=-(nd r)/\r<m:=λx=>by have A:0<=x % (m:Int):=aeN _ (by ext);have J:x % (m:Int)<m:=ady _ (by ext);refine⟨(x % (m:Int)).toNat,?_,by ext⟩;rw[xm (by ext),nd,ZL A]
 have g:∃rv,ii 5 ip [.int c,nd k,nd m]=.ok rv/\∃r:Nat,rv=.fz (nd r)/\r<m:=by
  refine qM (T:=λrv=>∃r:Nat,rv=.fz (nd r)/\r<m) (ρ:=ET c k m Uh Uh) rfl ?_;unfold ip;have f:=Ov;refine nz (b:=decide (c<0)||decide ((10:Int)^18<=c)) (ρ1:=ET c k m Uh Uh) (xn (cg (aN (rv:=.fz (.bool (decide (c<0)))) (af rfl) aO rfl rfl (pV _ _)) rfl) λ_=>cg (aN (rv:=.fz (.bool (decide ((10:Int)^18<=c)))) (af rfl) (aN (rv:=.fz (.int ((10:Int)^18))) aO aO rfl rfl f) rfl rfl (zH _ _)) rfl) (λ_=>HM ?_) (λ_=>gF ?_)
  .have B:=ky (n:=k) (by ext)
   refine xG (λ_ ρ=>∃(x:Int) (t:bg PV),ρ=ET x k m t Uh) (ds:=bQ (Ul k)) (ρ1:=ET c k m Uh Uh) (by fail "ev") ⟨c,Uh,rfl⟩ ?_ ?_
   .rintro i d ρ hi ⟨x,t,rfl⟩;have e:EZ (.int x) (.int 1000)=-(.int (x/1000)):=Jv ⟨by decide,by decide⟩;exact⟨_,rfl,JH (ρ2:=ET (x/1000) k m (zf d) Uh) (aN (rv:=.fz (.int (x/1000))) (af rfl) aO rfl rfl e) rfl ⟨_,_,rfl⟩⟩
   .rintro ρ ⟨x,t,rfl⟩;obtain⟨r,l,j⟩:=a x;exact jO (pv:=.fz (nd r)) (rv:=.fz (nd r)) (ρ1:=ET x k m t Uh) (aN (rv:=.fz (nd r)) (af rfl) (af rfl) rfl rfl l) rfl ⟨r,rfl,j⟩
  .have K:0<=c % 1000033/\c % 1000033<1000033:=⟨aeN _ (by decide),ady _ (by decide)⟩
   have I:(k:Int)*k<=1000000:=by
    have:k*k<=1000*1000:=Zr o o;have e:(k:Int)*k=((k*k:Nat):Int):=by rw[Int.natCast_mul]
    ext
   have v:0<=(k:Int)*k:=Int.mul_nonneg (by ext) (by ext);have H:tU (.int c) (.int 1000033)=-(.int (c % 1000033)):=xm (by decide);have G:jh (.int 77) (nd k)=-(.int (77*k)):=pM ⟨by ext,by ext⟩;have F:jh (nd k) (nd k)=-(.int (k*k)):=pM ⟨by ext,by ext⟩;have u:jh (.int (c % 1000033+77*k+5)) (.int (k*k+40009))=-(.int ((c % 1000033+77*k+5)*(k*k+40009))):=pM ⟨by ext,by ext⟩;generalize hx:(c % 1000033+77*(k:Int)+5)*(k*k+40009)=x at u;have E:tU (.int x) (.int 998857)=-(.int (x % 998857)):=xm (by decide);have q:jh (.int (x % 998857)) (.int 30011)=-(.int (x % 998857*30011)):=Gp ⟨by ext,by ext⟩;generalize x % 998857*30011=y at q;have p:tU (.int (y+k)) (.int 999983)=-(.int ((y+k) % 999983)):=xm (by decide);generalize (y+(k:Int)) % 999983=z at p;have C:EZ (.int z) (.int 3)=-(.int (z/3)):=Jv ⟨by ext,by ext⟩;obtain⟨r,l,j⟩:=a (z/3);refine fX (ρ3:=ET c k m Uh (zf (.int x))) (by fail "ev") rfl rfl ?_;exact fU (pv:=.fz (nd r)) (rv:=.fz (nd r)) (ρ1:=ET c k m Uh (zf (.int x))) (aN (rv:=.fz (nd r)) (by fail "ev") (af rfl) rfl rfl l) rfl ⟨r,rfl,j⟩
 obtain⟨rv,h,r,rfl,w⟩:=g;exact⟨r,h,w⟩
theorem Q6{z:Str}{cs:bb Nat}(hz:z.cps.toList=cs.map (97+·))(a:z.length<=1000000){r:Int}{c:Nat}(b:0<=r)(h:cs[r.toNat]?=lD c):L3.fP (.str z) (.int r)=-(.str (k9 c)):=by show(if z.length<=1000000 then(nc z.cps.toList r).map (λc=>RV.fz (.str ⟨#[c]⟩))else Uh)=_;rw[av a,hz,yH (v:=97+c) b (by rw[Uu,h];rfl)];rfl
theorem HG{z:Str}(cs:bb Nat)(hz:z.cps.toList=cs.map (97+·))(b:z.length<=1000000)(e:∀c∈cs,c<26){r:Int}(f:0<=r)(g:r<cs.length):∃c,c<26/\L3.fP (.str z) (.int r)=-(.str (k9 c)):=by
 have a:r.toNat<cs.length:=by ext
 exact⟨cs[r.toNat],e _ (W5 a),Q6 hz b f (Us a)⟩
theorem AQ{n i k:Nat}(h:(Ul n)[i]?=lD k):k=i/\i<n:=by obtain⟨b,a⟩:=Uk.mp h;rw[adl]at a;rw[UA]at b;exact⟨a.symm,b⟩
theorem KU{n a:Int}{e:bb (bb Mn)}{b:bb Mn}(h:VL n a e)(g:(b.length:Int)=n)(f:∀m∈b,VM e.length a m):VL n a (e++[b]):=by
 intro i l hi;rcases L10.cF hi with h'|⟨rfl,rfl⟩
 .exact h i l h'
 .exact⟨g,f⟩
theorem vU(c:Int)(k:Nat)(e:k<=1000):∃l,l<26/\dD [.int c,nd k]=.ok (.fz (.str (k9 l))):=by obtain⟨r,er,g⟩:=gX c k 3 e (by decide);have a:aU [.int c,nd k,.int 3]=.ok (.fz (nd r)):=er;obtain⟨l,b,f⟩:=HG (z:= "abz") [0,1,25] (by left) (by left) (by decide) (show(0:Int)<=(r:Int) by ext) (show(r:Int)<3 by ext);exact⟨l,b,jJ (ρ:=[zf (.int c),zf (nd k)]) rfl (fU (pv:=.fz (.str (k9 l))) (rv:=.fz (.str (k9 l))) (ρ1:=[zf (.int c),zf (nd k)]) (aN (rv:=.fz (.str (k9 l))) aO (dG (rv:=.fz (nd r)) (ds:=[.int c,nd k,.int 3]) (am (af rfl) (am (af rfl) (am aO aL))) rfl rfl a) rfl rfl f) rfl rfl)⟩
theorem Pu{a:Nat}(b:1<=a):∃M:Nat,Dy [.int 1,.int ((a:Int) - 1)]=-(nd M)/\1<=M/\(1<a->M=a - 1):=by
 by_cases h:1<a
 .refine⟨a - 1,?_,by ext,λ_=>rfl⟩;show lD (RV.fz (.int (if(1:Int)<(a:Int) - 1 then(a:Int) - 1 else 1)))=lD (RV.fz (.int ((a - 1:Nat):Int)));congr 3;split<;>ext
 .obtain rfl:a=1:=by ext
  exact⟨1,rfl,by ext,λh=>by ext⟩
abbrev E5(c:Int)(L e:Nat)(a b:bg PV):bw:=[zf (.int c),zf (nd L),zf (nd e),a,b]
theorem K0(c:Int)(L a:Nat)(o:1<=a)(Q:a<=1000):∃m:Mn,VM L a m/\eW [.int c,nd L,nd a]=.ok (.fz (mD m)):=by
 obtain⟨j,e0,F⟩:=gX c 11 12 (by decide) (by decide);obtain⟨g,v,E⟩:=gX c 12 4 (by decide) (by decide);obtain⟨M,O,M1,M2⟩:=Pu o;obtain⟨f,u,G⟩:=gX c 13 M (by decide) (by ext);obtain⟨n,I,A⟩:=vU c 14 (by decide);obtain⟨l,H,y⟩:=vU c 15 (by decide);have e0:aU [.int c,.int 11,.int 12]=.ok (.fz (nd j)):=e0;have v:aU [.int c,.int 12,.int 4]=.ok (.fz (nd g)):=v;have u:aU [.int c,.int 13,nd M]=.ok (.fz (nd f)):=u;have A:dD [.int c,.int 14]=.ok (.fz (.str (k9 n))):=A;have y:dD [.int c,.int 15]=.ok (.fz (.str (k9 l))):=y;have p:∃rv,ii 5 eV [.int c,nd L,nd a]=.ok rv/\∃m:Mn,VM L a m/\rv=.fz (mD m):=by
  refine qM (T:=λrv=>∃m:Mn,VM L a m/\rv=.fz (mD m)) (ρ:=E5 c L a Uh Uh) rfl ?_;unfold eV;refine fX (ρ3:=E5 c L a (zf (nd j)) Uh) (dG (rv:=.fz (nd j)) (ds:=[.int c,.int 11,.int 12]) (am (af rfl) (am aO (am aO aL))) rfl rfl e0) rfl rfl ?_;refine HF (Go.imp (N:=λr=>∃w:Int,(a=1->w=1\/w=8)/\r=E5 c L a (zf (.int w)) Uh) (Hs (b:=decide ((a:Int)=1)) (ρ1:=E5 c L a (zf (nd j)) Uh) (cg (aN (rv:=.fz (.bool (decide ((a:Int)=1)))) (af rfl) aO rfl rfl (kh _ _)) rfl) (λq=>?_) (λq=>?_)) (λr ⟨w,t,e⟩=>?_) (λ_ h=>h) (λ_ h=>h))
  .obtain⟨x,C,K⟩:∃x:Int,(x=1\/x=8)/\bA (.list [.int 1,.int 1,.int 1,.int 8]) (nd g)=-(.int x):=by
    have:g=0\/g=1\/g=2\/g=3:=by ext
    rcases this with rfl|rfl|rfl|rfl
    .exact⟨1,.inl rfl,vq rfl⟩
    .exact⟨1,.inl rfl,vq rfl⟩
    .exact⟨1,.inl rfl,vq rfl⟩
    .exact⟨8,.inr rfl,vq rfl⟩
   exact JH (pv:=.fz (.int x)) (ρ2:=E5 c L a (zf (.int x)) Uh) (aN (rv:=.fz (.int x)) (by fail "ev") (dG (rv:=.fz (nd g)) (ds:=[.int c,.int 12,.int 4]) (am (af rfl) (am aO (am aO aL))) rfl rfl v) rfl rfl K) rfl ⟨x,λ_=>C,rfl⟩
  .have q:=of_decide_eq_false q;exact yE ⟨j,λz=>by ext,rfl⟩
  subst e;refine fX (ρ3:=E5 c L a (zf (.int w)) (zf (.int (1+(f:Int))))) (aN (rv:=.fz (.int (1+(f:Int)))) aO (dG (rv:=.fz (nd f)) (ds:=[.int c,.int 13,nd M]) (am (af rfl) (am aO (am (dR (rv:=.fz (nd M)) (ds:=[.int 1,.int ((a:Int) - 1)]) (am aO (am (aN (rv:=.fz (.int ((a:Int) - 1))) (af rfl) aO rfl rfl (uu _ _)) aL)) rfl O) aL))) rfl rfl u) rfl rfl (ir _ _)) rfl rfl ?_;have i:1<a->(1:Int)<=1+(f:Int)/\1+(f:Int)<a:=λz=>by have:=M2 z;ext
  refine nz (b:=decide (w=4)||decide (w=5)) (ρ1:=E5 c L a (zf (.int w)) (zf (.int (1+(f:Int))))) (by fail "ev") (λq=>?_) (λ_=>gF ?_)
  .refine jO (pv:=.fz (mD (.WX (1+(f:Int))))) (rv:=.fz (mD (.WX (1+(f:Int))))) (ρ1:=E5 c L a (zf (.int w)) (zf (.int (1+(f:Int))))) (show _=Res.ok (PV.fz (.tuple [.str "layer",.int (1+(f:Int))]),_) by fail "ev") rfl ⟨_,?_,rfl⟩;rw[X6,decide_eq_true_eq,decide_eq_true_eq]at q;exact i (aae o λz=>by have:=t z.symm;ext)
  refine nz (b:=decide (w=6)||decide (w=7)) (ρ1:=E5 c L a (zf (.int w)) (zf (.int (1+(f:Int))))) (by fail "ev") (λq=>?_) (λ_=>gF ?_)
  .refine jO (pv:=.fz (mD (.ZI n (1+(f:Int))))) (rv:=.fz (mD (.ZI n (1+(f:Int))))) (ρ1:=E5 c L a (zf (.int w)) (zf (.int (1+(f:Int))))) (show _=Res.ok (PV.fz (.tuple [.str "tap",.str (k9 n),.int (1+(f:Int))]),_) by fail "ev") rfl ⟨_,?_,rfl⟩;rw[X6,decide_eq_true_eq,decide_eq_true_eq]at q;exact⟨I,i (aae o λz=>by have:=t z.symm;ext)⟩
  refine nz (b:=decide (w=8)) (ρ1:=E5 c L a (zf (.int w)) (zf (.int (1+(f:Int))))) (by fail "ev") (λq=>?_) (λ_=>gF ?_)
  .exact jO (pv:=.fz (mD .none)) (rv:=.fz (mD .none)) (ρ1:=E5 c L a (zf (.int w)) (zf (.int (1+(f:Int))))) (show _=Res.ok (PV.fz (.tuple [.str "none"]),_) by fail "ev") rfl ⟨.none,trivial,rfl⟩
  refine nz (b:=decide (w=9)) (ρ1:=E5 c L a (zf (.int w)) (zf (.int (1+(f:Int))))) (by fail "ev") (λq=>?_) (λ_=>gF ?_)
  .refine jO (pv:=.fz (mD (.once (1+(f:Int))))) (rv:=.fz (mD (.once (1+(f:Int))))) (ρ1:=E5 c L a (zf (.int w)) (zf (.int (1+(f:Int))))) (show _=Res.ok (PV.fz (.tuple [.str "once",.int (1+(f:Int))]),_) by fail "ev") rfl ⟨_,?_,rfl⟩;rw[decide_eq_true_eq]at q;exact i (aae o λz=>by have:=t z.symm;ext)
  have J:MY (nd L) (.int 0)=-(.bool (decide ((0:Int)<L))):=rfl;refine nz (b:=(decide (9<w)&&decide ((0:Int)<L))) (ρ1:=E5 c L a (zf (.int w)) (zf (.int (1+(f:Int))))) (by fail "ev") (λq=>?_) (λ_=>gF ?_)
  .rw[UW]at q;have P:=a4 q.2;exact jO (pv:=.fz (mD .below)) (rv:=.fz (mD .below)) (ρ1:=E5 c L a (zf (.int w)) (zf (.int (1+(f:Int))))) (show _=Res.ok (PV.fz (.tuple [.str "below"]),_) by fail "ev") rfl ⟨.below,by show(L:Int)≠0;ext,rfl⟩
  exact fU (pv:=.fz (mD (.Vd l))) (rv:=.fz (mD (.Vd l))) (ρ1:=E5 c L a (zf (.int w)) (zf (.int (1+(f:Int))))) (show _=Res.ok (PV.fz (.tuple [.str "letter",.str (k9 l)]),_) by fail "ev") rfl ⟨.Vd l,H,rfl⟩
 obtain⟨rv,h,m,B,rfl⟩:=p;exact⟨m,B,h⟩
structure CsV(l0:bb Mn)(cs:bb (bb Nat×Nat)):Prop where
 vc:∀c∈cs,VC l0 c
 un:cs.Pairwise λa c=>a.1≠c.1
theorem CsV.nil(l0:bb Mn):CsV l0 []:=⟨λc a=>(by cases a),YU⟩
theorem CsV.add(h:CsV l0 cs)(j:2<=s.length)(f:s.Pairwise (·<·))(i:∀k∈s,Gn l0 k=Um)(g:l<26)(e:s∉cs.map (·.1)):CsV l0 (cs++[(s,l)]):=by
 refine⟨λc b=>(Vp.mp b).elim (h.vc c) λz=>?_,List.pairwise_append.mpr ⟨h.un,List.pairwise_singleton _ _,λa ha c b=>?_⟩⟩
 .rw[UR.mp z];exact⟨j,f,i,g⟩
 .rw[UR.mp b];exact λz=>e (Vc.mpr ⟨a,ha,z⟩)
theorem QA(a:k<l0.length):∃d,bA (lG l0) (nd k)=-(d)/\∃w,bA d (.int 0)=-(.str w)/\d6 (.str w) (.str "letter")=-(.bool (Gn l0 k)):=by
 have b:Gn l0 k=l0[k].isL:=by unfold Gn;rw[Us a];rfl
 rw[b];exact⟨mD l0[k],Gk (by rw[Uu,Us a];rfl),_,rG _,mJ _⟩
theorem Rp(i:Int)(k:Nat):LG (.int i) (nd k)=-(.int (i/2^k)):=by show(if Tr i (k:Int)=Um then lD (RV.fz (.int (i/2^((k:Nat):Int).toNat)))else Uh)=_;rw[av (by unfold Tr;exact aE (by ext)),VO]
def PP(x:Int)(k:Nat):Bool:=decide (Vf.bitAnd (x/2^k) 1=1)
def rT(n m:Nat):bb Nat:=(Ul n).filter (PP m)
theorem NA:∀n,n<4->∀a,a<2^n->∀b,b<2^n->rT n a=rT n b->a=b:=by left
theorem lL(p:α->Bool):∀l:bb α,rV (l.map λc=>Up.bool (p c))=lD (l.map p)
 |[]=>rfl
 |c::r=>by show(rV (r.map λc=>Up.bool (p c))).map (p c::·)=_;rw[lL p r];rfl
theorem pO(p:α->Bool)(l:bb α):zx [.list (l.map λc=>Up.bool (p c))]=-(.bool (l.all p)):=by show(rV _).map (λbs=>RV.fz (.bool (bs.all id)))=_;rw[lL];show lD (RV.fz (.bool _))=_;rw[afT];rfl
abbrev E7(c:Int)(n:Nat)(l0:bb Mn)(cs:bb (bb Nat×Nat))(a b d:bg PV):bw:=[zf (.int c),zf (nd n),zf (lG l0),zo (cs.map gU),a,b,d]
theorem Fo(c:Int)(n:Nat)(hn:n<4)(l0:bb Mn)(hl:l0.length=n):∃cs,CsV l0 cs/\cs.length<=4/\hJ [.int c,nd n,lG l0]=.ok (.fz (.tuple (cs.map gU))):=by
 have p8:2^n<=8:=Va (Nat.pow_le_pow_right (by decide) (show n<=3 by ext)) (by decide);have rgm:gJ [nd (2^n)]=lD (bQ (Ul (2^n))):=ky (by ext);have rgn:gJ [nd n]=lD (bQ (Ul n)):=ky (by ext);have X:=MQ n (by ext);have E:∃rv,ii 7 g7 [.int c,nd n,lG l0]=.ok rv/\∃cs,CsV l0 cs/\cs.length<=4/\rv=.fz (.tuple (cs.map gU)):=by
  refine qM rfl ?_;unfold g7;refine fX (ρ3:=E7 c n l0 [] Uh Uh Uh) (by fail "ev") rfl rfl ?_;refine xG (λi ρ=>∃(cs:bb (bb Nat×Nat)) (A p o:bg PV),CsV l0 cs/\cs.length<=4/\(∀s∈cs.map (·.1),∃m,m<i/\m<2^n/\s=rT n m)/\ρ=E7 c n l0 cs A p o) (by fail "ev") ⟨[],Uh,Uh,Uh,CsV.nil _,Vl _,(λs F=>by cases F),rfl⟩ ?_ ?_
  .rintro i d ρ hi ⟨cs,A,p,o,g,y,v,rfl⟩
   obtain⟨k,hk,rfl⟩:=sL hi;obtain⟨rfl,e⟩:=AQ hk;refine⟨E7 c n l0 cs (zf (nd k)) p o,rfl,?_⟩;have f:lB (d9 (gN 0) (aY (aR d6 (aR Dx (aR LG (aa 1) (aa 0)) (~~~1)) (~~~1))) (aa 0) (bQ (Ul n)) [Uh,-(nd k)] [])=.ok ((rT n k).map nd):=x8 nd nd (PP k) (Ul n) (by rw[UA];ext) rfl (λj r=>by have Z:=Rp (k:Int) j;have Y:Dx (.int ((k:Int)/2^j)) (.int 1)=-(.int (Vf.bitAnd ((k:Int)/2^j) 1)):=rfl;exact cg (aN (aN (aN (af rfl) (af rfl) rfl rfl Z) aO rfl rfl Y) aO rfl rfl (kh _ _)) rfl) λj _ _=>af rfl;have N:(rT n k).Pairwise (·<·):=agw _ ab8;have P:∀j∈rT n k,j<n:=λj r=>Vr.mp (WK.mp r).1;have U:(rT n k).length<=n:=by have:=Y8 (PP k) (Ul n);rw[UA]at this;exact this
   have O:rT n k∉cs.map (·.1):=λz=>by obtain⟨m,m1,C,B⟩:=v _ z;have:=NA n hn k e m C B;ext
   have b:∀s∈cs.map (·.1),∃m,m<k+1/\m<2^n/\s=rT n m:=λs F=>by obtain⟨m,m1,C,B⟩:=v s F;exact⟨m,by ext,C,B⟩
   have Q:∃m,m<k+1/\m<2^n/\rT n k=rT n m:=⟨k,by ext,e,rfl⟩;generalize rT n k=s at f N P U O Q;refine fX (dR (am (eC (by fail "ev") rfl f) aL) rfl rfl) rfl rfl ?_;have G:db [.tuple (bQ s)]=-(nd s.length):=(lZ _).trans (by rw[gY]);have L:lB (d9 (gN 0) dc (aR d6 (aR bA (aR bA (aa 1) (aa 0)) (~~~0)) (pC (.str "letter"))) (bQ s) [Uh,-(lG l0)] [])=.ok (s.map λj=>.bool (Gn l0 j)):=iM nd (λj=>.bool (Gn l0 j)) s (by ext) rfl (λj r=>by obtain⟨d,e1,w,e2,e3⟩:=QA (l0:=l0) (k:=j) (by have:=P j r;ext);exact aN (aN (aN (af rfl) (af rfl) rfl rfl e1) aO rfl rfl e2) aO rfl rfl e3);refine fX (xX (cg (aN (dR (am (af rfl) aL) rfl G) aO rfl rfl (Dj _ _)) rfl) λ_=>dR (am (eC (by fail "ev") rfl L) aL) rfl (pO _ _)) rfl rfl ?_;obtain⟨t,K,ht⟩:=gX c (20+k) 3 (by ext) (by decide);have K:=K;obtain⟨u,J,hu⟩:=gX c (40+k) 4 (by ext) (by decide);have J:=J;obtain⟨l,M,el⟩:=HG (z:= "abcz") [0,1,2,25] (by left) (by left) (by decide) (show(0:Int)<=(u:Int) by ext) (show(u:Int)<4 by ext);have H:db [.list (cs.map gU)]=-(nd cs.length):=(eU _).trans (by rw[Ui]);generalize hg:(decide ((1:Int)<(s.length:Int))&&s.all (Gn l0))=gd;refine Hs
    (yD (cg (af rfl) rfl) λ_=>yD (cg (aN (dR (am (kH rfl) aL) rfl H) aO rfl rfl (pV _ _)) rfl) λ_=>cg (aN (dG (am (af rfl) (am (aN aO (af rfl) rfl rfl (ir _ _)) (am aO aL))) rfl rfl K) aO rfl rfl (kh _ _)) rfl) (λq=>?_) λ_=>yE ⟨cs,_,_,_,g,y,b,rfl⟩
   rw[UW,UW]at q;obtain⟨I,R,_⟩:=q;have R:=a4 R;rw[<-hg,UW,WC]at I;have g3:=a4 I.1;exact sZ (xY rfl (gW (am (af rfl) (am (aN aO (dG (am (af rfl) (am (aN aO (af rfl) rfl rfl (ir _ _)) (am aO aL))) rfl rfl J) rfl rfl el) aL)) rfl (Uv rfl)) rfl rfl (by rw[Ui];ext) (by show _=[zf (.int c),zf (nd n),zf (lG l0),zo ((cs++[(s,l)]).map gU),_,_,_];rw[UI];rfl)) ⟨cs++[(s,l)],_,_,_,g.add (by ext) N I.2 M O,by rw[Uo];show cs.length+1<=4;ext,λx a=>by
    rw[UI,Vp]at a;rcases a with a|a
    .exact b x a
    .rw[UR.mp a];exact Q,rfl⟩
  .rintro ρ ⟨cs,A,p,o,g,y,v,rfl⟩;exact fU (dR (am (kH rfl) aL) rfl rfl) rfl ⟨cs,g,y,rfl⟩
 obtain⟨rv,h,cs,T,S,rfl⟩:=E;exact⟨cs,T,S,h⟩
theorem Sh(h:1<=n)(g:n<=5)(j:rs.length<=3)(b:rs[0]?=lD l0)(i:VL n rs.length rs)(a:CsV l0 cs)(l:cs.length<=4)(f:1<=w)(e:w<=4):VB ⟨n,rs,cs,w⟩:=by
 cases rs with
 |nil=>cases b
 |cons x r=>cases UH b;exact⟨h,g,by show 1<=r.length+1;ext,j,i,l,a.vc,a.un,f,e⟩
abbrev E9(ns:bb Int)(a n:Nat)(c:Int)(g:Nat)(h f e b:bg PV):bw:=[zf (.list (ns.map .int)),zf (nd a),zf (nd n),zf (.int c),zf (nd g),h,f,e,b]
theorem T9{n:Nat}(hn:n=1\/n=2\/n=3):∃w:Nat,0<w/\w<=4/\bA (.list [.int 4,.int 4,.int 2]) (.int ((n:Int) - 1))=-(nd w):=by
 rcases hn with rfl|rfl|rfl
 .exact⟨4,by decide,by decide,LS (by decide) rfl⟩
 .exact⟨4,by decide,by decide,LS (by decide) rfl⟩
 .exact⟨2,by decide,by decide,LS (by decide) rfl⟩
theorem T3{r:Nat}(a:r<5):∃w:Nat,1<=w/\w<=3/\bA (.list [.int 1,.int 2,.int 2,.int 2,.int 3]) (nd r)=-(nd w):=by
 have:r=0\/r=1\/r=2\/r=3\/r=4:=by ext
 rcases this with rfl|rfl|rfl|rfl|rfl
 .exact⟨1,by decide,by decide,vq rfl⟩
 .exact⟨2,by decide,by decide,vq rfl⟩
 .exact⟨2,by decide,by decide,vq rfl⟩
 .exact⟨2,by decide,by decide,vq rfl⟩
 .exact⟨3,by decide,by decide,vq rfl⟩
theorem Mr(ns:bb Int):∃n:Nat,(n=1\/n=2\/n=3)/\jI [.list (ns.map .int)]=.ok (.fz (nd n)):=by
 obtain⟨c,a⟩:=sY ns 0;have a:cw [.list (ns.map .int),.int 0]=.ok (.fz (.int c)):=a;obtain⟨r,er,e⟩:=gX c 1 4 (by decide) (by decide);have er:aU [.int c,.int 1,.int 4]=.ok (.fz (nd r)):=er;obtain⟨n,hn,b⟩:∃n:Nat,(n=1\/n=2\/n=3)/\bA (.list [.int 1,.int 2,.int 2,.int 3]) (nd r)=-(nd n):=by
  have:r=0\/r=1\/r=2\/r=3:=by ext
  rcases this with rfl|rfl|rfl|rfl
  .exact⟨1,by decide,vq rfl⟩
  .exact⟨2,by decide,vq rfl⟩
  .exact⟨2,by decide,vq rfl⟩
  .exact⟨3,by decide,vq rfl⟩
 exact⟨n,hn,jJ (ρ:=[zf (.list (ns.map .int))]) rfl (fU (pv:=.fz (nd n)) (rv:=.fz (nd n)) (ρ1:=[zf (.list (ns.map .int))]) (aN (rv:=.fz (nd n)) (by fail "ev") (dG (rv:=.fz (nd r)) (ds:=[.int c,.int 1,.int 4]) (am (dG (rv:=.fz (.int c)) (ds:=[.list (ns.map .int),.int 0]) (am (af rfl) (am aO aL)) rfl rfl a) (am aO (am aO aL))) rfl rfl er) rfl rfl b) rfl rfl)⟩
theorem QF(ns:bb Int)(a n:Nat)(hn:n=1\/n=2\/n=3):∃b:Bd,VB b/\b.n=n/\kP [.list (ns.map .int),nd a,nd n]=.ok (.fz (bD b)):=by
 obtain⟨l,e0⟩:=sY ns a;obtain⟨S,R,h5⟩:=gX l 5 5 (by decide) (by decide);have R:aU [.int l,.int 5,.int 5]=.ok (.fz (nd S)):=R;obtain⟨g,l1,l3,el⟩:=T3 h5;obtain⟨w,X,w4,ew⟩:=T9 hn;obtain⟨A,P,h6⟩:=gX l 6 w (by decide) X;have P:aU [.int l,.int 6,nd w]=.ok (.fz (nd A)):=P;obtain⟨I,z⟩:=sY ns (a+10);have z:cw [.list (ns.map .int),.int ((a:Int)+10)]=.ok (.fz (.int I)):=z;have n1:(1:Int)<=(n:Int):=by rcases hn with rfl|rfl|rfl<;>decide
 have n3:(n:Int)<=3:=by rcases hn with rfl|rfl|rfl<;>decide
 have Z:gJ [nd n]=lD (bQ (Ul n)):=ky (by ext);have rgl:gJ [nd g]=lD (bQ (Ul g)):=ky (by ext);have M:∃rv,ii 9 kX [.list (ns.map .int),nd a,nd n]=.ok rv/\∃b:Bd,(VB b/\b.n=n)/\rv=.fz (bD b):=by
  refine qM (T:=λrv=>∃b:Bd,(VB b/\b.n=n)/\rv=.fz (bD b)) (ρ:=[zf (.list (ns.map .int)),zf (nd a),zf (nd n),Uh,Uh,Uh,Uh,Uh,Uh]) rfl ?_;unfold kX;refine fX (ρ3:=[zf (.list (ns.map .int)),zf (nd a),zf (nd n),zf (.int l),Uh,Uh,Uh,Uh,Uh]) (by fail "ev") rfl rfl ?_;refine fX (ρ3:=E9 ns a n l g Uh Uh Uh Uh) (aN (rv:=.fz (nd g)) (by fail "ev") (dG (rv:=.fz (nd S)) (ds:=[.int l,.int 5,.int 5]) (am (af rfl) (am aO (am aO aL))) rfl rfl R) rfl rfl el) rfl rfl ?_;refine fX (ρ3:=E9 ns a n l g (zo []) Uh Uh Uh) (by fail "ev") rfl rfl ?_;refine xG (λi ρ=>∃(e:bb (bb Mn)) (E C:bg PV),e.length=i/\VL n g e/\ρ=E9 ns a n l g (zo (e.map lG)) E C Uh) (ds:=bQ (Ul g)) (ρ1:=E9 ns a n l g (zo []) Uh Uh Uh) (by fail "ev") ⟨[],Uh,Uh,rfl,(λj r h=>by cases h),rfl⟩ ?_ ?_
  .rintro i d ρ hi ⟨e,E,C,F,H,rfl⟩
   obtain⟨L,hL,rfl⟩:=sL hi;obtain⟨rfl,hin⟩:=AQ hL;refine⟨E9 ns a n l g (zo (e.map lG)) (zf (nd L)) C Uh,rfl,?_⟩;have mu:jh (nd n) (nd L)=-(.int ((n:Int)*L)):=pM ⟨by ext,by ext⟩;obtain⟨xs,c1,c2,c3⟩:=tQ (gt:=gN 0) (ft:=dc) (fe:=fO cw 2 {aa 1,aR d7 (aR d7 (aR d7 (aa 2) (~~~1)) (aR jh (aa 3) (aa 4))) (aa 0)}) (ds:=bQ (Ul n)) (ρ:=[Uh,zf (.list (ns.map .int)),zf (nd a),zf (nd n),zf (nd L)]) (λρ=>∃o,ρ=[o,zf (.list (ns.map .int)),zf (nd a),zf (nd n),zf (nd L)]) (λ_ x=>∃y:Int,x=.int y/\True) ⟨Uh,rfl⟩ (by rw[gY,UA];ext) (by rintro j d v ρ ⟨o,rfl⟩;obtain⟨k,hk,rfl⟩:=sL v;obtain⟨c,G⟩:=sY ns (a+1+n*L+k);have G:cw [.list (ns.map .int),.int ((a:Int)+1+(n:Int)*L+k)]=.ok (.fz (.int c)):=G;refine⟨.int c,_,Je (ρ1:=[zf (nd k),zf (.list (ns.map .int)),zf (nd a),zf (nd n),zf (nd L)]) rfl rfl (dG (rv:=.fz (.int c)) (ds:=[.list (ns.map .int),.int ((a:Int)+1+(n:Int)*L+k)]) (am (af rfl) (am (aN (rv:=.fz (.int ((a:Int)+1+(n:Int)*L+k))) (aN (rv:=.fz (.int ((a:Int)+1+(n:Int)*L))) (aN (rv:=.fz (.int ((a:Int)+1))) (af rfl) aO rfl rfl (ir _ _)) (aN (rv:=.fz (.int ((n:Int)*L))) (af rfl) (af rfl) rfl rfl mu) rfl rfl (ir _ _)) (af rfl) rfl rfl (ir _ _)) aL)) rfl rfl G) rfl rfl,⟨_,rfl⟩,c,rfl,trivial⟩);obtain⟨cs,rfl,_⟩:=sU (f:=Up.int) (Q:=λ_ (_:Int)=>True) xs 0 c3;rw[gY,UA,Ui]at c2;refine fX (pv:=.ow (cs.map .int)) (ρ3:=E9 ns a n l g (zo (e.map lG)) (zf (nd L)) (zo (cs.map .int)) Uh) (eC (cs:=[.list (ns.map .int),nd a,nd n,nd L]) (ds:=bQ (Ul n)) (by fail "ev") rfl c1) rfl rfl ?_;obtain⟨U,c4,c5,c6⟩:=tQ (gt:=gN 0) (ft:=dc) (fe:=fO eW 3 {aa 0,aa 1,aa 2}) (ds:=cs.map .int) (ρ:=[Uh,zf (nd L),zf (nd g)]) (λρ=>∃o,ρ=[o,zf (nd L),zf (nd g)]) (λ_ x=>∃y:Mn,x=mD y/\VM L g y) ⟨Uh,rfl⟩ (by rw[Ui];ext) (by
    rintro j d v ρ ⟨o,rfl⟩;obtain⟨c,rfl⟩:∃c:Int,d=.int c:=by
     rw[Uu]at v;cases q:cs[j]? with
     |none=>rw[q]at v;cases v
     |some x=>rw[q]at v;exact⟨x,(UH v).symm⟩
    obtain⟨m,J,em⟩:=K0 c L g l1 (by ext);exact⟨mD m,_,Je (ρ1:=[zf (.int c),zf (nd L),zf (nd g)]) rfl rfl (dG (rv:=.fz (mD m)) (ds:=[.int c,nd L,nd g]) (am (af rfl) (am (af rfl) (am (af rfl) aL))) rfl rfl em) rfl rfl,⟨_,rfl⟩,m,rfl,J⟩)
   obtain⟨p,rfl,q6⟩:=sU (f:=mD) (Q:=λ_ y=>VM L g y) U 0 c6;rw[Ui,Ui]at c5;have K:fF [.list (p.map mD)]=-(lG p):=rfl;have N:(e.map lG).length<1000000:=by rw[Ui];ext
   refine sZ (pv:=.fz .none) (ρ1:=E9 ns a n l g (zo (e.map lG++[lG p])) (zf (nd L)) (zf (.list (cs.map .int))) Uh) (xY (pa:=.fz (lG p)) (d:=lG p) rfl (dR (rv:=.fz (lG p)) (ds:=[.list (p.map mD)]) (am (eC (cs:=[nd L,nd g]) (ds:=cs.map .int) (gm (kH rfl) rfl rfl) rfl c4) aL) rfl K) rfl rfl N rfl) ⟨e++[p],_,_,by rw[Uo,F];rfl,KU H (by ext) (λm hm=>?_),by rw[UI];rfl⟩;obtain⟨t,ht⟩:=WO.mp hm;rw[F];exact q6 t m ht
  .rintro ρ ⟨e,E,C,F,H,rfl⟩;rw[gY,UA]at F;obtain⟨u,O⟩:∃u,e[0]?=lD u:=⟨_,Us (show 0<e.length by ext)⟩;have hl0:=(H 0 u O).1;obtain⟨cs,J,Y,G⟩:=Fo I n (by ext) u (by ext);have i0:bA (.list (e.map lG)) (.int 0)=-(lG u):=LS (by decide) (by show(e.map lG)[0]?=_;rw[Uu,O];rfl);refine fX (ρ3:=E9 ns a n l g (zo (e.map lG)) E C (zf (.tuple (cs.map gU)))) (dG (rv:=.fz (.tuple (cs.map gU))) (ds:=[.int I,nd n,lG u]) (am (dG (rv:=.fz (.int I)) (ds:=[.list (ns.map .int),.int ((a:Int)+10)]) (am (af rfl) (am (aN (rv:=.fz (.int ((a:Int)+10))) (af rfl) aO rfl rfl (ir _ _)) aL)) rfl rfl z) (am (af rfl) (am (aN (rv:=.fz (lG u)) (dx:=.list (e.map lG)) (kH rfl) aO rfl rfl i0) aL))) rfl rfl G) rfl rfl ?_;have K:fF [.list (e.map lG)]=-(.tuple (e.map lG)):=rfl;refine fU (pv:=.fz (bD ⟨n,e,cs,1+(A:Int)⟩)) (rv:=.fz (bD ⟨n,e,cs,1+(A:Int)⟩)) (ρ1:=E9 ns a n l g (zo (e.map lG)) E C (zf (.tuple (cs.map gU)))) (gW (ds:=[nd n,.tuple (e.map lG),.tuple (cs.map gU),.int (1+(A:Int))]) (am (af rfl) (am (dR (rv:=.fz (.tuple (e.map lG))) (ds:=[.list (e.map lG)]) (am (kH rfl) aL) rfl K) (am (af rfl) (am (aN (rv:=.fz (.int (1+(A:Int)))) aO (dG (rv:=.fz (nd A)) (ds:=[.int l,.int 6,nd w]) (am (af rfl) (am aO (am (aN (rv:=.fz (nd w)) (dx:=.list [.int 4,.int 4,.int 2]) (by fail "ev") (aN (rv:=.fz (.int ((n:Int) - 1))) (af rfl) aO rfl rfl (uu _ _)) rfl rfl ew) aL))) rfl rfl P) rfl rfl (ir _ _)) aL)))) rfl (Uv rfl)) rfl ⟨_,⟨Sh n1 (Int.le_trans n3 (by decide)) (by ext) O (by rw[F];exact H) J Y (by ext) (by ext),rfl⟩,rfl⟩
 obtain⟨rv,h,b,⟨B,hb⟩,rfl⟩:=M;exact⟨b,B,hb,h⟩
section
variable{ρ ρ1:bz}{Z Z1 Y U:bh}{x y z:SV}{i:Nat}{d:D}{X:bb (D×D)}
theorem vW(h:Z[i]?=lD (.dd X)):qZ Z (.rf i)=lD (i,X):=by unfold qZ;dsimp only;rw[h]
theorem MN(a:fk ρ Z=.ok x Z1)(hd:fd ρ Z1=.ok (.rf i) Y)(e:lV x=lD k)(b:Y[i]?=lD (.dd X)):D4 neg fk fd ρ Z=.ok (.fz (.bool ((gL X k).isSome !=neg))) Y:=by unfold D4;rw[a,eh,hd,eh,e];show((RS.Vm Y (qZ Y (.rf i))).bind _)=_;rw[vW b];rfl
theorem zF(hd:fd ρ Z=.ok (.rf i) Z1)(a:fk ρ Z1=.ok x Y)(f:lV x=lD k)(e:Y[i]?=lD (.dd X))(b:gL X k=lD d):rC fd fk ρ Z=.ok (.fz d) Y:=by unfold rC;rw[hd,eh,a,eh,f];show((RS.Vm Y (qZ Y (.rf i))).bind _)=_;rw[vW e];show((RS.Vm Y (gL X k)).bind _)=_;rw[b];rfl
theorem zP(a:fv ρ Z=.ok (.fz d) Z1)(hd:fd ρ Z1=.ok (.rf i) Y)(e:fk ρ Y=.ok x U)(g:lV x=lD k)(f:U[i]?=lD (.dd X))(b:X.length<1000000):ud fd fk fv ρ Z=.ok (.nx ρ) (U.set i (.dd (lh X k d))):=by unfold ud;rw[a,eh,hd,eh,e,eh,g];show((RS.Vm U (qZ U (.rf i))).bind _)=_;rw[vW f];show(if X.length<1000000 then _ else _)=_;rw[av b]
theorem tt(ha:fa ρ Z=.ok xs Z1)(hn:xs.length=n)(a:F xs Z1=.ok x Y):nG F n fa ρ Z=.ok x Y:=by unfold nG;rw[ha,eh,av hn,a,zi]
end
theorem mY{l r:bh}:(l++r)[l.length+t]?=r[t]? :=by rw[U6 (by ext),YO]
theorem tD{l r:bh}:(l++r).set (l.length+t) c=l++r.set t c:=by rw[aci _ _ (by ext),YO]
structure Pl where
 p:D
 b:D
 e:D
def vO(q:Pl):D:=.tuple [q.p,q.b,q.e]
def cK:bb Pl->D->bg Nat
 |[],_=>Uh
 |q::r,p=>if Up.eqv q.p p=Um then lD 0 else(cK r p).map (·+1)
def eN:Nat->bb Pl->bb (D×D)
 |_,[]=>[]
 |k,q::r=>(q.p,nd k)::eN (k+1) r
theorem mf:∀(k:Nat) (fs:bb Pl) (p:D),gL (eN k fs) p=(cK fs p).map λi=>nd (k+i)
 |_,[],_=>rfl
 |k,q::r,p=>by
  have a:=mf (k+1) r p;unfold gL at a⊢;unfold eN cK;rw[Ve];cases Up.eqv q.p p with
  |true=>rfl
  |false=>dsimp only;rw[a,ax UM,Option.map_map];congr 1;funext i;show nd (k+1+i)=nd (k+(i+1));rw[VU,Yc 1 i]
theorem zB:∀(k:Nat) (fs:bb Pl) (q:Pl),eN k (fs++[q])=eN k fs++[(q.p,nd (k+fs.length))]
 |k,[],q=>rfl
 |k,a::r,q=>by show(a.p,nd k)::eN (k+1) (r++[q])=(a.p,nd k)::(eN (k+1) r++[(q.p,nd (k+(r.length+1)))]);rw[zB (k+1) r q,VU,Yc 1 r.length]
theorem sM:∀(k:Nat) (fs:bb Pl),(eN k fs).length=fs.length
 |_,[]=>rfl
 |k,q::r=>d3 (·+1) (sM (k+1) r)
theorem Dn(h:cK fs p=Uh):lh (eN 0 fs) p (nd fs.length)=eN 0 (fs++[⟨p,b,e⟩]):=by
 have g:=mf 0 fs p;rw[h]at g;unfold gL at g;have f:((eN 0 fs).find? λa=>Up.eqv a.1 p)=Uh:=by
  cases q:(eN 0 fs).find? λa=>Up.eqv a.1 p with
  |none=>rfl
  |some x=>rw[q]at g;cases g
 unfold lh;rw[f,zB,Vk];rfl
theorem tR(h:cK fs q.p=Uh)(f:Up.eqv q.p q.p=Um):cK (fs++[q]) q.p=lD fs.length:=by
 induction fs with
 |nil=>show(if Up.eqv q.p q.p=Um then lD 0 else _)=_;rw[av f];rfl
 |cons a r b=>
  unfold cK at h;show(if Up.eqv a.p q.p=Um then lD 0 else(cK (r++[q]) q.p).map (·+1))=_;by_cases e:Up.eqv a.p q.p=Um
  .rw[av e]at h;cases h
  .rw[ax e]at h⊢;rw[b (by cases k:cK r q.p with|none=>rfl|some _=>rw[k]at h;cases h)];rfl
theorem sF(h:LD.keyD p=Um):Up.eqv p p=Um:=by
 refine YC p (LD.kd_lay p ?_);cases p with
 |tuple xs=>unfold LD.keyD at h;rw[UW]at h;unfold LD.kd;exact h.1
 |_=>simp[LD.keyD]at h
def pF(m:Int)(j k:Nat):bb (Str×SV):=[("most",.fz (.int m)),("found",.rf j),("numbers",.rf k)]
structure PSt(i j k:Nat)(m:Int)(fs:bb Pl)(Z:bh):Prop where
 o:Z[i]?=lD (.obj "Places" (pF m j k))
 f:Z[j]?=lD (.lst ((fs.map vO).map .fz))
 n:Z[k]?=lD (.dd (eN 0 fs))
 jk:j≠k
 ij:i≠j
 ik:i≠k
 lt:fs.length<100000
def vD(j k:Nat)(fs:bb Pl)(Z:bh):bh:=(Z.set k (.dd (eN 0 fs))).set j (.lst ((fs.map vO).map .fz))
section
variable{i j k:Nat}{m:Int}{fs:bb Pl}{Z:bh}{p b e:D}
theorem PSt.ent(h:PSt i j k m fs Z)(l:fs.length+1<100000):PSt i j k m (fs++[q]) (vD j k (fs++[q]) Z):=by
 have g:=(Uk.mp h.f).1;have a:=(Uk.mp h.n).1;refine⟨?_,?_,?_,h.jk,h.ij,h.ik,by rw[Uo];exact l⟩
 .unfold vD;rw[Vo (dN h.ij),Vo (dN h.ik)];exact h.o
 .unfold vD;rw[Vt (by rw[VG];exact g)]
 .unfold vD;rw[Vo h.jk,Vt a]
theorem Ki:(pF m j k).lookup ("most":Str)=-(.int m):=by rfl
theorem wv:(pF m j k).lookup ("found":Str)=lD (.rf j):=by rfl
theorem z5:(pF m j k).lookup ("numbers":Str)=lD (.rf k):=by rfl
theorem we:(pF m j k).lookup ("enter":Str)=Uh:=by rfl
theorem Ix(a:LD.keyD p=Um):lV (.fz p)=lD p:=av a
theorem v4(h:PSt i j k m fs Z)(hm:L9.RQ (.int m)=Um)(O:m<=1000)(E:LD.keyD p=Um):bW [.rf i,.fz p,.fz b,.fz e] Z=(match cK fs p with
  |some t=>.ok (.fz (nd t)) Z
  |none=>if m<=(fs.length:Int)then .er ⟨"TooMany",[("most",.int m)]⟩ Z else .ok (.fz (nd fs.length)) (vD j k (fs++[⟨p,b,e⟩]) Z)):=by
 have w:=Ix E;have A:∀{a:bh},a[i]?=lD (.obj "Places" (pF m j k))->aZ "Places" "numbers" (au 0) [lD (.rf i),-(p),-(b),-(e)] a=.ok (.rf k) a:=λz=>dW (a8 rfl) z z5;have F:∀{a:bh},a[i]?=lD (.obj "Places" (pF m j k))->aZ "Places" "found" (au 0) [lD (.rf i),-(p),-(b),-(e)] a=.ok (.rf j) a:=λz=>dW (a8 rfl) z wv;have B:∀{a:bh},a[i]?=lD (.obj "Places" (pF m j k))->aZ "Places" "most" (au 0) [lD (.rf i),-(p),-(b),-(e)] a=.ok (.fz (.int m)) a:=λz=>dW (a8 rfl) z Ki;have u:∀{a:bh},ae (aa 1) [lD (.rf i),-(p),-(b),-(e)] a=.ok (.fz p) a:=ah (af rfl);have g:=MN (neg:=Um) u (A h.o) w h.n;rw[mf]at g;have get:∀{l:bb Pl} {a:bh} {t:Nat},a[i]?=lD (.obj "Places" (pF m j k))->a[k]?=lD (.dd (eN 0 l))->cK l p=lD t->gI (rC (aZ "Places" "numbers" (au 0)) (ae (aa 1))) [lD (.rf i),-(p),-(b),-(e)] a=.ok (.rt (.fz (nd t))) a:=λK J I=>by refine iy (zF (A K) u w J ?_);rw[mf,I];show lD (nd (0+_))=_;rw[Vk]
 have v:=nJ (ao (F h.o) aK) (by unfold aC;rw[dC h.f];rfl) ((eU _).trans (by rw[Ui]));cases q:cK fs p with
 |some t=>rw[q]at g;refine jt rfl ?_;exact cX (jv (bx g) iS) (get h.o h.n q)
 |none=>
  rw[q]at g;dsimp only;by_cases r:m<=(fs.length:Int)
  .rw[av r]
   have y:=bx (dj v (B h.o) (cI ((zH _ _).trans (by rw[aE r]))));show c9 4 dU _ _=_;unfold c9;show((dU [lD (.rf i),-(p),-(b),-(e)] Z).bind _)=_;have N:dU [lD (.rf i),-(p),-(b),-(e)] Z=.er ⟨"TooMany",[("most",.int m)]⟩ Z:=by unfold dU;unfold aM;rw[ib (bx g) rfl,ib y rfl,EU (B h.o) hm];rfl
   rw[N];rfl
  .rw[ax r]
   have y:=bx (dj v (B h.o) (cI ((zH _ _).trans (by rw[aP r]))));have C:=zP v (A h.o) u w h.n (by rw[sM];have:=h.lt;ext);rw[Dn q]at C;have L:(Z.set k (.dd (eN 0 (fs++[⟨p,b,e⟩]))))[i]?=lD (.obj "Places" (pF m j k)):=(Vo (dN h.ik)).trans h.o;have G:(Z.set k (.dd (eN 0 (fs++[⟨p,b,e⟩]))))[j]?=lD (.lst ((fs.map vO).map .fz)):=(Vo (dN h.jk)).trans h.f;have H:=uT (fe:=ae (cP {aa 1,aa 2,aa 3})) (x:=.fz (vO ⟨p,b,e⟩)) (F L) G (ah (gW (am (af rfl) (am (af rfl) (am (af rfl) aL))) rfl (Uv rfl))) G (by rw[Ui,Ui];have:=h.lt;ext);have M:(Z.set k (.dd (eN 0 (fs++[⟨p,b,e⟩])))).set j (.lst ((fs.map vO).map SV.fz++[.fz (vO ⟨p,b,e⟩)]))=vD j k (fs++[⟨p,b,e⟩]) Z:=by unfold vD;rw[UI,UI];rfl
   rw[M]at H;have P:=h.ent (q:=⟨p,b,e⟩) (by ext);refine jt rfl ?_;exact cX (ib (bx g) (cX (jv y iS) (cX C (iY H)))) (get P.o P.n (tR q (sF E)))
end
def nt(Z:bh)(m:Int)(fs:bb Pl)(J:bh):bh:=Z++(Cell.obj "Places" (pF m (Z.length+1) (Z.length+2)):: .lst ((fs.map vO).map .fz):: .dd (eN 0 fs)::J)
theorem Cf(h:fs.length<100000):PSt Z.length (Z.length+1) (Z.length+2) m fs (nt Z m fs J):=
 ⟨by have:=mY (l:=Z) (r:=Cell.obj "Places" (pF m (Z.length+1) (Z.length+2)):: .lst ((fs.map vO).map .fz):: .dd (eN 0 fs)::J) (t:=0);exact this,mY,mY,by ext,by ext,by ext,h⟩
theorem Df:vD (Z.length+1) (Z.length+2) fs' (nt Z m fs J)=nt Z m fs' J:=by unfold vD nt;rw[tD,tD];rfl
def TM(m:Int):Xc:=⟨"TooMany",[("most",.int m)]⟩
theorem Aq(a:0<=m)(h:m<=1000):L9.RQ (.int m)=Um:=by refine aE (aab (Nat.log2_le_self m.natAbs) ?_);ext
theorem Ju(l:LD.keyD p=Um)(j:0<=m)(f:m<=1000):dA [.rf Z.length,.fz p,.fz (.int m)] (Z++[.obj "Places" []])=if m<=0 then .er (TM m) (nt Z m [] [])else .ok (.fz .none) (nt Z m [⟨p,.none,.none⟩] []):=by
 have i:eY "Places" "most" (au 0) (ae (aa 2)) [lD (.rf Z.length),-(p),-(.int m)] (Z++[.obj "Places" []])=.ok (.nx [lD (.rf Z.length),-(p),-(.int m)]) (Z++[.obj "Places" [("most",.fz (.int m))]]):=
  (kr (ah (af rfl)) (a8 rfl) aQ (by decide)).trans (by rw[dZ];rfl)
 have h:eY "Places" "found" (au 0) (ae (cY az)) [lD (.rf Z.length),-(p),-(.int m)] (Z++[.obj "Places" [("most",.fz (.int m))]])=.ok (.nx [lD (.rf Z.length),-(p),-(.int m)]) (Z++[.obj "Places" [("most",.fz (.int m)),("found",.rf (Z.length+1))],.lst []]):=by refine(kr (dh (by fail "ev")) (a8 rfl) (by rw[UQ];exact mY (t:=0)) (Uv rfl)).trans ?_;rw[UQ,show Z.length=Z.length+0 from rfl,tD,Uo];rfl
 have g:eY "Places" "numbers" (au 0) u9 [lD (.rf Z.length),-(p),-(.int m)] (Z++[.obj "Places" [("most",.fz (.int m)),("found",.rf (Z.length+1))],.lst []])=.ok (.nx [lD (.rf Z.length),-(p),-(.int m)]) (nt Z m [] []):=by refine(kr rfl (a8 rfl) (by rw[UQ];exact mY (t:=0)) (Uv rfl)).trans ?_;rw[UQ,show Z.length=Z.length+0 from rfl,tD,Uo];rfl
 have P:PSt Z.length (Z.length+1) (Z.length+2) m [] (nt Z m [] []):=Cf (by decide);have n:=v4 (b:=.none) (e:=.none) P (Aq j f) f l;have a:=EI (F:=bW) (fo:=au 0) (fa:=aj (ae (aa 1)) (aj (ae (pC .none)) (aj (ae (pC .none)) aH))) (ρ:=[lD (.rf Z.length),-(p),-(.int m)]) (a8 rfl) P.o we (ao (ah (af rfl)) (ao (ah aO) (ao (ah aO) aK))) rfl;rw[n]at a;have a:rE "Places" "enter" bW 4 (au 0) (aj (ae (aa 1)) (aj (ae (pC .none)) (aj (ae (pC .none)) aH))) [lD (.rf Z.length),-(p),-(.int m)] (nt Z m [] [])=if m<=0 then .er (TM m) (nt Z m [] [])else .ok (.fz (nd 0)) (vD (Z.length+1) (Z.length+2) [⟨p,.none,.none⟩] (nt Z m [] [])):=a
 rw[Df]at a;show c9 3 dm _ _=_;unfold c9;show((dm [lD (.rf Z.length),-(p),-(.int m)] (Z++[.obj "Places" []])).bind _)=_;unfold dm;rw[cX i rfl,cX h rfl,cX g rfl];unfold bS;rw[a];split<;>rfl
theorem oM:∀{l:bb α},(∀a∈l,LD.kd (f a)=Um)->LD.kds (l.map f)=Um
 |[],_=>by rw[W4,LD.kds]
 |a::r,h=>by rw[UJ,LD.kds,h a UE,oM λx b=>h x (UC _ b)];rfl
theorem DT:∀ks:bb Nat,LD.kds (bQ ks)=Um:=λks=>oM λa _=>by show LD.kd (.int a)=Um;rw[LD.kd]
theorem NU(h:LB m):LD.kd (mD m)=Um:=by
 cases m with
 |Vd c=>show LD.kd (.tuple [.str "letter",.str (k9 c)])=Um;simp only[LD.kd,LD.kds];rw[og h,show Up.strOk "letter"=Um by left];rfl
 |WX n=>show LD.kd (.tuple [.str "layer",.int n])=Um;simp only[LD.kd,LD.kds];rw[show Up.strOk "layer"=Um by left];rfl
 |ZI c n=>show LD.kd (.tuple [.str "tap",.str (k9 c),.int n])=Um;simp only[LD.kd,LD.kds];rw[og h,show Up.strOk "tap"=Um by left];rfl
 |once n=>show LD.kd (.tuple [.str "once",.int n])=Um;simp only[LD.kd,LD.kds];rw[show Up.strOk "once"=Um by left];rfl
 |none=>show LD.kd (.tuple [.str "none"])=Um;simp only[LD.kd,LD.kds];rw[show Up.strOk "none"=Um by left];rfl
 |below=>show LD.kd (.tuple [.str "below"])=Um;simp only[LD.kd,LD.kds];rw[show Up.strOk "below"=Um by left];rfl
theorem Rr(h:SW b s):LD.kd (cM s)=Um/\Up.depth (cM s)<=4:=by
 have j:LD.kds ((i9 s.ac).map pD)=Um:=oM λq l=>by show LD.kd (.tuple [nd q.1,mD q.2])=Um;simp only[LD.kd,LD.kds];rw[NU (h.sa.ac _ _ (hV.mp l).2).2.lb];rfl
 have o:∀m:Mn,Up.depth (mD m)<=1:=λm=>by cases m<;>exact Uv rfl
 have p:Up.depthAll ((i9 s.ac).map pD)<=2:=mG λq _=>by show max 0 (max (Up.depth (mD q.2)) 0)+1<=2;have:=o q.2;ext
 have f:LD.kd (kJ s.wt)=Um/\Up.depth (kJ s.wt)<=2:=by
  cases q:s.wt with
  |none=>exact⟨by show LD.kd .none=Um;rw[LD.kd],Vl _⟩
  |some x=>
   obtain⟨a,g,w⟩:=x;have v:=(h.wt a g w q).1;constructor
   .show LD.kd (.tuple [.tuple (bQ a),.int g,vL w])=Um
    simp only[LD.kd,LD.kds];rw[DT];cases w with
    |none=>show(Um&&(Um&&(LD.kd (.tuple [.str "chord"])&&Um)))=Um;simp only[LD.kd,LD.kds];rw[show Up.strOk "chord"=Um by left];rfl
    |some i=>obtain⟨c,n⟩:=i;have lb:LB (.ZI c n):=(v.tp c n rfl).1;show(Um&&(Um&&(LD.kd (mD (.ZI c n))&&Um)))=Um;rw[NU lb];rfl
   .show max (Up.depthAll (bQ a)+1) (max 0 (max (Up.depth (vL w)) 0))+1<=2
    rw[mS];cases w with
    |none=>exact Uv rfl
    |some i=>exact Uv rfl
 have e:LD.kd (vo s.oc)=Um/\Up.depth (vo s.oc)=0:=by cases s.oc<;>exact⟨by show LD.kd _=Um;unfold vo;simp only[LD.kd],rfl⟩
 constructor
 .show LD.kd (.tuple [.tuple ((i9 s.ac).map pD),kJ s.wt,vo s.oc])=Um;simp only[LD.kd,LD.kds];rw[j,f.1,e.1];rfl
 .show max (Up.depthAll ((i9 s.ac).map pD)+1) (max (Up.depth (kJ s.wt)) (max (Up.depth (vo s.oc)) 0))+1<=4;rw[e.2];have:=f.2;ext
theorem lS(h:SW b s):LD.keyD (cM s)=Um:=by obtain⟨a,e⟩:=Rr h;unfold cM at a e⊢;rw[LD.kd]at a;rw[LD.keyD];rw[a,aE (show _<=8 by ext)];rfl
def bB(n:Nat):bb X1:=(Ul n).map .down++(Ul n).map .up++[.turn]
theorem yc{b:Bd}{n:Nat}(hn:b.n=n):∀e∈bB n,EV b e:=by
 intro e a;rcases Vp.mp a with a|a
 .rcases Vp.mp a with a|a
  .obtain⟨k,f,rfl⟩:=Vc.mp a;have:=Vr.mp f;show(k:Int)<b.n;ext
  .obtain⟨k,f,rfl⟩:=Vc.mp a;have:=Vr.mp f;show(k:Int)<b.n;ext
 .rw[UR.mp a];trivial
theorem QV(h:xs.length+ys.length<=1000000):d7 (.list xs) (.list ys)=lD (.ow (xs++ys)):=av h
theorem RY(b:Bd):bA (bD b) (.int 0)=-(.int b.n):=jA
theorem PD{b:Bd}{n:Nat}(hn:b.n=n)(l:n<=5):ig [bD b]=.ok (.ow ((bB n).map dS)):=by
 have i:gJ [.int b.n]=lD (bQ (Ul n)):=by rw[hn];exact ky (by ext)
 have j:=RY b;have a:(Ul n).length<=1000:=by rw[UA];ext
 have f:lB (d9 (gN 0) dc (cP {pC (.str "down"),aa 0}) (bQ (Ul n)) [Uh] [])=.ok ((Ul n).map λk=>dS (.down k)):=iM nd (λk=>dS (.down k)) (Ul n) a rfl λk _=>gW (am aO (am (af rfl) aL)) rfl (Uv rfl);have e:lB (d9 (gN 0) dc (cP {pC (.str "up"),aa 0}) (bQ (Ul n)) [Uh] [])=.ok ((Ul n).map λk=>dS (.up k)):=iM nd (λk=>dS (.up k)) (Ul n) a rfl λk _=>gW (am aO (am (af rfl) aL)) rfl (Uv rfl);have h:d7 (.list ((Ul n).map λk=>dS (.down k))) (.list ((Ul n).map λk=>dS (.up k)))=lD (.ow (((Ul n).map λk=>dS (.down k))++(Ul n).map λk=>dS (.up k))):=QV (by rw[Ui,Ui];ext);have g:d7 (.list (((Ul n).map λk=>dS (.down k))++(Ul n).map λk=>dS (.up k))) (.list [dS .turn])=lD (.ow ((bB n).map dS)):=(QV (by rw[Uo,Ui,Ui];show _+1<=_;ext)).trans (by unfold bB;rw[UI,UI,UZ,UZ];rfl);refine jJ rfl ?_;unfold mi;refine fX (eC (by fail "ev") rfl f) rfl rfl ?_;refine fX (eC (by fail "ev") rfl e) rfl rfl ?_;exact fU (aN (aN (kH rfl) (kH rfl) rfl rfl h) (p9 (am (gW (am aO (am aO aL)) rfl (Uv rfl)) aL) rfl (Uv rfl)) rfl rfl g) rfl rfl
section
variable{ρ:bz}{Z Z1:bh}{i:Nat}{fe:dI}{T:SV->bh->Prop}{X:Xc->Prop}
theorem AU(h:Z[i]?=lD (.lst xs)):gp Z (.rf i)=lD (i,xs):=by unfold gp;dsimp only;rw[h]
theorem La(a:fo ρ Z=.ok (.rf i) Z)(h:Z[i]?=lD (.lst xs))(b:Out (fe ρ Z) (λx Z2=>∃ys,Z2[i]?=lD (.lst ys)/\ys.length<1000000/\T (.fz .none) (Z2.set i (.lst (ys++[x])))) X):Out (kK fo fe ρ Z) T X:=by
 refine .eq (show kK fo fe ρ Z=(fe ρ Z).bind λx Z2=>(RS.Vm Z2 (gp Z2 (.rf i))).bind λp j=>if p.2.length<1000000 then .ok (.fz .none) (j.set p.1 (.lst (p.2++[x])))else .bad from ?_) (Out.bind (b.imp λx Z2 k=>?_))
 .unfold kK;rw[a,eh,AU h];rfl
 .obtain⟨ys,g,f,e⟩:=k;refine .eq (r':=RS.ok (SV.fz .none) (Z2.set i (.lst (ys++[x])))) ?_ ⟨e⟩;rw[AU g];show(if ys.length<1000000 then _ else _)=_;rw[av f]
theorem Me(a:Out (fe ρ Z) (λx Z2=>∃ds,sh Z2 x=lD (.list ds)/\T (.fz (.tuple ds)) Z2) X):Out (kg fF (aj fe aH) ρ Z) T X:=by
 refine .eq (show kg fF (aj fe aH) ρ Z=(fe ρ Z).bind λx Z2=>FV fF [x] Z2 from ?_) (Out.bind (a.imp λx Z2 k=>?_))
 .unfold kg aj;cases fe ρ Z<;>rfl
 .obtain⟨ds,e,b⟩:=k;refine .eq (r':=RS.ok (SV.fz (.tuple ds)) Z2) ?_ ⟨b⟩;unfold FV aC aC;rw[e];rfl
end
structure Rm where
 s:WI
 b:D
 e:D
def fS(r:Rm):Pl:=⟨cM r.s,r.b,r.e⟩
def md(fs:bb Rm)(s:WI)(b e:D):bb Rm:=if(cK (fs.map fS) (cM s)).isSome=Um then fs else fs++[⟨s,b,e⟩]
def fC(fs:bb Rm)(s:WI):Nat:=(cK (fs.map fS) (cM s)).getD fs.length
def gj(b:Bd)(s:WI)(r:Nat)(fs:bb Rm)(es:bb X1):bb Rm:=es.foldl (λfs e=>md fs (aG b s e).1 (nd r) (dS e)) fs
theorem zz{es:bb X1}(h:es[i]?=lD e):gj b s r fs (es.take (i+1))=md (gj b s r fs (es.take i)) (aG b s e).1 (nd r) (dS e):=by unfold gj;rw[V0,h,aak];rfl
theorem Mq(fs:bb Rm)(s:WI)(b e:D):fs<+:md fs s b e:=by
 unfold md;split
 .exact W6 _
 .exact adm _ _
theorem sS:∀(es:bb X1) (fs:bb Rm),fs<+:gj b s r fs es
 |[],fs=>W6 _
 |e::es,fs=>(Mq fs _ _ _).trans (sS es _)
theorem zm(es:bb X1)(fs:bb Rm)(i:Nat):gj b s r fs (es.take i)<+:gj b s r fs es:=by
 have e:gj b s r fs es=gj b s r (gj b s r fs (es.take i)) (es.drop i):=by unfold gj;rw[<-aak,List.take_append_drop]
 rw[e];exact sS _ _
theorem tj:∀{fs b:bb Pl},cK fs p=lD t->cK (fs++b) p=lD t
 |[],_,h=>by cases h
 |a::r,b,h=>by
  unfold cK at h;show(if Up.eqv a.p p=Um then lD 0 else(cK (r++b) p).map (·+1))=_;split
  .rename_i e;rw[av e]at h;exact h
  .rename_i e
   rw[ax e]at h;cases q:cK r p with
   |none=>rw[q]at h;cases h
   |some j=>rw[q]at h;rw[tj q];exact h
theorem Ef(h:fs<+:gs)(hi:cK (fs.map fS) (cM s)=lD t):fC gs s=t:=by obtain⟨l,rfl⟩:=h;unfold fC;rw[UI,tj hi];rfl
theorem Pp(h:SW b s):Up.eqv (cM s) (cM s)=Um:=sF (lS h)
theorem sO(h:SW b s)(x y:D):cK ((md fs s x y).map fS) (cM s)=lD (fC fs s):=by
 unfold md fC;cases q:cK (fs.map fS) (cM s)with
 |some t=>show cK (fs.map fS) (cM s)=_;rw[q];rfl
 |none=>show cK ((fs++[(⟨s,x,y⟩:Rm)]).map fS) (cM s)=lD fs.length;rw[UI];have:=tR (q:=⟨cM s,x,y⟩) q (Pp h);rw[Ui]at this;exact this
theorem O8(h:SW b s)(e:∀r∈fs,SW b r.s):∀r∈md fs s x y,SW b r.s:=by
 unfold md;split
 .exact e
 .intro r a
  rcases Vp.mp a with a|a
  .exact e r a
  .rw[UR.mp a];exact h
theorem A9(a:VB b)(f:SW b s):∀(es:bb X1) (fs:bb Rm),(∀e∈es,EV b e)->(∀r∈fs,SW b r.s)->∀q∈gj b s r fs es,SW b q.s
 |[],fs,_,hf=>hf
 |e::es,fs,he,hf=>A9 a f es _ (λx g=>he x (UC _ g)) (O8 (iL a f (he e UE)) hf)
def b3(b:Bd)(es:bb X1):Nat->bb Rm
 |0=>[⟨gc,.none,.none⟩]
 |i+1=>match(b3 b es i)[i]? with
  |some r=>gj b r.s i (b3 b es i) es
  |none=>b3 b es i
theorem qB(h:(b3 b es i)[i]?=lD r):b3 b es (i+1)=gj b r.s i (b3 b es i) es:=by show(match(b3 b es i)[i]? with|some r=>gj b r.s i (b3 b es i) es|none=>b3 b es i)=_;rw[h]
theorem xt(h:(b3 b es i).length<=i):b3 b es (i+1)=b3 b es i:=by show(match(b3 b es i)[i]? with|some r=>gj b r.s i (b3 b es i) es|none=>b3 b es i)=_;rw[List.getElem?_eq_none h]
theorem zX(b:Bd)(es:bb X1)(i:Nat):b3 b es i<+:b3 b es (i+1):=by
 by_cases h:i<(b3 b es i).length
 .rw[qB (Us h)];exact sS _ _
 .rw[xt (by ext)];exact W6 _
theorem o0(b:Bd)(es:bb X1)(i k:Nat):b3 b es i<+:b3 b es (i+k):=by
 induction k with
 |zero=>exact W6 _
 |succ k a=>exact a.trans (zX b es (i+k))
theorem MO(h:(b3 b es N).length<=N)(k:Nat):b3 b es (N+k)=b3 b es N:=by
 induction k with
 |zero=>rfl
 |succ k a=>rw[<-VU,xt (by rw[a];ext),a]
theorem oH(h:(b3 b es N).length<=N)(i:Nat):(b3 b es i).length<=(b3 b es N).length:=by
 by_cases hi:i<=N
 .obtain⟨k,rfl⟩:=WY hi;exact(o0 b es i k).length_le
 .obtain⟨k,rfl⟩:=WY (show N<=i by ext);rw[MO h];exact Ux _
theorem xq(h:(b3 b es N).length=N)(h':(b3 b es M).length=M):N=M:=by have e:=oH (W7 h) M;have a:=oH (W7 h') N;ext
theorem kE(a:VB b)(f:∀e∈es,EV b e):∀i,∀r∈b3 b es i,SW b r.s
 |0=>λr g=>by rw[UR.mp g];exact ti b
 |i+1=>by
  by_cases h:i<(b3 b es i).length
  .rw[qB (Us h)];exact A9 a (kE a f i _ (W5 h)) es _ f (kE a f i)
  .rw[xt (by ext)];exact kE a f i
theorem xF(b:Bd)(es:bb X1)(i:Nat):1<=(b3 b es i).length:=by have:=(o0 b es 0 i).length_le;rw[Vk]at this;exact this
theorem QI(h:i<(b3 b es i).length):i+1<=(b3 b es (i+1)).length:=Va h (zX b es i).length_le
def jB(b:Bd)(s:WI)(e:X1):D:=.tuple [.list ((aG b s e).2.map jy),cM (aG b s e).1]
def n9(b:Bd)(s:WI)(e:X1):Cell:=.lst (((aG b s e).2.map jy).map .fz)
def DR(b:Bd)(s:WI):Nat->bb X1->bb SV
 |_,[]=>[]
 |n,e::r=>.tp [.rf n,.fz (cM (aG b s e).1)]::DR b s (n+1) r
theorem AD(b:Bd)(s:WI):∀(es:bb X1) (n:Nat) (e:X1),DR b s n (es++[e])=DR b s n es++[.tp [.rf (n+es.length),.fz (cM (aG b s e).1)]]
 |[],n,e=>rfl
 |a::r,n,e=>by show _::DR b s (n+1) (r++[e])=_::(DR b s (n+1) r++_);rw[AD b s r (n+1) e,VU,Yc 1 r.length];rfl
theorem CK(b:Bd)(s:WI):∀(es:bb X1) (n:Nat),(DR b s n es).length=es.length
 |[],_=>rfl
 |_::r,n=>d3 (·+1) (CK b s r (n+1))
theorem Ey(b:Bd)(s:WI):∀(es:bb X1) (Z R:bh),jP (frz 3) (Z++(es.map (n9 b s)++R)) (DR b s Z.length es)=lD (es.map (jB b s),Z++(Uz es.length .dead++R))
 |[],Z,R=>rfl
 |e::r,Z,R=>by
  have g:(Z++(n9 b s e::(r.map (n9 b s)++R)))[Z.length]?=lD (n9 b s e):=mY (t:=0);have i:frz 2 (Z++(n9 b s e::(r.map (n9 b s)++R))) (.rf Z.length)=lD (.list ((aG b s e).2.map jy),Z++(.dead::(r.map (n9 b s)++R))):=by unfold frz;rw[g];unfold n9;dsimp only;rw[pz];dsimp only;have:=tD (l:=Z) (r:=n9 b s e::(r.map (n9 b s)++R)) (t:=0) (c:=.dead);exact d3 (λz=>lD (Up.list ((aG b s e).2.map jy),z)) this
  have h:frz 3 (Z++(n9 b s e::(r.map (n9 b s)++R))) (.tp [.rf Z.length,.fz (cM (aG b s e).1)])=lD (jB b s e,Z++(.dead::(r.map (n9 b s)++R))):=by
   have f:jP (frz 2) (Z++(n9 b s e::(r.map (n9 b s)++R))) [.rf Z.length,.fz (cM (aG b s e).1)]=lD ([.list ((aG b s e).2.map jy),cM (aG b s e).1],Z++(.dead::(r.map (n9 b s)++R))):=by unfold jP;rw[i];rfl
   unfold frz;rw[show([AV.rf Z.length,AV.fz (cM (aG b s e).1)].map AV.sv)=[.rf Z.length,.fz (cM (aG b s e).1)]from rfl,f];rfl
  have a:=Ey b s r (Z++[.dead]) R;rw[Uo,UQ,UQ]at a;show(match frz 3 (Z++(n9 b s e::(r.map (n9 b s)++R))) (.tp [.rf Z.length,.fz (cM (aG b s e).1)])with
   |some (d,Z1)=>(match jP (frz 3) Z1 (DR b s (Z.length+1) r)with
    |some (ds,Z2)=>lD (d::ds,Z2)
    |none=>Uh)
   |none=>Uh)=_
  rw[h];dsimp only;rw[show Z++(Cell.dead::(r.map (n9 b s)++R))=Z++([Cell.dead]++(r.map (n9 b s)++R))from rfl,show Z.length+1=Z.length+[Cell.dead].length from rfl,a];rfl
theorem Bv(m:VB b)(n:SW b s){es:bb X1}(r:∀e∈es,EV b e)(z:es.length<=1000)(w:ρ[0]?=lD (-(bD b)))(v:ρ[2]?=lD (-(.list (es.map dS))))(u:ρ[7]?=lD (-(cM s))):
  ∃J,jN (eZ 1 [0,7] (eT (gh (aa 2))) (cV 0) cR (nA STP.gR 3 (aj (ae (aa 1)) (aj (ae (aa 2)) (aj (ae (aa 0)) aH))))) ρ Z=.ok (.fz (.list (es.map (jB b s)))) (Z++J):=by
 have hi:eT (gh (aa 2)) ρ Z=.ok (es.map dS) Z:=fE (gm (af (by unfold bT;rw[Uu,v];rfl)) rfl rfl);have h:fy 1 [0,7] ρ=[Uh,-(bD b),-(cM s)]:=by unfold fy;show Uh::[(ρ[0]?).join,(ρ[7]?).join]=_;rw[w,u];rfl
 have t:=i4 (X:=λ_=>False) (gt:=cV 0) (ft:=cR) (fe:=nA STP.gR 3 (aj (ae (aa 1)) (aj (ae (aa 2)) (aj (ae (aa 0)) aH)))) (λi a l g=>∃o,a=[o,-(bD b),-(cM s)]/\l=Z++(es.take i).map (n9 b s)/\g=DR b s Z.length (es.take i)) (es.map dS) 0 (fy 1 [0,7] ρ) Z [] ⟨Uh,h,by rw[Zh,W4,UT],rfl⟩ (by
  rintro i d a l g f ⟨o,rfl,rfl,rfl⟩;rw[Vk];rw[Uu]at f;cases q:es[i]? with
  |none=>rw[q]at f;cases f
  |some e=>
   rw[q]at f;cases UH f;have y:=(Uk.mp q).1;refine⟨by rw[CK,Vs];ext,[-(dS e),-(bD b),-(cM s)],rfl,rfl,?_⟩;have p:vi STP.gR 3 [.fz (bD b),.fz (cM s),.fz (dS e)] (Z++(es.take i).map (n9 b s))=.ok (.tp [.rf (Z++(es.take i).map (n9 b s)).length,.fz (cM (aG b s e).1)]) ((Z++(es.take i).map (n9 b s))++[n9 b s e]):=NL m n (r e (UL q));refine .eq (r':=RS.ok (SV.tp [.rf (Z++(es.take i).map (n9 b s)).length,.fz (cM (aG b s e).1)]) ((Z++(es.take i).map (n9 b s))++[n9 b s e])) ?_ ⟨_,rfl,?_,?_⟩
   .unfold nA;rw[ao (ah (af rfl)) (ao (ah (af rfl)) (ao (ah (af rfl)) aK)),eh,p];rfl
   .rw[V0,q,UI,UQ];rfl
   .rw[V0,q];show DR b s Z.length (es.take i)++_=DR b s Z.length (es.take i++[e]);rw[AD,Uo,Ui])
 obtain⟨xs,A,j,a,o,_,rfl,rfl⟩:=t.all;rw[Vk,Ui,XU]at j;have cm:=iW hi j;have fz:frz 4 ((Z++es.map (n9 b s))++[Cell.lst (DR b s Z.length es)]) (.rf (Z++es.map (n9 b s)).length)=lD (.list (es.map (jB b s)),(Z++(Uz es.length Cell.dead++[Cell.lst (DR b s Z.length es)])).set (Z++es.map (n9 b s)).length .dead):=by unfold frz;rw[aQ];dsimp only;rw[UQ,Ey b s es Z [Cell.lst (DR b s Z.length es)]]
 rw[Uo,tD]at fz;exact⟨_,iw cm (by rw[Uo];exact fz)⟩
theorem DB(f g:α->D):∀l:bb α,kY (l.map f) (l.map g)=l.map λx=>.tuple [f x,g x]
 |[]=>rfl
 |x::r=>by show Up.tuple [f x,g x]::kY (r.map f) (r.map g)=_;rw[DB f g r];rfl
theorem Fj{b:Bd}(B:VB b){s:WI}(C:SW b s){es:bb X1}(G:∀e∈es,EV b e)(hl:es.length<=1000){ρ:bz}{Z J:bh}{m:Int}{r:Nat}{fs:bb Rm}(K:0<=m)(E:m<=1000)(U:(fs.length:Int)<=m)
  (S:ρ[2]?=lD (-(.list (es.map dS)))) (R:ρ[3]?=lD (lD (.rf Z.length))) (Q:ρ[6]?=lD (-(nd r))) (O:ρ[8]?=lD (-(.list (es.map (jB b s))))):
  Out (vj 2 [3,6] (eT (yr {aa 2,aa 8})) (Nd 2 (l7 (cV 0) (l7 (cV 1) xA))) cR (rE "Places" "enter" bW 4 (au 2) (aj (ae (aR bA (aa 1) (~~~1))) (aj (ae (aa 3)) (aj (ae (aa 0)) aH)))) ρ (nt Z m (fs.map fS) J))
   (λx Z'=>x=.rf (nt Z m ((gj b s r fs es).map fS) J).length/\Z'=nt Z m ((gj b s r fs es).map fS) (J++[.lst ((es.map λe=>nd (fC (gj b s r fs es) (aG b s e).1)).map .fz)])/\((gj b s r fs es).length:Int)<=m)
   (λx=>x=TM m/\m<((gj b s r fs es).length:Int)):=by
 have hi:eT (yr {aa 2,aa 8}) ρ (nt Z m (fs.map fS) J)=.ok (es.map λe=>.tuple [dS e,jB b s e]) (nt Z m (fs.map fS) J):=by
  have I:(bT ρ)[2]?=lD (-(.list (es.map dS))):=by unfold bT;rw[Uu,S];rfl
  have H:(bT ρ)[8]?=lD (-(.list (es.map (jB b s)))):=by unfold bT;rw[Uu,O];rfl
  rw[<-DB];exact fE (sV (d:=.list (es.map dS)) (e:=.list (es.map (jB b s))) (am (af I) (am (af H) aL)) rfl rfl rfl)
 have A:fy 2 [3,6] ρ=[Uh,Uh,lD (.rf Z.length),-(nd r)]:=by unfold fy;show Uh::Uh::[(ρ[3]?).join,(ρ[6]?).join]=_;rw[R,Q];rfl
 refine CF hi (Out.imp (i4 (λi f Z' l=>∃v u,f=[v,u,lD (.rf Z.length),-(nd r)]/\Z'=nt Z m ((gj b s r fs (es.take i)).map fS) J/\l=((es.take i).map λe=>nd (fC (gj b s r fs es) (aG b s e).1)).map .fz/\((gj b s r fs (es.take i)).length:Int)<=m) (es.map λe=>.tuple [dS e,jB b s e]) 0 (fy 2 [3,6] ρ) (nt Z m (fs.map fS) J) [] ⟨Uh,Uh,A,rfl,rfl,U⟩ ?_) ?_)
 .rintro i d f Z' l j ⟨v,u,rfl,rfl,rfl,hle⟩
  rw[Vk]at hle⊢;rw[Uu]at j;cases q:es[i]? with
  |none=>rw[q]at j;cases j
  |some e=>
   rw[q]at j;cases UH j;have il:=(Uk.mp q).1;have y:=G e (UL q);have g:=iL B C y;have rt:=zz (b:=b) (s:=s) (r:=r) (fs:=fs) q;have h:=zm (b:=b) (s:=s) (r:=r) es fs (i+1);have T:=A9 B C (r:=r) (es.take i) fs (λx N=>G x (acS N));generalize hF:gj b s r fs (es.take i)=F at hle rt;refine⟨by rw[Ui,Ui,Vs];ext,[-(dS e),-(jB b s e),lD (.rf Z.length),-(nd r)],rfl,rfl,?_⟩;have L:(F.map fS).length<100000:=by rw[Ui];ext
   have P:PSt Z.length (Z.length+1) (Z.length+2) m (F.map fS) (nt Z m (F.map fS) J):=Cf L;have X:=v4 (b:=nd r) (e:=dS e) P (Aq K E) E (lS g);have M:bA (jB b s e) (.int 1)=-(cM (aG b s e).1):=lQ;have a:=EI (n:=4) (m:= "enter") (F:=bW) (fo:=au 2) (fa:=aj (ae (aR bA (aa 1) (~~~1))) (aj (ae (aa 3)) (aj (ae (aa 0)) aH))) (ρ:=[-(dS e),-(jB b s e),lD (.rf Z.length),-(nd r)]) (xs:=[.fz (cM (aG b s e).1),.fz (nd r),.fz (dS e)]) (a8 rfl) P.o we (ao (ah (aN (rv:=.fz (cM (aG b s e).1)) (af rfl) aO rfl rfl M)) (ao (ah (af rfl)) (ao (ah (af rfl)) aK))) rfl;rw[X]at a;have w:=Ef h (s:=(aG b s e).1) (t:=fC F (aG b s e).1) (by rw[rt];exact sO g _ _);have Y:((es.take (i+1)).map λe=>nd (fC (gj b s r fs es) (aG b s e).1)).map SV.fz=((es.take i).map λe=>nd (fC (gj b s r fs es) (aG b s e).1)).map .fz++[.fz (nd (fC F (aG b s e).1))]:=by rw[V0,q,UI,UI];show _++[SV.fz (nd (fC (gj b s r fs es) (aG b s e).1))]=_;rw[w]
   rw[Y,rt];cases q2:cK (F.map fS) (cM (aG b s e).1)with
   |some t=>
    rw[q2]at a;have p:md F (aG b s e).1 (nd r) (dS e)=F:=by unfold md;rw[q2];rfl
    have z:fC F (aG b s e).1=t:=by unfold fC;rw[q2];rfl
    rw[p,z];exact .eq a ⟨_,_,rfl,rfl,rfl,hle⟩
   |none=>
    rw[q2]at a;have p:md F (aG b s e).1 (nd r) (dS e)=F++[⟨(aG b s e).1,nd r,dS e⟩]:=by unfold md;rw[q2];rfl
    have z:fC F (aG b s e).1=F.length:=by unfold fC;rw[q2];rfl
    dsimp only at a;rw[Ui]at a;by_cases hm:m<=(F.length:Int)
    .rw[av hm]at a;refine .eq a ⟨rfl,?_⟩;have:=h.length_le;rw[rt,p,Uo]at this;have this:F.length+1<=_:=this;ext
    .rw[ax hm,Df]at a;rw[p,z];refine .eq a ⟨_,_,rfl,by rw[UI];rfl,rfl,?_⟩;rw[Uo];show((F.length+1:Nat):Int)<=m;ext
 .rintro xs Z' ⟨f,v,u,_,rfl,rfl,hle⟩;rw[Vk,Ui,XU] at*;refine⟨rfl,?_,hle⟩;unfold nt;rw[UQ];rfl
theorem mj(h:Out r T X)(k:∀a Z,T a Z->T' a Z)(b:∀x,X x->X' x):Out r T' X':=by
 refine⟨?_⟩;have h:=h.out;cases r with
 |bad=>exact h
 |er x o=>exact b x h
 |ok a o=>exact k a o h
def Ku(b:Bd)(es:bb X1)(j:Nat):D:=match(b3 b es j)[j]? with
 |some r=>.tuple (es.map λe=>nd (fC (b3 b es (j+1)) (aG b r.s e).1))
 |none=>.none
def sA(b:Bd)(es:bb X1)(j:Nat):D:=match(b3 b es j)[j]? with
 |some r=>.tuple (es.map λe=>.tuple ((aG b r.s e).2.map jy))
 |none=>.none
def jx(b:Bd)(es:bb X1)(n:Nat):bb D:=(Ul n).map (Ku b es)
def bH(b:Bd)(es:bb X1)(n:Nat):bb D:=(Ul n).map (sA b es)
def vt(Z:bh)(m:Int)(b:Bd)(es:bb X1)(n:Nat)(J:bh):bh:=nt Z m ((b3 b es n).map fS) (.lst ((jx b es n).map .fz):: .lst ((bH b es n).map .fz)::J)
theorem sK:nt Z m fs (J++K)=nt Z m fs J++K:=by unfold nt;rw[UQ];rfl
theorem Dt:(nt Z m fs J).length=Z.length+3+J.length:=by unfold nt;rw[Uo];show Z.length+(J.length+1+1+1)=_;ext
theorem TY{n:Nat}{v:SV}(h:xs[n]?=lD v):nc xs (n:Int)=lD v:=yH (by ext) (by rw[VO];exact h)
abbrev W9(b:Bd)(m:Int)(es:bb X1)(l:Nat)(f e a:bg SV):bz:=[-(bD b),-(.int m),-(.list (es.map dS)),lD (.rf l),lD (.rf (l+3)),lD (.rf (l+4)),f,e,a]
theorem uw(A:VB b){n:Nat}(hn:b.n=n)(h5:n<=5)(S:0<=m)(R:m<=1000)(a:bh):Out (ic [.fz (bD b),.fz (.int m)] a) (λv Z'=>∃N J,(b3 b (bB n) N).length=N/\(N:Int)<=m/\v=.tp [.rf (a.length+2),.rf (a.length+4),.rf (a.length+5)]/\Z'=vt (a++[.dead]) m b (bB n) N J) (λx=>x=TM m/\∃i,m<((b3 b (bB n) i).length:Int)):=by
 have p:(bB n).length<=1000:=by unfold bB;rw[Uo,Uo,Ui,Ui,UA];show n+n+1<=_;ext
 have l:=yc hn;have ev:=PD hn h5;generalize bB n=es at p l ev;refine rA rfl ?_;unfold ut;have e1:jN (ae (fO ig 1 {aa 0})) [-(bD b),-(.int m),Uh,Uh,Uh,Uh,Uh,Uh,Uh] a=.ok (.fz (.list (es.map dS))) (a++[.dead]):=by refine iw (dh (dG (am (af rfl) aL) rfl rfl ev)) ?_;rw[gl aQ,dZ]
 refine dM e1 rfl ?_;have U:(a++[Cell.dead]).length=a.length+1:=by rw[Uo];rfl
 have r2:a.length+2=(a++[Cell.dead]).length+1:=by ext
 have r4:a.length+4=(a++[Cell.dead]).length+3:=by ext
 have r5:a.length+5=(a++[Cell.dead]).length+4:=by ext
 rw[r2,r4,r5];generalize a++[Cell.dead]=base;have Q:=CA (C:= "Places") (F:=dA) (fa:=aj (ae (pC (.tuple [(.tuple []),.none,.none]))) (aj (ae (aa 1)) aH)) (ρ:=[-(bD b),-(.int m),-(.list (es.map dS)),Uh,Uh,Uh,Uh,Uh,Uh]) (Z:=base) (ao (ah (d:=cM gc) (show _=Res.ok (PV.fz (.tuple [.tuple [],.none,.none]),_)from aO)) (ao (ah (af rfl)) aK)) rfl;rw[Ju (lS (ti b)) S R]at Q;refine x0 (.eq Q ?_);by_cases hm:m<=0
 .rw[av hm];exact⟨rfl,0,by show m<1;ext⟩
 rw[ax hm];refine Out.eq rfl ⟨?_⟩;show lA _ _ _ _;refine dM (ρ1:=[-(bD b),-(.int m),-(.list (es.map dS)),lD (.rf base.length),lD (.rf (base.length+3)),Uh,Uh,Uh,Uh]) ((dh (by fail "ev")).trans (by rw[Dt,<-sK];rfl)) rfl ?_;refine dM (ρ1:=W9 b m es base.length Uh Uh Uh) ((dh (by fail "ev")).trans (by rw[Dt,<-sK];rfl)) rfl ?_;refine kW (zN (λn ρ Z=>∃J j h g,ρ=W9 b m es base.length j h g/\Z=vt base m b es n J/\n<=(b3 b es n).length/\((b3 b es n).length:Int)<=m) 1000 (by decide) ⟨[],Uh,Uh,Uh,rfl,rfl,Vl _,by show(1:Int)<=m;ext⟩ ?_);rintro n ρ Z ⟨J,j,h,g,rfl,rfl,hle,hlm⟩;have K:=kE A l n;have lF:((b3 b es n).map fS).length<100000:=by rw[Ui];ext
 have P:PSt base.length (base.length+1) (base.length+2) m ((b3 b es n).map fS) (vt base m b es n J):=Cf lF;have g3:(vt base m b es n J)[base.length+3]?=lD (.lst ((jx b es n).map .fz)):=mY;have O:(jx b es n).length=n:=by unfold jx;rw[Ui,UA]
 have dl:(bH b es n).length=n:=by unfold bH;rw[Ui,UA]
 have y:∀{j h g:bg SV},kg db (aj (au 4) aH) (W9 b m es base.length j h g) (vt base m b es n J)=.ok (.fz (nd n)) (vt base m b es n J):=nJ (ao (a8 rfl) aK) (by unfold aC;rw[dC g3];rfl) ((eU _).trans (by rw[O]));have H:∀{j h g:bg SV},aZ "Places" "found" (au 3) (W9 b m es base.length j h g) (vt base m b es n J)=.ok (.rf (base.length+1)) (vt base m b es n J):=dW (a8 rfl) P.o wv;have L:kg db (aj (aZ "Places" "found" (au 3)) aH) (W9 b m es base.length j h g) (vt base m b es n J)=.ok (.fz (nd (b3 b es n).length)) (vt base m b es n J):=nJ (ao H aK) (by unfold aC;rw[dC P.f];rfl) ((eU _).trans (by rw[Ui,Ui]));have q:=bx (dj y L (cI (pV (n:Int) ((b3 b es n).length:Int))));by_cases Y:n<(b3 b es n).length
 case neg=>
  rw[aP (by ext)]at q;refine .inl ⟨_,q,?_⟩;have nN:(b3 b es n).length=n:=by ext
  refine yM (Gz (ao H (ao (a8 rfl) (ao (a8 rfl) aK))) (Uv rfl) rfl rfl) ⟨n,J,nN,by ext,rfl,rfl⟩
 case pos=>
  rw[aE (by ext)]at q;refine .inr ⟨by ext,_,q,?_⟩;obtain⟨r,w⟩:∃r,(b3 b es n)[n]?=lD r:=⟨_,Us Y⟩;have u:=K r (UL w);refine dM (x:=.fz (nd n)) (ρ1:=W9 b m es base.length (-(nd n)) h g) y rfl ?_;have st:fP (fP (aZ "Places" "found" (au 3)) (ae (aa 6))) (ae (~~~0)) (W9 b m es base.length (-(nd n)) h g) (vt base m b es n J)=.ok (.fz (cM r.s)) (vt base m b es n J):=ce (dx:=vO (fS r)) (qu H (ah (d:=nd n) (af rfl)) rfl P.f (TY (by rw[Uu,Uu,Uu,w];rfl))) (ah aO) jA;refine dM (x:=.fz (cM r.s)) (ρ1:=W9 b m es base.length (-(nd n)) (-(cM r.s)) g) st rfl ?_;obtain⟨M,ha⟩:=Bv A u l p (ρ:=W9 b m es base.length (-(nd n)) (-(cM r.s)) g) (Z:=vt base m b es n J) rfl rfl rfl;refine dM (x:=.fz (.list (es.map (jB b r.s)))) (ρ1:=W9 b m es base.length (-(nd n)) (-(cM r.s)) (-(.list (es.map (jB b r.s))))) ha rfl ?_;have eJ:vt base m b es n J++M=vt base m b es n (J++M):=by unfold vt;rw[<-sK];rfl
  rw[eJ];generalize J++M=J;have z:=Fj A u l p (ρ:=W9 b m es base.length (-(nd n)) (-(cM r.s)) (-(.list (es.map (jB b r.s))))) (Z:=base) (J:=.lst ((jx b es n).map .fz):: .lst ((bH b es n).map .fz)::J) (m:=m) (r:=n) (fs:=b3 b es n) S R hlm rfl rfl rfl rfl;rw[<-qB w]at z;have E:Ku b es n=.tuple (es.map λe=>nd (fC (b3 b es (n+1)) (aG b r.s e).1)):=by unfold Ku;rw[w]
  have G:sA b es n=.tuple (es.map λe=>.tuple ((aG b r.s e).2.map jy)):=by unfold sA;rw[w]
  have B:jx b es (n+1)=jx b es n++[Ku b es n]:=by unfold jx;rw[Xq,UI];rfl
  have I:bH b es (n+1)=bH b es n++[sA b es n]:=by unfold bH;rw[Xq,UI];rfl
  have z:=mj z (T':=λx Z'=>∃ds,sh Z' x=lD (.list ds)/\(∃ys,Z'[base.length+3]?=lD (.lst ys)/\ys.length<1000000/\lA (bS (kK (au 5) (ae (fM fF {eO 1 [] (gh (aa 8)) (gN 0) dc (fM fF {aR bA (aa 0) (~~~0)})}))) (W9 b m es base.length (-(nd n)) (-(cM r.s)) (-(.list (es.map (jB b r.s))))) (Z'.set (base.length+3) (.lst (ys++[.fz (.tuple ds)])))) (λρ Z=>∃J j h g,ρ=W9 b m es base.length j h g/\Z=vt base m b es (n+1) J/\n+1<=(b3 b es (n+1)).length/\((b3 b es (n+1)).length:Int)<=m) (λv Z'=>∃N J,(b3 b es N).length=N/\(N:Int)<=m/\v=.tp [.rf (base.length+1),.rf (base.length+3),.rf (base.length+4)]/\Z'=vt base m b es N J) (λx=>x=TM m/\∃i,m<((b3 b es i).length:Int)))) (X':=λx=>x=TM m/\∃i,m<((b3 b es i).length:Int)) ?_ (λx T=>⟨T.1,n+1,T.2⟩)
  .exact Kt (La (i:=base.length+3) (a8 rfl) (mY (t:=3)) (Me z))
  rintro x Z' ⟨rfl,rfl,hm'⟩;refine⟨es.map λe=>nd (fC (b3 b es (n+1)) (aG b r.s e).1),?_,(jx b es n).map .fz,mY (t:=3),by rw[Ui,O];ext,?_⟩
  .refine dC ?_;rw[sK];exact aQ
  .have w1:(nt base m ((b3 b es (n+1)).map fS) ((.lst ((jx b es n).map .fz):: .lst ((bH b es n).map .fz)::J)++[.lst ((es.map λe=>nd (fC (b3 b es (n+1)) (aG b r.s e).1)).map .fz)])).set (base.length+3) (.lst ((jx b es n).map SV.fz++[.fz (.tuple (es.map λe=>nd (fC (b3 b es (n+1)) (aG b r.s e).1)))]))=nt base m ((b3 b es (n+1)).map fS) (.lst ((jx b es (n+1)).map .fz):: .lst ((bH b es n).map .fz)::(J++[.lst ((es.map λe=>nd (fC (b3 b es (n+1)) (aG b r.s e).1)).map .fz)])):=by
    unfold nt;rw[tD,B,E,UI];rfl
   rw[w1];generalize J++[Cell.lst ((es.map λe=>nd (fC (b3 b es (n+1)) (aG b r.s e).1)).map .fz)]=J;have cm:lB (d9 (gN 0) dc (fM fF {aR bA (aa 0) (~~~0)}) (es.map (jB b r.s)) [Uh] [])=.ok (es.map λe=>.tuple ((aG b r.s e).2.map jy)):=iM (cp:=[]) (jB b r.s) (λe=>.tuple ((aG b r.s e).2.map jy)) es p rfl λe _=>by have i0:bA (jB b r.s e) (.int 0)=-(.list ((aG b r.s e).2.map jy)):=jA;exact dR (rv:=.fz (.tuple ((aG b r.s e).2.map jy))) (ds:=[.list ((aG b r.s e).2.map jy)]) (am (aN (rv:=.fz (.list ((aG b r.s e).2.map jy))) (af rfl) aO rfl rfl i0) aL) rfl rfl
   have X:(nt base m ((b3 b es (n+1)).map fS) (.lst ((jx b es (n+1)).map .fz):: .lst ((bH b es n).map .fz)::J))[base.length+4]?=lD (.lst ((bH b es n).map .fz)):=mY (t:=4);have ap:=uT (ρ:=W9 b m es base.length (-(nd n)) (-(cM r.s)) (-(.list (es.map (jB b r.s))))) (fo:=au 5) (fe:=ae (fM fF {eO 1 [] (gh (aa 8)) (gN 0) dc (fM fF {aR bA (aa 0) (~~~0)})})) (x:=.fz (sA b es n)) (a8 rfl) X (by rw[G];exact ah (dR (rv:=.fz (.tuple (es.map λe=>.tuple ((aG b r.s e).2.map jy)))) (ds:=[.list (es.map λe=>.tuple ((aG b r.s e).2.map jy))]) (am (eC (cs:=[]) (ds:=es.map (jB b r.s)) (gm (d:=.list (es.map (jB b r.s))) (af rfl) rfl rfl) rfl cm) aL) rfl rfl)) X (by rw[Ui,dl];ext);refine yo (iY ap) ⟨J,_,_,_,rfl,?_,QI Y,hm'⟩;unfold vt nt;rw[tD,I,UI];rfl
theorem wq(e:VB b){n:Nat}(hn:b.n=n)(j:n<=5)(g:0<=m)(f:m<=1000)(a:bh):Out (eP [.fz (bD b),.fz (.int m)] a) (λv Z'=>∃N i K,(b3 b (bB n) N).length=N/\(N:Int)<=m/\v=.rf (a.length+i)/\Z'=a++K/\K[i]?=lD (.lst ((((b3 b (bB n) N).map fS).map vO).map .fz))) (λx=>x=TM m/\∃i,m<((b3 b (bB n) i).length:Int)):=by refine rA rfl ?_;unfold xN;refine Eh ?_;have p:=yT (F:=ic) (es:=[]) (fa:=aj (ae (aa 0)) (aj (ae (aa 1)) aH)) (ρ:=[-(bD b),-(.int m)]) (Z:=a) (ao (ah (af rfl)) (ao (ah (af rfl)) aK)) rfl;refine Out.bind (.eq p ((uw e hn j g f a).imp λv Z' h=>?_));obtain⟨N,J,o,l,rfl,rfl⟩:=h;refine .eq (r':=RS.ok (SV.rf (a.length+2)) (vt (a++[.dead]) m b (bB n) N J)) ?_ ⟨N,2,_,o,l,rfl,(by unfold vt nt;rw[UQ]),rfl⟩;rw[ah aO,eh];rfl
def Cn(c:Nat->Nat):Nat->Nat
 |0=>0
 |l+1=>max (Cn c l) (c l+1)
def RG(c:Nat->Nat)(n:Nat):Prop:=∀i,i<n->c i<=Cn c i
section
variable{c f:Nat->Nat}{n:Nat}
theorem rh(l:Nat):Cn c (l+1)=max (Cn c l) (c l+1):=rfl
theorem yz(k:Nat):Cn c i<=Cn c (i+k):=by
 induction k with
 |zero=>exact Ux _
 |succ k a=>rw[<-VU,rh];ext
theorem JY(h:i<=j):Cn c i<=Cn c j:=by obtain⟨k,rfl⟩:=WY h;exact yz k
theorem jT(h:i<l):c i<Cn c l:=by have:=JY (c:=c) h;rw[rh]at this;ext
theorem EY(h:RG c n):∀l,l<=n->Cn c l<=l
 |0,_=>Ux _
 |l+1,hl=>by have b:=EY h l (by ext);have a:=h l (by ext);rw[rh];ext
theorem lY(h:RG c n):∀l,l<=n->k<Cn c l->∃i,i<l/\c i=k/\Cn c i=k
 |0,_,hk=>a5 hk (aeO _)
 |l+1,hl,hk=>by
  by_cases e:k<Cn c l
  .obtain⟨i,a,b⟩:=lY h l (by ext) e;exact⟨i,by ext,b⟩
  .have g:=h l (by ext);rw[rh]at hk;exact⟨l,by ext,by ext,by ext⟩
theorem Nj(p:RG c n)(a:RG f n)(o:∀i j,i<n->j<n->f i=f j->c i=c j)(hn:Cn f n<=Cn c n):∀i,i<n->f i=c i:=by
 have new:∀l,l<n->c l=Cn c l->f l=Cn f l:=λl g e=>by
  by_cases q:f l<Cn f l
  .obtain⟨j,h,b,_⟩:=lY a l (by ext) q;have:=o j l (by ext) g b;have:=jT (c:=c) h;ext
  .have:=a l g;ext
 have d:∀l k,l+k<=n->Cn f l+Cn c (l+k)<=Cn f (l+k)+Cn c l:=by
  intro l k
  induction k with
  |zero=>intro _;exact Ux _
  |succ k m=>
   intro A;have z:=m (by ext);rw[<-VU,rh,rh];have v:=p (l+k) (by ext);have r:=a (l+k) (by ext);by_cases q:c (l+k)=Cn c (l+k)
   .have:=new (l+k) (by ext) q;ext
   .omega
 have e:∀l,l<=n->Cn f l=Cn c l:=λl g=>by obtain⟨k,rfl⟩:=WY g;have u:=d 0 l (by ext);have B:=d l k (Ux _);rw[Vk]at u;have y:Cn f 0=0:=rfl;have w:Cn c 0=0:=rfl;ext
 intro i
 induction i using Nat.strongRecOn with
 |ind i m=>
  intro hi;have e0:=e i (by ext);have t:=e (i+1) (by ext);rw[rh,rh]at t;have v:=p i hi;have r:=a i hi;by_cases q:f i<Cn f i
  .obtain⟨j,h,b,_⟩:=lY a i (by ext) q;rw[<-b,m j h (by ext),o j i (by ext) hi b]
  .omega
def NN:Nat->bb Nat->Prop
 |_,[]=>True
 |m,s::r=>s<=m/\NN (max m (s+1)) r
def CG(m:Nat)(r:bb Nat):Nat:=r.foldl (λm s=>max m (s+1)) m
theorem Nr(m s:Nat)(r:bb Nat):CG m (s::r)=CG (max m (s+1)) r:=rfl
theorem zk:∀{m:Nat} (r:bb Nat),m<=CG m r/\∀s∈r,s<CG m r
 |m,[]=>⟨Ux _,λ_ h=>nomatch h⟩
 |m,s::r=>by
  obtain⟨e,b⟩:=zk (m:=max m (s+1)) r;rw[Nr];refine⟨by ext,λx a=>?_⟩;rcases U2.mp a with rfl|a
  .omega
  .exact b x a
end
def tX(fs:bb Pl)(d:D):bb Pl:=if(cK fs d).isSome=Um then fs else fs++[⟨d,.none,.none⟩]
def vE(fs:bb Pl)(d:D):Nat:=(cK fs d).getD fs.length
def gM(ds:bb D):bb Pl:=ds.foldl tX []
def yO(ds:bb D)(i:Nat):Nat:=vE (gM (ds.take i)) (ds[i]?.getD .none)
def Rk(ds:bb D):bb Nat:=(Ul ds.length).map (yO ds)
theorem oi:∀{fs:bb Pl} {d:D} {t:Nat},cK fs d=lD t->∃q,fs[t]?=lD q/\Up.eqv q.p d=Um
 |[],_,_,h=>by cases h
 |a::r,d,t,h=>by
  unfold cK at h;split at h
  .rename_i e;cases h;exact⟨a,rfl,e⟩
  .cases q:cK r d with
   |none=>rw[q]at h;cases h
   |some j=>rw[q]at h;cases h;obtain⟨x,f,b⟩:=oi q;exact⟨x,by simpa using f,b⟩
theorem rc(h:ds[i]?=lD d):gM (ds.take (i+1))=tX (gM (ds.take i)) d/\yO ds i=vE (gM (ds.take i)) d:=by
 refine⟨?_,?_⟩
 .unfold gM;rw[V0,h,aak];rfl
 .unfold yO;rw[h];rfl
theorem CQ(fs:bb Pl)(d:D):(tX fs d).length=max fs.length (vE fs d+1)/\vE fs d<=fs.length:=by
 unfold tX vE;cases q:cK fs d with
 |none=>rw[ax (by nofun),Uo];show fs.length+1=max fs.length (fs.length+1)/\fs.length<=fs.length;ext
 |some t=>obtain⟨x,a,_⟩:=oi q;have:=(Uk.mp a).1;rw[av (show(lD t).isSome=Um from rfl)];show fs.length=max fs.length (t+1)/\t<=fs.length;ext
theorem uD(ds:bb D):∀i,i<=ds.length->(gM (ds.take i)).length=Cn (yO ds) i
 |0,_=>by rw[Zh];rfl
 |i+1,h=>by have hi:=Us (show i<ds.length by ext);obtain⟨b,a⟩:=rc hi;rw[b,(CQ _ _).1,uD ds i (by ext),rh,a]
theorem Jm(ds:bb D):RG (yO ds) ds.length:=λi h=>by rw[<-uD ds i (by ext),(rc (Us h)).2];exact(CQ _ _).2
theorem Kf(fs:bb Pl)(d:D):fs<+:tX fs d:=by
 unfold tX;split
 .exact W6 _
 .exact adm _ _
theorem Hh(ds:bb D)(i k:Nat):gM (ds.take i)<+:gM (ds.take (i+k)):=by
 induction k with
 |zero=>exact W6 _
 |succ k a=>
  rw[<-VU];cases q:ds[i+k]? with
  |none=>have b:=List.getElem?_eq_none_iff.mp q;rw[show ds.take (i+k+1)=ds.take (i+k) by rw[YR (by ext),YR b]];exact a
  |some d=>rw[(rc q).1];exact a.trans (Kf _ _)
theorem sJ(h:fs<+:gs)(q:cK fs p=lD t):cK gs p=lD t:=by obtain⟨l,rfl⟩:=h;exact tj q
theorem Hm(h:LD.keyD d=Um):cK (tX fs d) d=lD (vE fs d):=by
 unfold tX vE;cases q:cK fs d with
 |none=>rw[ax (by nofun)];exact tR q (sF h)
 |some t=>rw[av (show(lD t).isSome=Um from rfl),q];rfl
theorem wu(Z:bh)(a:A):RS.Vm Z (lD a)=.ok a Z:=rfl
theorem Ho(a:∀d∈ds,LD.keyD d=Um)(h:ds[i]?=lD d)(k:Nat):cK (gM (ds.take (i+1+k))) d=lD (yO ds i):=by obtain⟨e,b⟩:=rc h;refine sJ (Hh ds (i+1) k) ?_;rw[e,b];exact Hm (a d (UL h))
theorem uA(h:LD.keyD d=Um):LD.kd d=Um:=by
 cases d with
 |tuple xs=>unfold LD.keyD at h;rw[UW]at h;exact h.1
 |_=>simp[LD.keyD]at h
theorem yF{ds:bb D}(a:∀d∈ds,LD.keyD d=Um):∀i,i<=ds.length->∀q∈gM (ds.take i),LD.keyD q.p=Um
 |0,_,q,hq=>by rw[Zh]at hq;cases hq
 |i+1,h,q,hq=>by
  have hi:=Us (show i<ds.length by ext);rw[(rc hi).1]at hq;unfold tX at hq;split at hq
  .exact yF a i (by ext) q hq
  .rcases Vp.mp hq with hq|hq
   .exact yF a i (by ext) q hq
   .rw[UR.mp hq];exact a _ (W5 _)
theorem NJ(a:∀d∈ds,LD.keyD d=Um)(hi:ds[i]?=lD d)(m:ds[j]?=lD e):yO ds i=yO ds j↔d=e:=by
 have t:=(Uk.mp hi).1;have r:=(Uk.mp m).1;obtain⟨k,v⟩:=WY (show i+1<=ds.length from t);obtain⟨l,u⟩:=WY (show j+1<=ds.length from r);have f:=Ho a hi k;have b:=Ho a m l;rw[v]at f;rw[u]at b;constructor
 .intro z;rw[z]at f;obtain⟨q,p,y⟩:=oi f;obtain⟨A,o,w⟩:=oi b;rw[p]at o;cases o;have n:=uA (yF a _ (Ux _) q (UL p));have h:=uA (a d (UL hi));have g:=uA (a e (UL m));rw[<-LD.kd_eqv _ _ n h y,<-LD.kd_eqv _ _ n g w]
 .rintro rfl;rw[f]at b;exact UH b
theorem xP(h:LD.keyD d=Um):lV (.fz d)=lD d:=by
 cases d with
 |tuple xs=>unfold lV;dsimp only;rw[av h]
 |_=>simp[LD.keyD]at h
theorem rL(v:frz 4 (Z++[.dd []]) x=lD (.list ds,Z1++[.dd []]))(j:Z1.length=Z.length)(u:∀d∈ds,LD.keyD d=Um)(hn:ds.length<=1000):
  ez [x] Z=.ok (.rf (Z.length+1)) (Z1++[.dd (eN 0 (gM ds)),.lst ((Rk ds).map λc=>.fz (nd c))]):=by
 have p:fZ (au 0) [lD x,lD (.rf Z.length)] (Z++[.dd []])=.ok ds (Z1++[.dd []]):=by unfold fZ;rw[a8 rfl,eh,v];rfl
 have h:Out (cx (cV 0) cR (Aa (au 1) (ae (aa 0)) (qX (au 1))) ds [Uh,lD (.rf Z.length)] (Z1++[.dd []]) []) (λxs f=>∃a:bz,(∃o,a=[o,lD (.rf Z.length)])/\f=Z1++[.dd (eN 0 (gM (ds.take (0+ds.length))))]/\xs=((Ul (0+ds.length)).map (yO ds)).map λc=>.fz (nd c)) λ_=>False:=by
  refine i4 (λk ρ f b=>(∃o,ρ=[o,lD (.rf Z.length)])/\f=Z1++[.dd (eN 0 (gM (ds.take k)))]/\b=((Ul k).map (yO ds)).map λc=>.fz (nd c)) ds 0 _ _ _ ⟨⟨Uh,rfl⟩,rfl,rfl⟩ ?_;rintro i d ρ f b hi ⟨⟨o,rfl⟩,rfl,rfl⟩;rw[Vk];have A:=(Uk.mp hi).1;refine⟨by rw[Ui,Ui,UA];ext,[-(d),lD (.rf Z.length)],rfl,rfl,?_⟩;have kd:=u d (UL hi);obtain⟨y,w⟩:=rc hi;have m:=uD ds i (by ext);have B:=EY (Jm ds) i (by ext);rw[y];have l:((Ul (i+1)).map (yO ds)).map (λc=>SV.fz (nd c))=((Ul i).map (yO ds)).map (λc=>SV.fz (nd c))++[.fz (nd (vE (gM (ds.take i)) d))]:=by rw[Xq,UI,UI,adn,adn,w]
  rw[l];generalize gM (ds.take i)=fs at m⊢;have g:(Z1++[Cell.dd (eN 0 fs)])[Z.length]?=lD (.dd (eN 0 fs)):=by rw[<-j];exact aQ
  have n:qX (au 1) [-(d),lD (.rf Z.length)] (Z1++[Cell.dd (eN 0 fs)])=.ok (.fz (nd fs.length)) (Z1++[Cell.dd (eN 0 fs)]):=by unfold qX;rw[a8 rfl,eh,vW g];show RS.ok (SV.fz (.int (eN 0 fs).length)) _=_;rw[sM]
  have r:(eN 0 fs).length<1000000:=by rw[sM];ext
  have ev:Aa (au 1) (ae (aa 0)) (qX (au 1)) [-(d),lD (.rf Z.length)] (Z1++[Cell.dd (eN 0 fs)])=.ok (.fz (nd (vE fs d))) (Z1++[Cell.dd (eN 0 (tX fs d))]):=by
   unfold Aa;rw[a8 rfl,eh,vW g,wu,eh,ah (af rfl),eh,n,eh,xP kd,wu,eh,show Re (.fz (nd fs.length))=lD (nd fs.length)from rfl,wu,eh,vW g,wu,eh];rw[av r,mf];unfold vE tX;cases q:cK fs d with
   |some t=>rw[av (show(lD t).isSome=Um from rfl)];show RS.ok (SV.fz (nd (0+t))) _=_;rw[Vk];rfl
   |none=>rw[ax (by nofun)];rw[Dn q,<-j,dZ];rfl
  exact .eq ev ⟨⟨_,rfl⟩,rfl,rfl⟩
 obtain⟨xs,f,e,a,_,rfl,rfl⟩:=h.all;rw[Vk,XU]at e;refine jt rfl ?_;unfold oy;rw[cX (mq rfl rfl)];refine(iy (iW p e)).trans ?_;rw[UQ,Uo,j];rfl
def Fu(St:Nat->bb Nat)(r:Nat):D:=.tuple ((St r).map nd)
def ue(c:Nat->Nat)(St:Nat->bb Nat)(r:Nat):D:=.tuple [nd (c r),.tuple ((St r).map λs=>nd (c s))]
abbrev yR(St:Nat->bb Nat)(N:Nat)(a:D)(q:Nat):bb (Str×SV):=[("steps",.fz (.list ((Ul N).map (Fu St)))),("sends",.fz a),("rounds",.rf q)]
def vp(c:Nat->Nat)(N:Nat):Cell:=.lst ((Ul N).map λi=>SV.fz (nd (c i)))
section
variable{N:Nat}{St:Nat->bb Nat}{c:Nat->Nat}{Z:bh}{o q t r:Nat}{rs:bb SV}{sd:D}
theorem dw(h:r<N):((Ul N).map f)[r]?=lD (f r):=by rw[Uu,acZ h];rfl
theorem DK(a:Z[t]?=lD (vp c N))(h:r<N)(ha:fa ρ Z=.ok (.rf t) Z)(b:fb ρ Z=.ok (.fz (nd r)) Z):fP fa fb ρ Z=.ok (.fz (nd (c r))) Z:=
 qu ha b rfl a (Be (dw h))
theorem Lx(f:Z[o]?=lD (.obj "Sorting" (yR St N sd q)))(i:Z[q]?=lD (.lst (rs++[.rf t])))(b:Z[t]?=lD (vp c N))(e:r<N)(h:∀s∈St r,s<N)(l:(St r).length<=1000):
  ∃C,bJ [.rf o,.fz (nd r)] Z=.ok (.fz (ue c St r)) (Z++[C]):=by
 refine⟨.lst (((St r).map λs=>nd (c s)).map .fz),jt rfl ?_⟩;have e0:fP (aZ "Sorting" "rounds" (au 0)) (ae (DM ra (~~~1))) [lD (.rf o),-(nd r),Uh] Z=.ok (.rf t) Z:=qu (dW (a8 rfl) f rfl) (ah (zU (rv:=.fz (.int (-1))) aO rfl rfl)) rfl i (pw _ _);refine cX (mq e0 rfl) ?_;have g:fZ (fP (aZ "Sorting" "steps" (au 0)) (ae (aa 1))) [lD (.rf o),-(nd r),lD (.rf t)] Z=.ok ((St r).map nd) Z:=by unfold fZ;rw[ce (dW (a8 rfl) f rfl) (ah (af rfl)) (vq (dw e)),eh];rfl
 have cm:cx (cV 0) cR (fP (au 1) (ae (aa 0))) ((St r).map nd) [Uh,lD (.rf t)] Z []=.ok ([]++(St r).map λs=>SV.fz (nd (c s))) Z:=by refine ja nd (λs=>SV.fz (nd (c s))) Z (λρ=>∃o,ρ=[o,lD (.rf t)]) (St r) _ [] ⟨_,rfl⟩ (by show 0+_<=_;ext) ?_;rintro s a ρ ⟨x,rfl⟩;exact⟨[-(nd s),lD (.rf t)],rfl,rfl,DK b (h s a) (a8 rfl) (ah (af rfl)),_,rfl⟩
 rw[Xp]at cm;have j:=iW (n:=1) (fj:=[2]) g cm;refine iy (qN (ao (DK b e (a8 rfl) (ah (af rfl))) (ao (nJ (ds:=[.list ((St r).map λs=>nd (c s))]) (ao (by rw[UZ];exact j) aK) ?_ rfl) aK)) (by show 2<=1000;ext));have:sh (Z++[.lst (((St r).map λs=>nd (c s)).map .fz)]) (.rf Z.length)=lD (.list ((St r).map λs=>nd (c s))):=dC aQ;unfold aC;rw[this];rfl
theorem mV(h:N<=1000):gJ [nd N]=lD ((Ul N).map nd):=by show(if kO (N:Int)then lD (L3.gq 0 (N:Int).toNat)else Uh)=_;rw[av ⟨by ext,by ext⟩,VO];congr 1;refine Wy λk _=>?_;rw[ags]
theorem Gs(p:Z[o]?=lD (.obj "Sorting" (yR St N sd q)))(y:Z[q]?=lD (.lst (rs++[.rf t])))(w:Z[t]?=lD (vp c N))(u:∀r,r<N->(St r).length<=1000/\∀s∈St r,s<N)(z:N<=1000)(f:ρ[0]?=lD (lD (.rf o))):
  ∃K,eZ 1 [0] (lX (kg db (aj (aZ "Sorting" "steps" (au 0)) aH))) (cV 0) cR (a9 "Sorting" "mark_of" bJ 2 (au 1) (aj (ae (aa 0)) aH)) ρ Z=.ok (.rf (Z++K).length) (Z++K++[.lst (((Ul N).map (ue c St)).map .fz)]):=by
 have v:lX (kg db (aj (aZ "Sorting" "steps" (au 0)) aH)) ρ Z=.ok ((Ul N).map nd) Z:=by unfold lX;rw[nJ (ao (dW (a8 f) p rfl) aK) rfl (by show lD (RV.fz (.int ((Ul N).map (Fu St)).length))=_;rw[Ui,UA]),eh,show Re (.fz (nd N))=lD (nd N)from rfl,wu,eh,mV z,wu]
 have n:Out (cx (cV 0) cR (a9 "Sorting" "mark_of" bJ 2 (au 1) (aj (ae (aa 0)) aH)) ((Ul N).map nd) [Uh,lD (.rf o)] Z []) (λxs l=>∃a:bz,(∃x,a=[x,lD (.rf o)])/\(∃K,l=Z++K)/\xs=((Ul (0+((Ul N).map nd).length)).map (ue c St)).map .fz) λ_=>False:=by
  refine i4 (λk ρ l g=>(∃x,ρ=[x,lD (.rf o)])/\(∃K,l=Z++K)/\g=((Ul k).map (ue c St)).map .fz) _ 0 _ _ _ ⟨⟨Uh,rfl⟩,⟨[],by rw[UT]⟩,rfl⟩ ?_;rintro i d ρ l g hi ⟨⟨x,rfl⟩,⟨K,rfl⟩,rfl⟩;rw[Vk];have b:=(Uk.mp hi).1;rw[Ui,UA]at b;rw[dw b]at hi;cases hi;have m:∀{j:Nat} {C:Cell},Z[j]?=lD C->(Z++K)[j]?=lD C:=λ{j C} h=>by rw[Uy (Uk.mp h).1];exact h
  obtain⟨C,e⟩:=Lx (m p) (m y) (m w) b (u i b).2 (u i b).1;refine⟨by rw[Ui,Ui,UA];ext,[-(nd i),lD (.rf o)],rfl,rfl,?_⟩;refine .eq (CV (a8 rfl) (m p) rfl (ao (ah (af rfl)) aK) rfl e) ⟨⟨_,rfl⟩,⟨K++[C],by rw[UQ]⟩,?_⟩;rw[Xq,UI,UI];rfl
 obtain⟨xs,l,e,a,_,⟨K,rfl⟩,rfl⟩:=n.all;rw[Vk,Ui,UA]at e;refine⟨K,iW v ?_⟩;have:fy 1 [0] ρ=[Uh,lD (.rf o)]:=by unfold fy;show[Uh]++[(ρ[0]?).join]=_;rw[f];rfl
 rw[this];exact e
end
theorem IP(c:Nat->Nat)(St:Nat->bb Nat)(r:Nat):LD.keyD (ue c St r)=Um:=by
 have e:(St r).map (λs=>nd (c s))=bQ ((St r).map c):=by unfold bQ;rw[UZ];rfl
 unfold ue;rw[e,LD.keyD];simp only[LD.kd,LD.kds];rw[DT];refine(UW _ _).mpr ⟨rfl,aE ?_⟩;show max 0 (max (Up.depthAll (bQ ((St r).map c))+1) 0)+1<=8;rw[mS];ext
theorem Cp(h:nd a=nd b):a=b:=by
 have:(a:Int)=b:=by injection h
 ext
theorem BI{xs a:bb Nat}(h:xs.map (λs=>nd (c s))=a.map λs=>nd (c s)):xs.map c=a.map c:=by
 have e:∀l:bb Nat,l.map (λs=>nd (c s))=(l.map c).map nd:=λl=>by rw[UZ];rfl
 rw[e,e]at h;exact Z9 (λ_ _=>Cp)|>.mp h
section
variable{N:Nat}{St:Nat->bb Nat}{c f:Nat->Nat}{Z:bh}{o q t:Nat}{Y:bb SV}{sd:D}{ρ:bz}{fa:dI}
theorem oZ:vp c N=.lst (((Ul N).map λi=>nd (c i)).map .fz):=by unfold vp;rw[UZ];rfl
theorem Ow(n:0<N)(h:RG c N)(g:Z[t]?=lD (vp c N))(ha:fa ρ Z=.ok (.rf t) Z):kg jp (aj fa aH) ρ Z=.ok (.fz (.int ((Cn c N:Int) - 1))) Z:=by
 have e:(Ul N).map (λi=>nd (c i))=((Ul N).map λi=>((c i:Nat):Int)).map Up.int:=by rw[UZ];rfl
 have a:0<((Ul N).map λi=>((c i:Nat):Int)).length:=by rw[Ui,UA];exact n
 have hm:Fb ((Ul N).map λi=>((c i:Nat):Int))=(Cn c N:Int) - 1:=by obtain⟨m,l⟩:=xk a;obtain⟨i,hi,r⟩:=Vc.mp m;have:=jT (c:=c) (Vr.mp hi);obtain⟨j,b,p,_⟩:=lY h (k:=Cn c N - 1) N (Ux _) (by ext);have:=l (c j:Nat) (Vc.mpr ⟨j,Vr.mpr b,rfl⟩);ext
 refine nJ (ds:=[.list ((Ul N).map λi=>nd (c i))]) (ao ha aK) ?_ ?_
 .unfold aC;rw[dC (by rw[g,oZ])];rfl
 .unfold jp;dsimp only;rw[e,L3.jw];dsimp only;rw[av a,hm]
def Rf(q N:Nat)(Z:bh)(x:SV):Prop:=∃t c,x=.rf t/\q<t/\Z[t]?=lD (vp c N)
theorem IZ:∀{Y:bb SV},(∀x∈Y,Rf q N Z x)->∃ds,aC (mZ 5 Z) Y=lD ds/\ds.length=Y.length/\Up.canLayAll0 ds=Um/\Up.depthAll ds<=1
 |[],_=>⟨[],rfl,rfl,rfl,Vl _⟩
 |x::r,h=>by
  obtain⟨ds,p,n,m,u⟩:=IZ λy g=>h y (UC _ g);obtain⟨t,c,rfl,_,j⟩:=h x UE;have e:mZ 5 Z (.rf t)=lD (.list (bQ ((Ul N).map c))):=by
   unfold mZ;rw[j,oZ];show(aC (mZ 4 Z) (((Ul N).map λi=>nd (c i)).map .fz)).map Up.list=_;have:∀l:bb D,aC (mZ 4 Z) (l.map .fz)=lD l:=λl=>by
    induction l with
    |nil=>rfl
    |cons a l b=>rw[UJ];unfold aC;rw[show mZ 4 Z (.fz a)=lD a from rfl,b]
   rw[this];unfold bQ;rw[UZ];rfl
  refine⟨.list (bQ ((Ul N).map c))::ds,?_,by rw[UD,UD,n],?_,?_⟩
  .unfold aC;rw[e,p]
  .unfold Up.canLayAll0;rw[m,show Up.canLay0 (.list (bQ ((Ul N).map c)))=Um by unfold Up.canLay0;exact mQ _];rfl
  .show max (Up.depthAll (bQ ((Ul N).map c))+1) (Up.depthAll ds)<=1;rw[mS];ext
theorem GA(g:ρ[0]?=lD (lD (.rf o)))(p:Z[o]?=lD (.obj "Sorting" (yR St N sd q)))(i:Z[q]?=lD (.lst Y))(l:∀x∈Y,Rf q N Z x):
  bK (lC d6 (aZ "Sorting" "rounds" (au 0)) (ae (cY az))) ρ Z=.ok Y.isEmpty (Z++[.lst []]):=by
 have e:∀{j:Nat} {C:Cell},Z[j]?=lD C->(Z++[Cell.lst []])[j]?=lD C:=λ{j C} h=>by rw[Uy (Uk.mp h).1];exact h
 refine bx (dj (dW (a8 g) p rfl) (dh (by fail "ev")) ?_);show r9 d6 (.rf q) (.rf Z.length) (Z++[Cell.lst []])=_;cases Y with
 |nil=>exact uv (dC (ds:=[]) (e i)) (dC (ds:=[]) aQ) rfl
 |cons x r=>
  obtain⟨ds,v,m,u,w⟩:=IZ λy n=>let⟨t,c,a,b,d⟩:=l y n;⟨t,c,a,b,e d⟩
  obtain⟨t,c,rfl,_,_⟩:=l x UE;refine QL (dx:=.list ds) (dy:=.list []) (.inl ?_) ?_ ?_ ?_ rfl
  .unfold sh;dsimp only;rw[e i];rfl
  .unfold mZ;rw[e i];dsimp only;rw[v];rfl
  .unfold mZ;rw[aQ];rfl
  .cases ds with
   |nil=>rw[UD]at m;cases m
   |cons d ds=>
    unfold d6;rw[av]
    .rfl
    .rw[JV (by unfold Up.canLay0;exact u) (by show Up.depthAll (d::ds)+1<=64;ext)];rfl
def sq(E:bb D)(St:Nat->bb Nat)(N:Nat):Nat->Nat->Nat
 |0=>yO E
 |k+1=>yO ((Ul N).map (ue (sq E St N k) St))
theorem De:((Ul N).map (ue c St)).length=N:=by rw[Ui,UA]
theorem wa(a:E.length=N):∀k,RG (sq E St N k) N
 |0=>by rw[<-a];exact Jm E
 |k+1=>by have:=Jm ((Ul N).map (ue (sq E St N k) St));rw[De]at this;exact this
theorem Cc(hi:i<N)(a:j<N):yO ((Ul N).map (ue c St)) i=yO ((Ul N).map (ue c St)) j↔ue c St i=ue c St j:=
 NJ (λd b=>by obtain⟨i,_,rfl⟩:=Vc.mp b;exact IP _ _ _) (dw hi) (dw a)
theorem F1(b:E.length=N)(h:Cn (sq E St N (k+1)) N<=Cn (sq E St N k) N)(hi:i<N)(a:j<N)(e:sq E St N k i=sq E St N k j):(St i).map (sq E St N k)=(St j).map (sq E St N k):=by
 have g:=Nj (wa b k) (wa b (k+1)) (λi j hi a z=>by
  have:=(Cc hi a).mp z;injection this with h
  injection h with h1 _
  exact Cp h1) h
 have:=(Cc hi a).mp ((g i hi).trans (e.trans (g j a).symm));injection this with h
 injection h with _ h2
 injection h2 with h3 _
 injection h3 with h4
 exact BI h4
def LI(o q N:Nat)(St:Nat->bb Nat)(E:bb D)(e b a:bg SV)(n:Nat)(ρ:bz)(Z:bh):Prop:=∃Y t,ρ=[lD (.rf o),e,b,a,lD (.rf t)]/\Z[o]?=lD (.obj "Sorting" (yR St N (.list E) q))/\Z[q]?=lD (.lst Y)/\q<t/\Z[t]?=lD (vp (sq E St N n) N)/\(∀x∈Y,Rf q N Z x)/\Y.length=n/\(∀j,j+1<n->Cn (sq E St N j) N<Cn (sq E St N (j+1)) N)/\(n=0/\Y=[]\/∃k rs' t',n=k+1/\Y=rs'++[.rf t']/\Z[t']?=lD (vp (sq E St N k) N)/\k+1<=Cn (sq E St N k) N)
def SE(o q N:Nat)(St:Nat->bb Nat)(E:bb D)(Z:bh):Prop:=∃Y t k,Z[o]?=lD (.obj "Sorting" (yR St N (.list E) q))/\Z[q]?=lD (.lst (Y++[.rf t]))/\Z[t]?=lD (vp (sq E St N k) N)/\Cn (sq E St N (k+1)) N<=Cn (sq E St N k) N/\∀j,j<k->Cn (sq E St N j) N<Cn (sq E St N (j+1)) N
theorem Gf(hN:∀ρ Z',SE o q N St E Z'->Nn ρ Z')(hE:E.length=N)(Q:0<N)(h9:N<=1000)(hs:∀r,r<N->(St r).length<=1000/\∀s∈St r,s<N)(hi:LI o q N St E x1 x2 x3 0 ρ Z):
  lA (rd (Bb (bK (lC d6 (aZ "Sorting" "rounds" (au 0)) (ae (cY az)))) (bK (lC MY (kg jp (aj (au 4) aH)) (kg jp (aj (fP (aZ "Sorting" "rounds" (au 0)) (ae (DM ra (~~~1)))) aH))))) (aM (bS (kK (aZ "Sorting" "rounds" (au 0)) (au 4)))
 (cA (nG ez 1 (aj (eZ 1 [0] (lX (kg db (aj (aZ "Sorting" "steps" (au 0)) aH))) (cV 0) cR (a9 "Sorting" "mark_of" bJ 2 (au 1) (aj (ae (aa 0)) aH))) aH)) (cV 4))) ρ Z) Nn T X:=by
 refine zN (LI o q N St E x1 x2 x3) 2000 (by decide) hi ?_;rintro n ρ Z ⟨Y,t,rfl,ho,hq,qt,ht,I,hrl,hup,P⟩;have O:=wa (St:=St) hE n;have YM:sq E St N (n+1)=yO ((Ul N).map (ue (sq E St N n) St)):=rfl;generalize hfn:sq E St N n=f at ht O YM;have l:∀{j:Nat} {C:Cell},Z[j]?=lD C->(Z++[Cell.lst []])[j]?=lD C:=λ{j C} h=>by rw[Uy (Uk.mp h).1];exact h
 have R:=GA (ρ:=[lD (.rf o),x1,x2,x3,lD (.rf t)]) rfl ho hq I;have fp:1<=Cn f N:=by have:=jT (c:=f) Q;ext
 have fN:=EY O N (Ux _)
 have u:n+1<=Cn f N->(∀j,j+1<n+1->Cn (sq E St N j) N<Cn (sq E St N (j+1)) N)->lA (aM (bS (kK (aZ "Sorting" "rounds" (au 0)) (au 4)))
   (cA (nG ez 1 (aj (eZ 1 [0] (lX (kg db (aj (aZ "Sorting" "steps" (au 0)) aH))) (cV 0) cR (a9 "Sorting" "mark_of" bJ 2 (au 1) (aj (ae (aa 0)) aH))) aH)) (cV 4)) [lD (.rf o),x1,x2,x3,lD (.rf t)] (Z++[.lst []])) (LI o q N St E x1 x2 x3 (n+1)) T X:=λM S=>by
  replace ho:=l ho;replace hq:=l hq;replace ht:=l ht;have I:∀x∈Y,Rf q N (Z++[.lst []]) x:=λy hy=>let⟨t,c,a,b,d⟩:=I y hy;⟨t,c,a,b,l d⟩
  generalize Z++[Cell.lst []]=Z at ho hq ht I;have U:=(Uk.mp hq).1;have oq:q≠o:=λz=>by rw[z,ho]at hq;cases hq
  have rl:Y.length<1000000:=by ext
  refine tT (iY (uT (dW (a8 rfl) ho rfl) hq (a8 rfl) hq rl)) ?_;have ne:∀{j:Nat} {C C':Cell},q≠j->Z[j]?=lD C->(Z.set q C')[j]?=lD C:=λh e=>by rw[Vo h];exact e
  have B:=ne (C':=.lst (Y++[.rf t])) oq ho;have A:(Z.set q (.lst (Y++[.rf t])))[q]?=lD (.lst (Y++[.rf t])):=Vt U;have p:=ne (C':=.lst (Y++[.rf t])) (UX qt) ht;have H:∀x∈Y++[.rf t],Rf q N (Z.set q (.lst (Y++[.rf t]))) x:=λx w=>by
   rcases Vp.mp w with w|w
   .obtain⟨F,c,a,b,d⟩:=I x w;exact⟨F,c,a,b,ne (UX b) d⟩
   .rw[UR.mp w];exact⟨t,f,rfl,qt,p⟩
  have L:q<(Z.set q (.lst (Y++[.rf t]))).length:=by rw[VG];exact U
  generalize Z.set q (.lst (Y++[.rf t]))=Z1 at B A p H L;obtain⟨K,cm⟩:=Gs (ρ:=[lD (.rf o),x1,x2,x3,lD (.rf t)]) B A p hs h9 rfl;have ml:((Ul N).map (ue f St)).length=N:=De;have nb:=rL (by
   have g:(Z1++K++[Cell.lst (((Ul N).map (ue f St)).map .fz)]++[Cell.dd []])[(Z1++K).length]?=lD (.lst (((Ul N).map (ue f St)).map .fz)):=by rw[Uy (by rw[Uo (bs:=[_])];show _<_+1;ext)];exact aQ
   rw[gl g,List.set_append_left _ _ (by rw[Uo (bs:=[_])];show _<_+1;ext),dZ]) (by rw[Uo,Uo (bs:=[_])];rfl) (λd hd=>by obtain⟨i,_,rfl⟩:=Vc.mp hd;exact IP _ _ _) (by rw[ml];exact h9)
  generalize hZ2:Z1++K++[Cell.lst (((Ul N).map (ue f St)).map .fz)]=Z2 at cm nb;have l2:Z2.length=(Z1++K++[Cell.dead]).length:=by rw[<-hZ2,Uo (bs:=[_]),Uo (bs:=[_])];rfl
  refine yo (mq (tt (ao cm aK) rfl nb) rfl) ?_;have m:∀{j:Nat} {C:Cell},Z1[j]?=lD C->(Z1++K++[Cell.dead]++[Cell.dd (eN 0 (gM ((Ul N).map (ue f St)))),.lst ((Rk ((Ul N).map (ue f St))).map λc=>.fz (nd c))])[j]?=lD C:=λ{j C} h=>by rw[UQ,UQ,Uy (Uk.mp h).1];exact h
  have cl:(Z1++K++[Cell.dead]++[Cell.dd (eN 0 (gM ((Ul N).map (ue f St)))),.lst ((Rk ((Ul N).map (ue f St))).map λc=>.fz (nd c))])[Z2.length+1]?=lD (vp (yO ((Ul N).map (ue f St))) N):=by rw[l2,mY (t:=1)];show lD (Cell.lst _)=_;unfold vp Rk;rw[ml,UZ];rfl
  rw[<-YM]at cl;refine⟨Y++[.rf t],_,rfl,m B,m A,?_,cl,λx w=>?_,by rw[Uo,hrl];rfl,S,.inr ⟨n,Y,t,rfl,rfl,by rw[hfn];exact m p,by rw[hfn];exact M⟩⟩
  .rw[l2,Uo,Uo];ext
  .obtain⟨F,c,a,b,d⟩:=H x w;exact⟨F,c,a,b,m d⟩
 rcases P with⟨rfl,rfl⟩|⟨k,v,F,rfl,rfl,G,hnc⟩
 .exact .inr ⟨by decide,_,oW R,u fp λj hj=>by ext⟩
 .have ie:(v++[SV.rf F]).isEmpty=Uw:=by cases v<;>rfl
  have P:=wa (St:=St) hE k;rw[ie]at R;have m1:=Ow (fa:=au 4) (ρ:=[lD (.rf o),x1,x2,x3,lD (.rf t)]) Q O (l ht) (a8 rfl);have m2:=Ow (fa:=fP (aZ "Sorting" "rounds" (au 0)) (ae (DM ra (~~~1)))) (ρ:=[lD (.rf o),x1,x2,x3,lD (.rf t)]) Q P (l G) (qu (n:= -1) (dW (a8 rfl) (l ho) rfl) (ah (d:=.int (-1)) (zU (rv:=.fz (.int (-1))) aO rfl rfl)) rfl (l hq) (pw _ _));have J:=jZ R (bx (dj m1 m2 (cI (Dj _ _))));by_cases g:Cn (sq E St N k) N<Cn f N
  .rw[aE (by ext)]at J
   refine .inr ⟨by ext,_,J,u (by ext) λj hj=>?_⟩;by_cases e:j=k
   .subst e;rw[hfn];exact g
   .exact hup j (by ext)
  .rw[aP (by ext)]at J;exact .inl ⟨_,J,hN _ _ ⟨v,F,k,l ho,l hq,l G,by rw[hfn];ext,λj hj=>hup j (by ext)⟩⟩
end
def iV(b:Bd)(es:bb X1)(a:Nat):bb Nat:=match(b3 b es a)[a]? with
 |some r=>es.map λe=>fC (b3 b es (a+1)) (aG b r.s e).1
 |none=>[]
theorem Iu(fs:bb Rm)(s:WI)(x y:D):(md fs s x y).length=max fs.length (fC fs s+1)/\fC fs s<=fs.length:=by
 unfold md fC;cases q:cK (fs.map fS) (cM s)with
 |none=>rw[ax (by nofun),Uo];show fs.length+1=max fs.length (fs.length+1)/\fs.length<=fs.length;ext
 |some t=>obtain⟨z,a,_⟩:=oi q;have:=(Uk.mp a).1;rw[Ui]at this;rw[av (show(lD t).isSome=Um from rfl)];show fs.length=max fs.length (t+1)/\t<=fs.length;ext
theorem zK(a:VB b)(h:SW b s):∀(es:bb X1) (fs G:bb Rm),(∀e∈es,EV b e)->gj b s r fs es=G->NN fs.length (es.map λe=>fC G (aG b s e).1)/\CG fs.length (es.map λe=>fC G (aG b s e).1)=G.length
 |[],fs,G,_,e=>by cases e;exact⟨True.intro,rfl⟩
 |e::es,fs,G,he,eG=>by have i:=iL a h (he e UE);obtain⟨g,f⟩:=zK a h es (md fs (aG b s e).1 (nd r) (dS e)) G (λx m=>he x (UC _ m)) eG;have n:fC G (aG b s e).1=fC fs (aG b s e).1:=Ef (by rw[<-eG];exact sS es _) (sO i _ _);obtain⟨l,j⟩:=Iu fs (aG b s e).1 (nd r) (dS e);rw[l]at g f;rw[UJ,n];exact⟨⟨j,g⟩,f⟩
theorem mw(g:VB b)(i:∀e∈es,EV b e)(j:(b3 b es N).length=N)(ha:a<N):a<(b3 b es a).length/\(b3 b es (a+1)).length<=N/\NN (b3 b es a).length (iV b es a)/\CG (b3 b es a).length (iV b es a)=(b3 b es (a+1)).length:=by
 have lt:a<(b3 b es a).length:=by
  rcases agx a (b3 b es a).length with h|h
  .exact h
  .have:=oH h N;ext
 have le:=oH (W7 j) (a+1);have f:=Us lt;obtain⟨m,l⟩:=zK g (kE g i a _ (W5 lt)) es _ _ i (qB f).symm;refine⟨lt,by ext,?_⟩;unfold iV;rw[f];exact⟨m,l⟩
theorem N0(f:VB b)(i:∀e∈es,EV b e)(h:es.length<=1000)(j:(b3 b es N).length=N)(ha:a<N):(iV b es a).length<=1000/\∀s∈iV b es a,s<N:=by
 obtain⟨_,n,_,l⟩:=mw f i j ha;constructor
 .unfold iV
  split
  .rw[Ui];exact h
  .exact Vl _
 .intro s g;have:=(zk (m:=(b3 b es a).length) (iV b es a)).2 s g;ext
theorem zr(f:VB b)(g:∀e∈es,EV b e)(h:(b3 b es N).length=N):jx b es N=(Ul N).map (Fu (iV b es)):=by refine Wy λa ha=>?_;obtain⟨lt,_⟩:=mw f g h (Vr.mp ha);unfold Ku Fu iV;rw[Us lt];rw[UZ];rfl
theorem RF(h:q.1<26):LD.kd (jy q)=Um:=by
 unfold jy;simp only[LD.kd,LD.kds];rw[og h];cases q.2
 .rw[ax UM,show Up.strOk "up"=Um by left];rfl
 .rw[av rfl,show Up.strOk "down"=Um by left];rfl
theorem J3(g:VB b)(i:∀e∈es,EV b e)(o:(b3 b es N).length=N):∀d∈bH b es N,LD.keyD d=Um:=λd n=>by
 obtain⟨a,ha,rfl⟩:=Vc.mp n;obtain⟨lt,_⟩:=mw g i o (Vr.mp ha);have j:=kE g i a _ (W5 lt);unfold sA;rw[Us lt];rw[LD.keyD];refine(UW _ _).mpr ⟨oM λe h=>?_,aE ?_⟩
 .rw[LD.kd];exact oM λq m=>RF (xi g j (i e h) q m)
 .show Up.depthAll (es.map λe=>Up.tuple ((aG b (b3 b es a)[a].s e).2.map jy))+1<=8
  have:=mG (f:=λe=>Up.tuple ((aG b (b3 b es a)[a].s e).2.map jy)) (l:=es) λe _=>by show Up.depthAll ((aG b (b3 b es a)[a].s e).2.map jy)+1<=2;have:=mG (l:=(aG b (b3 b es a)[a].s e).2) λq _=>D3 q;ext
  ext
theorem Jq(m:Nat)(h:Z[i]?=lD (.lst (ds.map .fz))):frz (m+1) Z (.rf i)=lD (.list ds,Z.set i .dead):=by unfold frz;rw[h];dsimp only;rw[pz]
theorem Hb:frz 4 (base++(A:: .lst (F.map .fz)::C:: .lst (S.map .fz):: .lst (E.map .fz)::J)) (.tp [.rf (base.length+1),.rf (base.length+3),.rf (base.length+4)])=lD (.tuple [.list F,.list S,.list E],base++(A:: .dead::C:: .dead:: .dead::J)):=by
 have e:=Jq (Z:=base++(A:: .lst (F.map .fz)::C:: .lst (S.map .fz):: .lst (E.map .fz)::J)) 2 (mY (t:=1));rw[tD]at e;have b:=Jq (Z:=base++(A:: .dead::C:: .lst (S.map .fz):: .lst (E.map .fz)::J)) 2 (mY (t:=3));rw[tD]at b;have a:=Jq (Z:=base++(A:: .dead::C:: .dead:: .lst (E.map .fz)::J)) 2 (mY (t:=4));rw[tD]at a;show(match jP (frz 3) _ [.rf (base.length+1),.rf (base.length+3),.rf (base.length+4)]with|some (ds,Z1)=>lD (Up.tuple ds,Z1)|none=>Uh)=_;have f:jP (frz 3) (base++(A:: .lst (F.map .fz)::C:: .lst (S.map .fz):: .lst (E.map .fz)::J)) [.rf (base.length+1),.rf (base.length+3),.rf (base.length+4)]=lD ([.list F,.list S,.list E],base++(A:: .dead::C:: .dead:: .dead::J)):=by unfold jP;rw[e];dsimp only;unfold jP;rw[show akN (A::Cell.lst (F.map .fz)::C::Cell.lst (S.map .fz)::Cell.lst (E.map .fz)::J) 1 Cell.dead=A:: .dead::C:: .lst (S.map .fz):: .lst (E.map .fz)::J from rfl,b];dsimp only;unfold jP;rw[show akN (A::Cell.dead::C::Cell.lst (S.map .fz)::Cell.lst (E.map .fz)::J) 3 Cell.dead=A:: .dead::C:: .dead:: .lst (E.map .fz)::J from rfl,a];rfl
 rw[f]
theorem Ff{St:Nat->bb Nat}(z:∀ρ Z',(∃q,SE o q N St E Z')->Nn ρ Z')(i:Z[o]?=lD (.obj "Sorting" []))(B:0<N)(A:N<=1000)(w:∀r,r<N->(St r).length<=1000/\∀s∈St r,s<N)(G:∀d∈E,LD.keyD d=Um)(t:E.length=N):
  lA ((aM (eY "Sorting" "steps" (au 0) (ae (aR bA (aa 3) (~~~1))))
 (aM (eY "Sorting" "sends" (au 0) (ae (aR bA (aa 3) (~~~2))))
 (aM (eY "Sorting" "rounds" (au 0) (ae (cY az)))
 (aM (cA (nG ez 1 (aj (aZ "Sorting" "sends" (au 0)) aH)) (cV 4))
 (rd (Bb (bK (lC d6 (aZ "Sorting" "rounds" (au 0)) (ae (cY az)))) (bK (lC MY (kg jp (aj (au 4) aH)) (kg jp (aj (fP (aZ "Sorting" "rounds" (au 0)) (ae (DM ra (~~~1)))) aH))))) (aM (bS (kK (aZ "Sorting" "rounds" (au 0)) (au 4)))
 (cA (nG ez 1 (aj (eZ 1 [0] (lX (kg db (aj (aZ "Sorting" "steps" (au 0)) aH))) (cV 0) cR (a9 "Sorting" "mark_of" bJ 2 (au 1) (aj (ae (aa 0)) aH))) aH)) (cV 4)))))))) [lD (.rf o),-(bd),-(.int m),-(.tuple [F,.list ((Ul N).map (Fu St)),.list E]),Uh] Z) Nn T X:=by
 have f:=(Uk.mp i).1;refine tT (kr (ah (aN (af rfl) aO rfl rfl lQ)) (a8 rfl) i (by decide)) ?_;have e:(Z.set o (.obj "Sorting" (eS "steps" (.fz (.list ((Ul N).map (Fu St)))) [])))[o]?=lD (.obj "Sorting" [("steps",.fz (.list ((Ul N).map (Fu St))))]):=Vt f;generalize Z.set o (.obj "Sorting" (eS "steps" (.fz (.list ((Ul N).map (Fu St)))) []))=Z at e⊢;have f:=(Uk.mp e).1;refine tT (kr (ah (aN (af rfl) aO rfl rfl tW)) (a8 rfl) e (Uv rfl)) ?_;have b:(Z.set o (.obj "Sorting" (eS "sends" (.fz (.list E)) [("steps",.fz (.list ((Ul N).map (Fu St))))])))[o]?=lD (.obj "Sorting" [("steps",.fz (.list ((Ul N).map (Fu St)))),("sends",.fz (.list E))]):=Vt f;generalize Z.set o (.obj "Sorting" (eS "sends" (.fz (.list E)) [("steps",.fz (.list ((Ul N).map (Fu St))))]))=Z at b⊢;have f:=(Uk.mp b).1;have n:(Z++[Cell.lst []])[o]?=lD (.obj "Sorting" [("steps",.fz (.list ((Ul N).map (Fu St)))),("sends",.fz (.list E))]):=by rw[Uy f];exact b
 refine tT (kr (dh (ds:=[]) (by fail "ev")) (a8 rfl) n (Uv rfl)) ?_;show lA (aM _ _ _ ((Z++[Cell.lst []]).set o (.obj "Sorting" (yR St N (.list E) Z.length)))) _ _ _;have a:((Z++[Cell.lst []]).set o (.obj "Sorting" (yR St N (.list E) Z.length)))[o]?=lD (.obj "Sorting" (yR St N (.list E) Z.length)):=Vt (by rw[Uo];ext);have l:((Z++[Cell.lst []]).set o (.obj "Sorting" (yR St N (.list E) Z.length)))[Z.length]?=lD (.lst []):=by rw[Vo (by ext)];exact aQ
 have p:Z.length<((Z++[Cell.lst []]).set o (.obj "Sorting" (yR St N (.list E) Z.length))).length:=by rw[VG,Uo];show _<_+1;ext
 generalize (Z++[Cell.lst []]).set o (.obj "Sorting" (yR St N (.list E) Z.length))=Z1 at a l p⊢;generalize Z.length=q at a l p;have u:=rL (x:=.fz (.list E)) (Z1:=Z1) rfl rfl G (by ext);refine tT (mq (tt (ao (dW (a8 rfl) a rfl) aK) rfl u) rfl) ?_;have g:∀{j:Nat} {C:Cell},Z1[j]?=lD C->(Z1++[Cell.dd (eN 0 (gM E)),.lst ((Rk E).map λc=>.fz (nd c))])[j]?=lD C:=λ{j C} h=>by rw[Uy (Uk.mp h).1];exact h
 refine Gf (λρ Z' h=>z ρ Z' ⟨q,h⟩) t B A w ⟨[],Z1.length+1,rfl,g a,g l,by ext,?_,(λx v=>nomatch v),rfl,(λj y=>a5 y (aeO _)),.inl ⟨rfl,rfl⟩⟩;rw[mY];unfold vp Rk sq;rw[t,UZ];rfl
theorem zD(e:VB b){n:Nat}(hn:b.n=n)(H:n<=5)(z:0<=m)(y:m<=1000)(p:Z0[o]?=lD (.obj "Sorting" [])):Out (bq [.rf o,.fz (bD b),.fz (.int m)] Z0) (λv Z'=>v=.fz .none/\∃N q,(b3 b (bB n) N).length=N/\(N:Int)<=m/\SE o q N (iV b (bB n)) (bH b (bB n) N) Z') (λx=>x=TM m/\∃i,m<((b3 b (bB n) i).length:Int)):=by
 have j:(bB n).length<=1000:=by unfold bB;rw[Uo,Uo,Ui,Ui,UA];show n+n+1<=_;ext
 have a:=yc hn;refine rA rfl ?_;refine x0 ?_;have L:=yT (F:=ic) (es:=[]) (fa:=aj (ae (aa 1)) (aj (ae (aa 2)) aH)) (ρ:=[lD (.rf o),-(bD b),-(.int m),Uh,Uh]) (Z:=Z0) (ao (ah (af rfl)) (ao (ah (af rfl)) aK)) rfl;refine Out.bind (.eq L ((uw e hn H z y Z0).imp λv Z' B=>?_));obtain⟨N,J,g,I,rfl,rfl⟩:=B;have t:=Hb (base:=Z0++[.dead]) (A:=.obj "Places" (pF m ((Z0++[Cell.dead]).length+1) ((Z0++[Cell.dead]).length+2))) (C:=.dd (eN 0 ((b3 b (bB n) N).map fS))) (F:=((b3 b (bB n) N).map fS).map vO) (S:=jx b (bB n) N) (E:=bH b (bB n) N) (J:=J);have M:(Z0++[Cell.dead]).length=Z0.length+1:=by rw[Uo];rfl
 rw[zr e a g]at t;refine .eq (r':=RS.ok (SV.fz (.tuple [.list (((b3 b (bB n) N).map fS).map vO),.list ((Ul N).map (Fu (iV b (bB n)))),.list (bH b (bB n) N)])) (Z0++[Cell.dead]++(.obj "Places" (pF m ((Z0++[Cell.dead]).length+1) ((Z0++[Cell.dead]).length+2)):: .dead:: .dd (eN 0 ((b3 b (bB n) N).map fS)):: .dead:: .dead::J))) ?_ ⟨?_⟩
 .unfold ND vt nt;rw[zr e a g,show Z0.length+2=(Z0++[Cell.dead]).length+1 by ext,show Z0.length+4=(Z0++[Cell.dead]).length+3 by ext,show Z0.length+5=(Z0++[Cell.dead]).length+4 by ext,t]
 have K:0<N:=by have:=xF b (bB n) N;ext
 have f:(Z0++[Cell.dead]++(.obj "Places" (pF m ((Z0++[Cell.dead]).length+1) ((Z0++[Cell.dead]).length+2)):: .dead:: .dd (eN 0 ((b3 b (bB n) N).map fS)):: .dead:: .dead::J))[o]?=lD (.obj "Sorting" []):=by rw[UQ,Uy (Uk.mp p).1];exact p
 generalize Z0++[Cell.dead]++(Cell.obj "Places" (pF m ((Z0++[Cell.dead]).length+1) ((Z0++[Cell.dead]).length+2)):: .dead:: .dd (eN 0 ((b3 b (bB n) N).map fS)):: .dead:: .dead::J)=Z at f;have l:∀r,r<N->(iV b (bB n) r).length<=1000/\∀s∈iV b (bB n) r,s<N:=λr G=>N0 e a j g G;have w:=J3 e a g;have u:(bH b (bB n) N).length=N:=by unfold bH;rw[Ui,UA]
 generalize iV b (bB n)=St at l⊢;generalize hE:bH b (bB n) N=E at w u⊢;generalize ((b3 b (bB n) N).map fS).map vO=F;generalize bD b=bd;exact Ff (λρ Z' h=>⟨rfl,N,let⟨q,hq⟩:=h;⟨q,g,I,by rw[hE];exact hq⟩⟩) f K (by ext) l w u
section
variable{N:Nat}{St:Nat->bb Nat}{c:Nat->Nat}{E:bb D}{Z:bh}{o q t:Nat}
def lw(c:Nat->Nat)(N:Nat):bb Int:=(Ul N).map λi=>((c i:Nat):Int)
def nw(c:Nat->Nat)(N k:Nat):Nat:=(uf (k:Int) (lw c N)).getD 0
theorem v8:∀{ns:bb Int},k∈ns->∃j,uf k ns=lD j
 |n::r,h=>by
  unfold uf;by_cases e:n=k
  .exact⟨0,av e⟩
  .rw[ax e];obtain⟨j,a⟩:=v8 ((U2.mp h).resolve_left λz=>e z.symm);exact⟨j+1,by rw[a];rfl⟩
theorem zM(n:RG c N)(m:k<Cn c N):uf (k:Int) (lw c N)=lD (nw c N k)/\nw c N k<N/\c (nw c N k)=k/\Cn c (nw c N k)=k:=by
 obtain⟨i,h,g,p⟩:=lY n N (Ux _) m;obtain⟨j,b⟩:=v8 (ns:=lw c N) (Vc.mpr ⟨i,Vr.mpr h,by rw[g]⟩);have e:nw c N k=j:=by unfold nw;rw[b];rfl
 rw[e];obtain⟨a,u⟩:=wX b;have f:j<N:=by have:=(Uk.mp a).1;unfold lw at this;rw[Ui,UA]at this;exact this
 unfold lw at a;rw[dw f]at a;have r:c j=k:=by have:=UH a;ext
 have l:i=j:=by
  rcases aav i j with z|z|z
  .refine a5 ?_ (u i z);unfold lw;rw[dw h,g]
  .exact z
  .have:=jT (c:=c) z;ext
 exact⟨b,f,r,by rw[<-l];exact p⟩
def Gm(St:Nat->bb Nat)(c:Nat->Nat)(N k:Nat):D:=.tuple ((St (nw c N k)).map λs=>nd (c s))
def Gg(E:bb D)(c:Nat->Nat)(N k:Nat):D:=(E[nw c N k]?).getD .none
def SG(St:Nat->bb Nat)(E:bb D)(c:Nat->Nat)(N:Nat):D:=.tuple [.tuple ((Ul (Cn c N)).map (Gm St c N)),.tuple ((Ul (Cn c N)).map (Gg E c N))]
theorem EW(r:0<N)(y:N<=400)(e:RG c N):eO 1 [3] (lx gJ {aR d7 (fM L10.jp {aa 3}) (~~~1)}) (gN 0) dc (L10.Kv 1 (aa 0)) [a,b,s,-(.list ((lw c N).map .int)),Uh,x5]=.ok (.ow ((Ul (Cn c N)).map λk=>nd (nw c N k)),[a,b,s,-(.list ((lw c N).map .int)),Uh,x5]):=by
 have f:0<(lw c N).length:=by unfold lw;rw[Ui,UA];exact r
 have B:=EY e N (Ux _);have hm:Fb (lw c N)=(Cn c N:Int) - 1:=by obtain⟨p,n⟩:=xk f;obtain⟨i,hi,A⟩:=Vc.mp p;have:=jT (c:=c) (Vr.mp hi);obtain⟨j,h,w,_⟩:=lY e (k:=Cn c N - 1) N (Ux _) (by ext);have:=n (c j:Nat) (Vc.mpr ⟨j,Vr.mpr h,rfl⟩);ext
 have g:L10.jp [.list ((lw c N).map .int)]=-(.int ((Cn c N:Int) - 1)):=by unfold jp;dsimp only;rw[L3.jw];dsimp only;rw[av f,hm]
 have v:d7 (.int ((Cn c N:Int) - 1)) (.int 1)=-(nd (Cn c N)):=by rw[ir,show(Cn c N:Int) - 1+1=(Cn c N:Int) by ext]
 refine eC (pi (am (aN (dR (am (af rfl) aL) rfl g) aO rfl rfl v) aL) rfl (mV (by ext))) rfl ?_;refine iM nd (λk=>nd (nw c N k)) (Ul (Cn c N)) (by rw[UA];ext) rfl λk m=>?_;obtain⟨u,z,_⟩:=zM e (Vr.mp m);have l:GB ((lw c N).map .int) (nd k)=lD (nw c N k):=by unfold GB;rw[L3.jw];show(match uf (k:Int) (lw c N)with|some j=>if j<1000 then lD j else Uh|none=>Uh)=_;rw[u];exact av (by ext)
 show G9 (aa 0) [-(nd k),-(.list ((lw c N).map .int))] (lD (-(.list ((lw c N).map .int))))=_;unfold G9;rw[show aa 0 [lD (PV.fz (nd k)),-(.list ((lw c N).map .int))]=.ok (.fz (nd k),[-(nd k),-(.list ((lw c N).map .int))])from af rfl];show((Res.Vm (GB ((lw c N).map .int) (nd k))).bind λj=>Res.ok (PV.fz (nd j),[lD (PV.fz (nd k)),-(.list ((lw c N).map .int))]))=_;rw[l];rfl
theorem FL(p:RG c N)(I:N<=400)(z:∀r,r<N->(St r).length<=1000/\∀s∈St r,s<N)(m:Z[o]?=lD (.obj "Sorting" (yR St N (.list E) q)))(C:ρ[2]?=lD (lD (.rf o)))(B:ρ[3]?=lD (-(.list ((lw c N).map .int))))(A:(bT ρ)[4]?=lD (-(.list ((Ul (Cn c N)).map λk=>nd (nw c N k))))):
  ∃K,kg fF (aj (eZ 1 [2,3] (eT (gh (aa 4))) (cV 0) cR (kg fF (aj (eZ 1 [2] (fZ (fP (aZ "Sorting" "steps" (au 1)) (ae (aa 0)))) (cV 0) cR (ae (aR bA (aa 1) (aa 0)))) aH))) aH) ρ Z=.ok (.fz (.tuple ((Ul (Cn c N)).map (Gm St c N)))) (Z++K):=by
 have y:eT (gh (aa 4)) ρ Z=.ok ((Ul (Cn c N)).map λk=>nd (nw c N k)) Z:=fE (gm (af A) rfl rfl);have J:=EY p N (Ux _);have g:Out (cx (cV 0) cR (kg fF (aj (eZ 1 [2] (fZ (fP (aZ "Sorting" "steps" (au 1)) (ae (aa 0)))) (cV 0) cR (ae (aR bA (aa 1) (aa 0)))) aH)) ((Ul (Cn c N)).map λk=>nd (nw c N k)) [Uh,lD (.rf o),-(.list ((lw c N).map .int))] Z []) (λxs f=>∃a:bz,(∃x,a=[x,lD (.rf o),-(.list ((lw c N).map .int))])/\(∃K,f=Z++K)/\xs=((Ul (0+((Ul (Cn c N)).map λk=>nd (nw c N k)).length)).map (Gm St c N)).map .fz) λ_=>False:=by
  refine i4 (λk ρ f b=>(∃x,ρ=[x,lD (.rf o),-(.list ((lw c N).map .int))])/\(∃K,f=Z++K)/\b=((Ul k).map (Gm St c N)).map .fz) _ 0 _ _ _ ⟨⟨Uh,rfl⟩,⟨[],by rw[UT]⟩,rfl⟩ ?_;rintro i d ρ f b hi ⟨⟨x,rfl⟩,⟨K,rfl⟩,rfl⟩;rw[Vk];have h:=(Uk.mp hi).1;rw[Ui,UA]at h;rw[dw h]at hi;cases hi;obtain⟨_,u,_⟩:=zM p h;obtain⟨H,v⟩:=z _ u;have l:(Z++K)[o]?=lD (.obj "Sorting" (yR St N (.list E) q)):=by rw[Uy (Uk.mp m).1];exact m
  refine⟨by rw[Ui,Ui,UA];ext,[-(nd (nw c N i)),lD (.rf o),-(.list ((lw c N).map .int))],rfl,rfl,?_⟩;have w:fZ (fP (aZ "Sorting" "steps" (au 1)) (ae (aa 0))) [-(nd (nw c N i)),lD (.rf o),-(.list ((lw c N).map .int))] (Z++K)=.ok ((St (nw c N i)).map nd) (Z++K):=by unfold fZ;rw[ce (dW (a8 rfl) l rfl) (ah (af rfl)) (vq (dw u)),eh];rfl
  have cm:cx (cV 0) cR (ae (aR bA (aa 1) (aa 0))) ((St (nw c N i)).map nd) [Uh,-(.list ((lw c N).map .int))] (Z++K) []=.ok ([]++(St (nw c N i)).map λs=>SV.fz (nd (c s))) (Z++K):=by refine ja nd (λs=>SV.fz (nd (c s))) (Z++K) (λρ=>∃x,ρ=[x,-(.list ((lw c N).map .int))]) (St (nw c N i)) _ [] ⟨_,rfl⟩ (by show 0+_<=_;ext) ?_;rintro s j ρ ⟨x,rfl⟩;refine⟨[-(nd s),-(.list ((lw c N).map .int))],rfl,rfl,ah (aN (af rfl) (af rfl) rfl rfl (vq ?_)),_,rfl⟩;unfold lw;rw[UZ];exact dw (v s j)
  rw[Xp]at cm;have G:=iW (n:=1) (fj:=[2]) w cm;refine .eq (nJ (ds:=[.list ((St (nw c N i)).map λs=>nd (c s))]) (ao G aK) ?_ rfl) ⟨⟨_,rfl⟩,⟨K++[_],UQ _ _ _⟩,?_⟩
  .have:sh (Z++K++[.lst ((St (nw c N i)).map λs=>SV.fz (nd (c s)))]) (.rf (Z++K).length)=lD (.list ((St (nw c N i)).map λs=>nd (c s))):=dC (by rw[UZ];exact aQ);unfold aC;rw[this];rfl
  .rw[Xq,UI,UI];rfl
 obtain⟨xs,f,e,a,_,⟨K,rfl⟩,rfl⟩:=g.all;rw[Vk,Ui,UA]at e;have F:fy 1 [2,3] ρ=[Uh,lD (.rf o),-(.list ((lw c N).map .int))]:=by unfold fy;show[Uh]++[(ρ[2]?).join,(ρ[3]?).join]=_;rw[C,B];rfl
 rw[<-F]at e;refine⟨K++[_],(nJ (ds:=[.list ((Ul (Cn c N)).map (Gm St c N))]) (ao (iW y e) aK) ?_ rfl).trans (by rw[UQ])⟩;have:sh (Z++K++[.lst (((Ul (Cn c N)).map (Gm St c N)).map .fz)]) (.rf (Z++K).length)=lD (.list ((Ul (Cn c N)).map (Gm St c N))):=dC aQ;unfold aC;rw[this];rfl
theorem Fx(a:RG c N)(l:N<=400)(j:E.length=N)(e:Z[o]?=lD (.obj "Sorting" (yR St N (.list E) q)))(h:ρ[2]?=lD (lD (.rf o)))(g:(bT ρ)[4]?=lD (-(.list ((Ul (Cn c N)).map λk=>nd (nw c N k))))):
  ∃K,kg fF (aj (eZ 1 [2] (eT (gh (aa 4))) (cV 0) cR (fP (aZ "Sorting" "sends" (au 1)) (ae (aa 0)))) aH) ρ Z=.ok (.fz (.tuple ((Ul (Cn c N)).map (Gg E c N)))) (Z++K):=by
 have b:eT (gh (aa 4)) ρ Z=.ok ((Ul (Cn c N)).map λk=>nd (nw c N k)) Z:=fE (gm (af g) rfl rfl);have n:=EY a N (Ux _);have cm:cx (cV 0) cR (fP (aZ "Sorting" "sends" (au 1)) (ae (aa 0))) ((Ul (Cn c N)).map λk=>nd (nw c N k)) [Uh,lD (.rf o)] Z []=.ok ([]++(Ul (Cn c N)).map λk=>SV.fz (Gg E c N k)) Z:=by refine ja (λk=>nd (nw c N k)) (λk=>SV.fz (Gg E c N k)) Z (λρ=>∃x,ρ=[x,lD (.rf o)]) (Ul (Cn c N)) _ [] ⟨_,rfl⟩ (by show 0+_<=_;rw[UA];ext) ?_;rintro k f ρ ⟨x,rfl⟩;obtain⟨_,m,_⟩:=zM a (Vr.mp f);refine⟨[-(nd (nw c N k)),lD (.rf o)],rfl,rfl,ce (dW (a8 rfl) e rfl) (ah (af rfl)) (vq ?_),_,rfl⟩;unfold Gg;rw[Us (by ext)];rfl
 rw[Xp]at cm;have i:fy 1 [2] ρ=[Uh,lD (.rf o)]:=by unfold fy;show[Uh]++[(ρ[2]?).join]=_;rw[h];rfl
 rw[<-i]at cm;refine⟨[_],nJ (ds:=[.list ((Ul (Cn c N)).map (Gg E c N))]) (ao (iW b cm) aK) ?_ rfl⟩;have:sh (Z++[.lst ((Ul (Cn c N)).map λk=>SV.fz (Gg E c N k))]) (.rf Z.length)=lD (.list ((Ul (Cn c N)).map (Gg E c N))):=dC (by rw[UZ];exact aQ);unfold aC;rw[this];rfl
end
theorem K1:vp c N=.lst (((lw c N).map Up.int).map .fz):=by unfold vp lw;rw[UZ,UZ];rfl
def NX(E:bb D)(St:Nat->bb Nat)(N k:Nat):Prop:=Cn (sq E St N (k+1)) N<=Cn (sq E St N k) N/\∀j,j<k->Cn (sq E St N j) N<Cn (sq E St N (j+1)) N
theorem LJ{St:Nat->bb Nat}(h:NX E St N k)(h':NX E St N k'):k=k':=by
 rcases aav k k' with q|q|q
 .have:=h'.2 k q;have:=h.1;ext
 .exact q
 .have:=h.2 k' q;have:=h'.1;ext
theorem zL(B:VB b){n:Nat}(hn:b.n=n)(R:n<=5)(L:0<=m)(m4:m<=400)(A:bh):Out (iZ [.fz (bD b),.fz (.int m)] A) (λv _=>∃N k,(b3 b (bB n) N).length=N/\(N:Int)<=m/\NX (bH b (bB n) N) (iV b (bB n)) N k/\v=.fz (SG (iV b (bB n)) (bH b (bB n) N) (sq (bH b (bB n) N) (iV b (bB n)) N k) N)) (λx=>x=TM m/\∃i,m<((b3 b (bB n) i).length:Int)):=by
 have w:(bB n).length<=1000:=by unfold bB;rw[Uo,Uo,Ui,Ui,UA];show n+n+1<=_;ext
 have u:=yc hn;refine rA rfl ?_;have J:=CA (C:= "Sorting") (F:=bq) (fa:=aj (ae (aa 0)) (aj (ae (aa 1)) aH)) (ρ:=[-(bD b),-(.int m),Uh,Uh,Uh,Uh]) (Z:=A) (ao (ah (af rfl)) (ao (ah (af rfl)) aK)) rfl;refine x0 (.eq J (Out.bind ((zD B hn R L (by ext) aQ).imp λv Z M=>?_)));obtain⟨rfl,N,q,H,S,rs,t,k,h,P,j,Q⟩:=M;refine .eq rfl ⟨?_⟩;have G:∀r,r<N->(iV b (bB n) r).length<=1000/\∀s∈iV b (bB n) r,s<N:=λr O=>N0 B u w H O;have y:(bH b (bB n) N).length=N:=by unfold bH;rw[Ui,UA]
 have T:0<N:=by have:=xF b (bB n) N;ext
 have p:=wa (St:=iV b (bB n)) y k;have f:∀v,v=SV.fz (SG (iV b (bB n)) (bH b (bB n) N) (sq (bH b (bB n) N) (iV b (bB n)) N k) N)->∃N k,(b3 b (bB n) N).length=N/\(N:Int)<=m/\NX (bH b (bB n) N) (iV b (bB n)) N k/\v=.fz (SG (iV b (bB n)) (bH b (bB n) N) (sq (bH b (bB n) N) (iV b (bB n)) N k) N):=λv e=>⟨N,k,H,S,Q,e⟩;generalize sq (bH b (bB n) N) (iV b (bB n)) N k=c at j p f;generalize iV b (bB n)=St at h G f;generalize bH b (bB n) N=E at h y f;generalize A.length=o at h;generalize bD b=bd;have I:t≠o:=λz=>by rw[z,h]at j;cases j
 rw[K1]at j;have e1:jN (fP (aZ "Sorting" "rounds" (au 2)) (ae (DM ra (~~~1)))) [-(bd),-(.int m),lD (.rf o),Uh,Uh,Uh] Z=.ok (.fz (.list ((lw c N).map .int))) (Z.set t .dead):=iw (qu (dW (a8 rfl) h rfl) (ah (zU (rv:=.fz (.int (-1))) aO rfl rfl)) rfl P (pw _ _)) (gl j);refine dM e1 rfl ?_;have g:(Z.set t .dead)[o]?=lD (.obj "Sorting" (yR St N (.list E) q)):=by rw[Vo I];exact h
 generalize Z.set t .dead=Z1 at g;have Y:jN (ae (eO 1 [3] (lx gJ {aR d7 (fM L10.jp {aa 3}) (~~~1)}) (gN 0) dc (L10.Kv 1 (aa 0)))) [-(bd),-(.int m),lD (.rf o),-(.list ((lw c N).map .int)),Uh,Uh] Z1=.ok (.fz (.list ((Ul (Cn c N)).map λk=>nd (nw c N k)))) (Z1++[.dead]):=by refine iw (dh (EW T (by ext) p)) ?_;rw[gl aQ,dZ]
 refine dM Y rfl ?_;have a:(Z1++[Cell.dead])[o]?=lD (.obj "Sorting" (yR St N (.list E) q)):=by rw[Uy (Uk.mp g).1];exact g
 generalize Z1++[Cell.dead]=Z2 at a;obtain⟨K,X⟩:=FL (ρ:=[-(bd),-(.int m),lD (.rf o),-(.list ((lw c N).map .int)),-(.list ((Ul (Cn c N)).map λk=>nd (nw c N k))),Uh]) p (by ext) G a rfl rfl rfl;refine dM X rfl ?_;have l:(Z2++K)[o]?=lD (.obj "Sorting" (yR St N (.list E) q)):=by rw[Uy (Uk.mp a).1];exact a
 generalize Z2++K=Z3 at l;obtain⟨K2,U⟩:=Fx (ρ:=[-(bd),-(.int m),lD (.rf o),-(.list ((lw c N).map .int)),-(.list ((Ul (Cn c N)).map λk=>nd (nw c N k))),-(.tuple ((Ul (Cn c N)).map (Gm St c N)))]) p (by ext) y l rfl rfl;refine yM (qN (ao (ah (af rfl)) (ao U aK)) (by show 2<=1000;ext)) (f _ rfl)
def wk(w:Str)(k:Nat):D:=.tuple [.str w,nd k]
theorem Mx{b:Bd}{n:Nat}(hn:b.n=n)(v:n<=5):hW [bD b]=.ok (.ow ((bB n).map dS)):=by
 have z:gJ [.int b.n]=lD (bQ (Ul n)):=by rw[hn];exact ky (by ext)
 have A:=RY b;have y:d7 (.list ((Ul n).map (wk "down")++(Ul n).map (wk "up"))) (.list [dS .turn])=lD (.ow ((bB n).map dS)):=(QV (by rw[Uo,Ui,Ui,UA];show _+1<=_;ext)).trans (by unfold bB;rw[UI,UI,UZ,UZ];rfl);refine jJ rfl ?_;unfold g6;refine fX (by fail "ev") rfl rfl ?_;refine xG (λi ρ=>∃f a:bg PV,ρ=[zf (bD b),zo (((["down","up"]:bb Str).take i).flatMap λw=>(Ul n).map (wk w)),f,a]) (gm (by fail "ev") rfl rfl) ⟨Uh,Uh,rfl⟩ ?_ ?_
 .rintro i d ρ hi ⟨f,a,rfl⟩
  obtain⟨w,h,u⟩:∃w,(["down","up"]:bb Str)[i]?=lD w/\d=.str w:=by
   have:i=0\/i=1:=by have:=(Uk.mp hi).1;simp at this;ext
   rcases this with rfl|rfl
   .exact⟨"down",rfl,(UH hi).symm⟩
   .exact⟨"up",rfl,(UH hi).symm⟩
  subst u;have nx:((["down","up"]:bb Str).take (i+1)).flatMap (λw=>(Ul n).map (wk w))=((["down","up"]:bb Str).take i).flatMap (λw=>(Ul n).map (wk w))++(Ul n).map (wk w):=by rw[V0,h,List.flatMap_append];simp
  have B:i<2:=(Uk.mp h).1;have pl:((["down","up"]:bb Str).take i).flatMap (λw=>(Ul n).map (wk w))=[]\/((["down","up"]:bb Str).take i).flatMap (λw=>(Ul n).map (wk w))=(Ul n).map (wk "down"):=by
   have:i=0\/i=1:=by ext
   rcases this with rfl|rfl
   .exact .inl rfl
   .exact .inr (by simp)
  rw[nx];generalize ((["down","up"]:bb Str).take i).flatMap (λw=>(Ul n).map (wk w))=pre at pl;have o:pre.length<=5:=by
   rcases pl with rfl|rfl
   .exact Vl _
   .rw[Ui,UA];exact v
  refine⟨[zf (bD b),zo pre,zf (.str w),a],rfl,?_⟩;refine HK (λj ρ=>∃a:bg PV,ρ=[zf (bD b),zo (pre++(Ul j).map (wk w)),zf (.str w),a]) (by fail "ev") ⟨a,by rw[List.range_zero,W4,UT]⟩ ?_ ?_
  .rintro j d ρ t ⟨a,rfl⟩
   obtain⟨k,q,rfl⟩:=sL t;obtain⟨g,r⟩:k=j/\j<n:=by obtain⟨m,l⟩:=Uk.mp q;rw[adl]at l;rw[UA]at m;exact⟨l.symm,m⟩
   subst g;refine⟨[zf (bD b),zo (pre++(Ul k).map (wk w)),zf (.str w),zf (nd k)],rfl,?_⟩;have p:(pre++(Ul k).map (wk w)).length<1000000:=by rw[Uo,Ui,UA];ext
   exact sZ (xY rfl (gW (am (af rfl) (am (af rfl) aL)) rfl (Uv rfl)) rfl rfl p (by rw[Xq,UI,<-UQ];rfl)) ⟨_,rfl⟩
  .rintro ρ ⟨a,rfl⟩;rw[gY,UA];exact⟨_,_,rfl⟩
 .rintro ρ ⟨f,a,rfl⟩
  have e:((["down","up"]:bb Str).take 2).flatMap (λw=>(Ul n).map (wk w))=(Ul n).map (wk "down")++(Ul n).map (wk "up"):=by simp
  show Go (eR _ [zf (bD b),zo (((["down","up"]:bb Str).take 2).flatMap λw=>(Ul n).map (wk w)),f,a]) _ _ _;rw[e];exact fU (aN (kH rfl) (p9 (am (gW (am aO (am aO aL)) rfl (Uv rfl)) aL) rfl (Uv rfl)) rfl rfl y) rfl rfl
theorem Ie(ns:bb Int)(lo hi:bg Int):∃ms:bb Int,ms.length<=ns.length/\SQ (.list (ns.map .int)) lo hi=lD (.ow (ms.map .int)):=by
 refine⟨(ns.drop (HT.sIx ns.length 0 lo)).take (HT.sIx ns.length ns.length hi - HT.sIx ns.length 0 lo),?_,?_⟩
 .rw[Vs,aaz];ext
 .show lD (RV.ow (FQ (ns.map .int) lo hi))=_;unfold FQ;rw[Ui,List.map_take,List.map_drop]
theorem KR(h:bQ ks=bQ js):ks=js:=(Z9 λx y e=>by injection e with e;exact ado e).mp h
theorem GH(h:mD m=mD n):m=n:=by
 have e:=(rG m).symm.trans ((d3 (λz=>bA z (.int 0)) h).trans (rG n));injection e with e;injection e with e;injection e with e
 have w:=AR _ (rH m) _ (rH n);rw[show ws (wn m)=ws (wn n)from e,ec]at w;cases m<;>cases n<;>first|rfl|(exfalso;revert w;simp[wn];done)|(injection h with h;injection h with _ h;injection h with h g;injection h with h)
 .rw[xB h]
 .rw[h]
 .injection g with g;injection g with g;rw[xB h,g]
 .rw[h]
theorem OU(o:VB b)(l:VB c)(C:SW b s)(B:SW c t)(h:cM s=cM t):s=t:=by
 injection h with h
 injection h with h1 h
 injection h with h2 h
 injection h with h3 _
 injection h1 with h1
 have j:=(Z9 λx y e=>by
  injection e with e;injection e with f e;injection e with e2 _;injection f with f
  exact Prod.ext (ado f) (GH e2)).mp h1
 have G:=funext λk=>Option.ext λa=>⟨λe=>by
   have:=(hV (p:=(k,a))).mpr ⟨(SA.ak o C.sa k a e).1,e⟩;rw[j]at this;exact(hV.mp this).2,λe=>by
   have:=(hV (p:=(k,a))).mpr ⟨(SA.ak l B.sa k a e).1,e⟩;rw[<-j]at this;exact(hV.mp this).2⟩
 have E:s.wt=t.wt:=by
  revert h2;cases s.wt with
  |none=>cases t.wt with
   |none=>exact λ_=>rfl
   |some y=>exact λe=>by cases e
  |some x=>cases t.wt with
   |none=>exact λe=>by cases e
   |some y=>
    obtain⟨H,g,w⟩:=x;obtain⟨I,i,v⟩:=y;intro e;injection e with e;injection e with f e;injection e with e2 e;injection e with e3 _;injection f with f;injection e2 with e2;have f:=KR f;have:w=v:=by
     revert e3;cases w with
     |none=>cases v with
      |none=>exact λ_=>rfl
      |some q=>exact λe=>by injection e with e;injection e with _ e;cases e
     |some p=>cases v with
      |none=>exact λe=>by injection e with e;injection e with _ e;cases e
      |some q=>obtain⟨A,z⟩:=p;obtain⟨u,r⟩:=q;exact λe=>by have:=GH (m:=.ZI A z) (n:=.ZI u r) e;injection this with a b;rw[a,b]
    rw[f,e2,this]
 have F:s.oc=t.oc:=by
  revert h3;cases s.oc<;>cases t.oc<;>intro e
  .rfl
  .cases e
  .cases e
  .injection e with e;rw[e]
 cases s;cases t;cases G;cases E;cases F;rfl
section
variable{ρ:bz}{Z Z1 Z2:bh}{x:SV}
theorem GJ(ha:fa ρ Z=.ok xs Z1)(a:vi F n xs Z1=.ok x Z2):nA F n fa ρ Z=.ok x Z2:=by unfold nA;rw[ha,eh,a];rfl
theorem Jj(sn:bb D)(a:D):frz 4 (Z++[.lst (sn.map .fz)]) (.tp [.rf Z.length,.fz a])=lD (.tuple [.list sn,a],Z++[.dead]):=by
 have e:frz 3 (Z++[.lst (sn.map .fz)]) (.rf Z.length)=lD (.list sn,Z++[.dead]):=by unfold frz;rw[aQ];dsimp only;rw[pz];dsimp only;rw[dZ]
 have b:jP (frz 3) (Z++[.lst (sn.map .fz)]) [.rf Z.length,.fz a]=lD ([.list sn,a],Z++[.dead]):=by unfold jP;rw[e];rfl
 unfold frz;rw[show([AV.rf Z.length,AV.fz a].map AV.sv)=[.rf Z.length,.fz a]from rfl,b]
theorem EG(a:VB b)(f:SW b s)(g:EV b e)(j:fa ρ Z=.ok (.fz (bD b)) Z)(i:fb ρ Z=.ok (.fz (cM s)) Z)(h:fc ρ Z=.ok (.fz (dS e)) Z):jN (nA STP.gR 3 (aj fa (aj fb (aj fc aH)))) ρ Z=.ok (.fz (.tuple [.list ((aG b s e).2.map jy),cM (aG b s e).1])) (Z++[.dead]):=
 iw (GJ (ao j (ao i (ao h aK))) (NL a f g)) (Jj _ _)
end
theorem MK(j:VB b)(es:bb X1)(y:es.length<=1000)(m:∀e∈es,EV b e):∃Z',yj [.fz (bD b),.fz (.list (es.map dS))] []=.ok (.tp [.rf 0,.fz (cM (dL b gc es).1)]) Z'/\sh Z' (.rf 0)=lD (.list (AW (dL b gc es).2)):=by
 refine jm rfl ?_;refine iC (ah (show _=Res.ok (PV.fz (.tuple [.tuple [],.none,.none]),_)from aO)) rfl ?_;refine iC (dh (by fail "ev")) rfl ?_;refine pZ (Pa (λi ρ Z=>∃(f a:bg SV) (J:bh),ρ=[-(bD b),-(.list (es.map dS)),-(cM (dL b gc (es.take i)).1),lD (.rf 0),f,a]/\Z=.lst ((AW (dL b gc (es.take i)).2).map .fz)::J) (fE (gm (af rfl) rfl rfl)) ⟨_,_,[],rfl,rfl⟩ ?_ ?_)
 .rintro i d ρ Z hi ⟨f,a,J,rfl,rfl⟩
  rw[Uu]at hi;cases q:es[i]? with
  |none=>rw[q]at hi;cases hi
  |some e=>
   rw[q]at hi;cases UH hi;refine⟨_,_,rfl,?_⟩;have g:=m e (UL q);have o:SW b (dL b gc (es.take i)).1:=C9 j _ (ti b) λe h=>m e (acS h);obtain⟨r,v⟩:=yf b es gc i e q;have n:(dL b gc (es.take (i+1))).2=(dL b gc (es.take i)).2++[(aG b (dL b gc (es.take i)).1 e).2]:=by rw[V0,q,zE];rfl
   have w:(dL b gc (es.take i)).2.length<=1000:=by rw[ul,Vs];ext
   rw[r,n];have l:=EG (ρ:=[-(bD b),-(.list (es.map dS)),-(cM (dL b gc (es.take i)).1),lD (.rf 0),-(dS e),a]) (Z:=.lst ((AW (dL b gc (es.take i)).2).map .fz)::J) j o g (fa:=ae (aa 0)) (fb:=ae (aa 2)) (fc:=ae (aa 4)) (ah (af rfl)) (ah (af rfl)) (ah (af rfl));generalize aG b (dL b gc (es.take i)).1 e=p at l;refine iC l rfl ?_;have u:bA (.tuple [.list (p.2.map jy),cM p.1]) (.int 0)=-(.list (p.2.map jy)):=jA;have t:bA (.tuple [.list (p.2.map jy),cM p.1]) (.int 1)=-(cM p.1):=lQ;refine ko (Z1:=Cell.lst ((AW ((dL b gc (es.take i)).2++[p.2])).map .fz)::(J++[Cell.dead])) ((uT (a8 rfl) rfl (ah (aN (af rfl) aO rfl rfl u)) rfl (by rw[Ui,GS];ext)).trans (by unfold AW;rw[UI,UI];rfl)) ?_;exact Hn (ah (aN (af rfl) aO rfl rfl t)) rfl ⟨_,_,_,rfl,rfl⟩
 .rintro ρ Z ⟨f,a,J,rfl,rfl⟩;rw[Ui,XU];exact Gw (Gz (ao (a8 rfl) (ao (ah (af rfl)) aK)) (Uv rfl) rfl rfl) ⟨rfl,dC rfl⟩
theorem Sx(a:VB b)(es:bb X1)(f:es.length<=1000)(g:∀e∈es,EV b e):tS [bD b,.list (es.map dS)]=.ok (.fz (.tuple [.list (AW (dL b gc es).2),cM (dL b gc es).1])):=by obtain⟨j,i,h⟩:=MK a es f g;unfold tS SM;rw[show[bD b,.list (es.map dS)].map SV.fz=[.fz (bD b),.fz (.list (es.map dS))]from rfl,i];dsimp only;unfold aC;rw[show S3 j (.rf 0)=lD (.list (AW (dL b gc es).2))from h];rfl
theorem BW(r:VB b){n:Nat}(hn:b.n=n)(B:n<=5)(y:0<=m)(E:m<=400)(a:bh):Out (jj [.fz (bD b),.fz (.int m)] a) (λv Z'=>∃N k t,(b3 b (bB n) N).length=N/\NX (bH b (bB n) N) (iV b (bB n)) N k/\v=.rf t/\Z'[t]?=lD (vp (sq (bH b (bB n) N) (iV b (bB n)) N k) N)) (λx=>x=TM m/\∃i,m<((b3 b (bB n) i).length:Int)):=by
 refine rA (ρ:=[-(bD b),-(.int m)]) rfl ?_;have w:=CA (C:= "Sorting") (F:=bq) (fa:=aj (ae (aa 0)) (aj (ae (aa 1)) aH)) (ρ:=[-(bD b),-(.int m)]) (Z:=a) (ao (ah (af rfl)) (ao (ah (af rfl)) aK)) rfl;have u:Out (vv "Sorting" bq 3 (aj (ae (aa 0)) (aj (ae (aa 1)) aH)) [-(bD b),-(.int m)] a) (λv Z'=>∃o N k q e t,v=.rf o/\(b3 b (bB n) N).length=N/\NX (bH b (bB n) N) (iV b (bB n)) N k/\Z'[o]?=lD (.obj "Sorting" (yR (iV b (bB n)) N (.list (bH b (bB n) N)) q))/\Z'[q]?=lD (.lst (e++[.rf t]))/\Z'[t]?=lD (vp (sq (bH b (bB n) N) (iV b (bB n)) N k) N)) (λx=>x=TM m/\∃i,m<((b3 b (bB n) i).length:Int)):=by refine .eq w (Out.bind ((zD r hn B y (by ext) aQ).imp λv Z A=>?_));obtain⟨rfl,N,q,p,G,e,t,k,j,g,f,l⟩:=A;exact .eq rfl ⟨⟨a.length,N,k,q,e,t,rfl,p,l,j,g,f⟩⟩
 refine Eh ?_;have h:=u.out;refine⟨?_⟩;cases z:vv "Sorting" bq 3 (aj (ae (aa 0)) (aj (ae (aa 1)) aH)) [-(bD b),-(.int m)] a with
 |bad=>rw[z]at h;exact h.elim
 |er x o=>
  rw[z]at h;have:L10.fP (aZ "Sorting" "rounds" (vv "Sorting" bq 3 (aj (ae (aa 0)) (aj (ae (aa 1)) aH)))) (ae (DM ra (~~~1))) [-(bD b),-(.int m)] a=.er x o:=by unfold L10.fP aZ;rw[z];rfl
  rw[this];exact h
 |ok v Z=>rw[z]at h;obtain⟨o,N,k,q,e,t,rfl,p,l,j,g,f⟩:=h;rw[qu (dW z j rfl) (ah (zU (rv:=.fz (.int (-1))) aO rfl rfl)) rfl g (pw _ _)];exact⟨N,k,t,p,l,rfl,f⟩
theorem Pk(f:VB b){n:Nat}(hn:b.n=n)(l:n<=5)(j:0<=m)(g:m<=1000)(h:∀N,(b3 b (bB n) N).length=N->m<(N:Int))(Z:bh):∃Z',eP [.fz (bD b),.fz (.int m)] Z=.er (TM m) Z':=by obtain⟨x,o,e,a⟩:=(mj (wq f hn l j g Z) (λv Z' ⟨N,i,K,p,q,_⟩=>by have:=h N p;ext) λx a=>a.1).er;subst a;exact⟨o,e⟩
theorem PL(g:VB b){n N:Nat}(hn:b.n=n)(a:n<=5)(l:0<=m)(j:m<=1000)(f:(b3 b (bB n) N).length=N)(h:(N:Int)<=m)(Z:bh):∃i Z',eP [.fz (bD b),.fz (.int m)] Z=.ok (.rf i) Z'/\Z'[i]?=lD (.lst ((((b3 b (bB n) N).map fS).map vO).map .fz)):=by obtain⟨v,o,e,t,i,K,q,r,rfl,rfl,a⟩:=(mj (wq g hn a l j Z) (λv Z' p=>p) λx ⟨_,i,hi⟩=>by have:=oH (W7 f) i;ext).all;rw[xq q f]at a;exact⟨_,_,e,mY.trans a⟩
theorem Md(f:VB b){n N:Nat}(hn:b.n=n)(p:n<=5)(j:0<=m)(g:m<=400)(a:(b3 b (bB n) N).length=N)(h:(N:Int)<=m)(Z:bh):∃k Z',NX (bH b (bB n) N) (iV b (bB n)) N k/\iZ [.fz (bD b),.fz (.int m)] Z=.ok (.fz (SG (iV b (bB n)) (bH b (bB n) N) (sq (bH b (bB n) N) (iV b (bB n)) N k) N)) Z':=by obtain⟨v,o,e,u,k,r,t,q,rfl⟩:=(mj (zL f hn p j g Z) (λv Z' l=>l) λx ⟨_,i,hi⟩=>by have:=oH (W7 a) i;ext).all;cases xq r a;exact⟨k,o,q,e⟩
theorem M3(f:VB b){n N:Nat}(hn:b.n=n)(q:n<=5)(l:0<=m)(j:m<=400)(a:(b3 b (bB n) N).length=N)(h:(N:Int)<=m)(g:NX (bH b (bB n) N) (iV b (bB n)) N k)(Z:bh):∃t Z',jj [.fz (bD b),.fz (.int m)] Z=.ok (.rf t) Z'/\Z'[t]?=lD (vp (sq (bH b (bB n) N) (iV b (bB n)) N k) N):=by obtain⟨v,o,e,z,y,t,w,u,rfl,r⟩:=(mj (BW f hn q l j Z) (λv Z' p=>p) λx ⟨_,i,hi⟩=>by have:=oH (W7 a) i;ext).all;cases xq w a;cases LJ g u;exact⟨t,o,e,r⟩
def UN(fs:bb Rm):Prop:=∀j r,fs[j]?=lD r->cK (fs.map fS) (cM r.s)=lD j
theorem Qj(h:UN fs)(f:SW b s)(x y:D):UN (md fs s x y):=by
 have e:=sO (fs:=fs) f x y;unfold md fC at*;cases q:cK (fs.map fS) (cM s)with
 |some t=>exact h
 |none=>
  rw[q]at e;rw[ax (show¬(Uh:bg Nat).isSome=Um by nofun)]at e⊢;intro j r a;by_cases g:j<fs.length
  .rw[Uy g]at a;rw[UI];exact tj (h j r a)
  .rw[U6 (by ext)]at a
   have i:j - fs.length=0:=by have:=(Uk.mp a).1;simp at this;ext
   rw[i]at a;cases a;have:j=fs.length:=by ext
   subst this;exact e
theorem JB(a:VB b)(f:SW b s):∀(es:bb X1) (fs:bb Rm),(∀e∈es,EV b e)->UN fs->UN (gj b s r fs es)
 |[],_,_,h=>h
 |e::es,fs,he,h=>JB a f es _ (λx g=>he x (UC _ g)) (Qj h (iL a f (he e UE)) _ _)
theorem Cm(a:VB b)(f:∀e∈es,EV b e):∀i,UN (b3 b es i)
 |0=>λj r g=>by
  have l:j=0:=by have:=(Uk.mp g).1;have h:(b3 b es 0).length=1:=rfl;ext
  subst l;cases g;exact av (sF (lS (ti b)))
 |i+1=>by
  cases q:(b3 b es i)[i]? with
  |none=>rw[xt (by simpa using q)];exact Cm a f i
  |some r=>rw[qB q];exact JB a (kE a f i r (UL q)) es _ f (Cm a f i)
theorem Nf(a:VB b)(f:SW b s)(g:∀e∈es,EV b e){i:Nat}(h:es[i]?=lD e):∃t,cK ((gj b s r fs es).map fS) (cM (aG b s e).1)=lD t:=by have:=zm (b:=b) (s:=s) (r:=r) es fs (i+1);rw[zz h]at this;exact⟨_,sJ (this.map fS) (sO (iL a f (g e (UL h))) _ _)⟩
theorem Mf(f:VB b)(g:∀e∈es,EV b e)(v:(b3 b es N).length=N)(ha:a<N):∃r:Rm,(b3 b es N)[a]?=lD r/\SW b r.s/\sA b es a=.tuple (es.map λe=>.tuple ((aG b r.s e).2.map jy))/\(iV b es a).length=es.length/\∀(i:Nat) e,es[i]?=lD e->∃t q,(iV b es a)[i]?=lD t/\t<N/\(b3 b es N)[t]?=lD q/\q.s=(aG b r.s e).1/\cK ((b3 b es N).map fS) (cM (aG b r.s e).1)=lD t:=by
 obtain⟨lt,_⟩:=mw f g v ha;have u:b3 b es a<+:b3 b es N:=by have:=o0 b es a (N - a);rwa [adp (by ext)]at this
 have m:b3 b es (a+1)<+:b3 b es N:=by have:=o0 b es (a+1) (N - (a+1));rwa [adp (by ext)]at this
 have q:(b3 b es a)[a]?=lD ((b3 b es a)[a]'lt):=Us lt;generalize (b3 b es a)[a]'lt=r at q;have l:=kE f g a r (UL q);refine⟨r,?_,l,?_,?_,λi e hi=>?_⟩
 .obtain⟨t,e⟩:=u;rw[<-e,Uy lt];exact q
 .unfold sA;rw[q]
 .unfold iV;rw[q];exact Ui ..
 .obtain⟨t,n⟩:=Nf (r:=a) (fs:=b3 b es a) f l g hi
  rw[<-qB q]at n;have p:=sJ (m.map fS) n;obtain⟨z,j,w⟩:=oi p;rw[Uu]at j;cases zq:(b3 b es N)[t]? with
  |none=>rw[zq]at j;cases j
  |some o=>rw[zq]at j;cases UH j;have y:=(Uk.mp zq).1;have h:=kE f g N o (UL zq);refine⟨t,o,?_,by ext,zq,OU f f h (iL f l (g e (UL hi))) (LD.kd_eqv _ _ (uA (lS h)) (uA (lS (iL f l (g e (UL hi))))) w),p⟩;unfold iV;rw[q];show(es.map _)[i]?=_;rw[Uu,hi];show lD (fC _ _)=_;unfold fC;rw[n];rfl
theorem CY{St:Nat->bb Nat}(g:E.length=N)(a:∀d∈E,LD.keyD d=Um)(hi:i<N)(b:j<N):∀k,sq E St N k i=sq E St N k j->E[i]?=E[j]?
 |0,h=>by have f:E[i]?=lD (E[i]'(by ext)):=Us _;have e:E[j]?=lD (E[j]'(by ext)):=Us _;rw[f,e,(NJ a f e).mp h]
 |k+1,h=>CY g a hi b k (by
  have:=(Cc hi b).mp h;injection this with this
  injection this with this
  exact Cp this)
def vX(c:Nat->Nat):Nat->bb Pl->bb (D×D)
 |_,[]=>[]
 |k,q::r=>(q.p,nd (c k))::vX c (k+1) r
theorem BJ(c:Nat->Nat):∀(k:Nat) (fs:bb Pl) (p:D),(vX c k fs).find? (λkv=>Up.eqv kv.1 p)=Uh/\cK fs p=Uh\/∃i q,(vX c k fs).find? (λkv=>Up.eqv kv.1 p)=lD (q,nd (c (k+i)))/\cK fs p=lD i
 |_,[],_=>.inl ⟨rfl,rfl⟩
 |k,q::r,p=>by
  unfold vX cK;rw[Ve];cases Up.eqv q.p p with
  |true=>exact .inr ⟨0,q.p,rfl,rfl⟩
  |false=>
   rw[ax UM];rcases BJ c (k+1) r p with⟨b,a⟩|⟨i,x,b,a⟩
   .exact .inl ⟨b,by rw[a];rfl⟩
   .exact .inr ⟨i+1,x,by rw[b,VU,Yc 1 i],by rw[a];rfl⟩
theorem RZ(h:cK fs p=lD t):gL (vX c 0 fs) p=lD (nd (c t)):=by
 unfold gL;rcases BJ c 0 fs p with⟨_,a⟩|⟨i,x,b,a⟩
 .rw[h]at a;cases a
 .rw[h]at a;cases a;rw[b,Vk];rfl
theorem El(c:Nat->Nat):∀(k:Nat) (fs:bb Pl) (q:Pl),vX c k (fs++[q])=vX c k fs++[(q.p,nd (c (k+fs.length)))]
 |k,[],q=>rfl
 |k,a::r,q=>by show(a.p,nd (c k))::vX c (k+1) (r++[q])=(a.p,nd (c k))::(vX c (k+1) r++[(q.p,nd (c (k+(r.length+1))))]);rw[El c (k+1) r q,VU,Yc 1 r.length]
theorem Ij(c:Nat->Nat):∀(k:Nat) (fs:bb Pl),(vX c k fs).length=fs.length
 |_,[]=>rfl
 |k,q::r=>d3 (·+1) (Ij c (k+1) r)
theorem P5(h:cK fs q.p=Uh):lh (vX c 0 fs) q.p (nd (c fs.length))=vX c 0 (fs++[q]):=by
 rcases BJ c 0 fs q.p with⟨b,_⟩|⟨i,x,_,a⟩
 .unfold lh;rw[b,El,Vk];rfl
 .rw[h]at a;cases a
theorem Fk(c:Nat->Nat)(l:0<N)(j:N<=1000)(m:c 0=0):iK [.list ((Ul N).map λi=>nd (c i)),nd N]=.ok (.fz (.bool Um)):=by
 have f:db [.list ((Ul N).map λi=>nd (c i))]=-(nd N):=(eU _).trans (by rw[Ui,UA]);have g:bA (.list ((Ul N).map λi=>nd (c i))) (.int 0)=-(nd 0):=vq (by rw[dw l,m]);have cm:lB (d9 (gN 0) dc (Bl (vB "int" (aa 0)) (MH (vB "bool" (aa 0)))) ((Ul N).map λi=>nd (c i)) [Uh] [])=.ok ((Ul N).map λ_=>Up.bool Um):=iM (λi=>nd (c i)) (λ_=>.bool Um) (Ul N) (by rw[UA];exact j) rfl λi _=>rfl;have b:=pO (λ_=>Um) (Ul N);rw[WC.mpr (λ_ _=>rfl)]at b;have a:∃rv,ii 2 km [.list ((Ul N).map λi=>nd (c i)),nd N]=.ok rv/\rv=.fz (.bool Um):=by refine qM rfl ?_;have e:JX (Fz (aY (vB "list" (aa 0)))) (JX (aY (aR uz (fM db {aa 0}) (aa 1))) (aY (aR uz (aR bA (aa 0) (~~~0)) (~~~0)))) [zf (.list ((Ul N).map λi=>nd (c i))),zf (nd N)]=.ok (Uw,[zf (.list ((Ul N).map λi=>nd (c i))),zf (nd N)]):=xn (DY (cg (Iv (dx:=.list ((Ul N).map λi=>nd (c i))) (af rfl) rfl rfl) rfl)) λ_=>xn (cg (aN (dR (am (af rfl) aL) rfl f) (af rfl) rfl rfl (STP.oX rfl)) rfl) λ_=>cg (aN (aN (af rfl) aO rfl rfl g) aO rfl rfl (STP.oX rfl)) rfl;refine nz e (λz=>by cases z) λ_=>gF ?_;exact fU (dR (am (eC (gm (af rfl) rfl rfl) rfl cm) aL) rfl b) rfl rfl
 obtain⟨rv,h,rfl⟩:=a;exact h
theorem Hg(h:Yl sn):ny (.tuple (sn.map jy))=Um:=JV (by unfold Up.canLay0;exact xS λq a=>L6 (h q a)) (by show Up.depthAll (sn.map jy)+1<=64;have:=mG (l:=sn) λq _=>D3 q;ext)
section
variable{b:Bd}{es:bb X1}{N:Nat}{c:Nat->Nat}
theorem Sr(f:RG c N)(e:∀i j,i<N->j<N->c i=c j->(bH b es N)[i]?=(bH b es N)[j]?)(ha:a<N):bA (.tuple ((Ul (Cn c N)).map (Gg (bH b es N) c N))) (nd (c a))=-(sA b es a):=by have cl:=jT (c:=c) ha;obtain⟨_,h,g,_⟩:=zM f cl;refine Gk ?_;rw[dw cl];unfold Gg;rw[e _ a h ha g];unfold bH;rw[dw ha];rfl
theorem Sw{St:Nat->bb Nat}(f:RG c N)(e:∀i j,i<N->j<N->c i=c j->(St i).map c=(St j).map c)(ha:a<N):bA (.tuple ((Ul (Cn c N)).map (Gm St c N))) (nd (c a))=-(.tuple (bQ ((St a).map c))):=by have cl:=jT (c:=c) ha;obtain⟨_,h,g,_⟩:=zM f cl;refine Gk ?_;rw[dw cl,<-e _ a h ha g];unfold Gm bQ;rw[UZ];rfl
end
theorem GM(h:eP [.fz (bD b),.fz (.int 90)] Z=.er (TM 90) Z'):cO [.fz (bD b)] Z=.ok (.fz .none) Z':=by unfold cO;dsimp only;rw[h];exact av rfl
theorem GX(h:eP [.fz (bD b),.fz (.int 90)] Z=.ok v Z'):cO [.fz (bD b)] Z=.ok v Z':=by unfold cO;dsimp only;rw[h]
abbrev G3(ns:bb Int)(b:Bd)(es:bb X1)(r:bz):bz:=-(.list (ns.map .int))::-(bD b)::-(.list (es.map dS))::r
abbrev GL(ns:bb Int)(b:Bd)(es:bb X1)(F:bb Rm)(A S:D)(i:Nat)(r:bz):bz:=G3 ns b es<|some (.fz (.list ((F.map fS).map vO)))::-(A)::-(S)::lD (.rf i)::r
theorem JR(h:Z[i]?=lD (.lst (ds.map .fz))):mZ 6 Z (.rf i)=lD (.list ds):=by
 unfold mZ;rw[h];show(aC (mZ 5 Z) (ds.map .fz)).map Up.list=_;clear h;have:∀l:bb D,aC (mZ 5 Z) (l.map .fz)=lD l:=λl=>by
  induction l with
  |nil=>rfl
  |cons d r a=>unfold List.map aC;rw[a];rfl
 rw[this];rfl
theorem main(ns:bb Int)(hns:ns.length<=63):L10.RA F_law [.list (ns.map .int)]=.ok (.fz (.bool Um)):=by
 obtain⟨n,hn,ek⟩:=Mr ns;obtain⟨b,I,bn,eb⟩:=QF ns 1 n hn;have n5:n<=5:=by ext
 have e1:=Mx bn n5;have H:=yc bn;have ell:(bB n).length<=1000/\0<(bB n).length:=by unfold bB;rw[Uo,Uo,Ui,Ui,UA];show n+n+1<=_/\0<n+n+1;ext
 have key:Out (F_law [.fz (.list (ns.map .int))] []) (λx _=>x=.fz (.bool Um)) (λ_=>False):=by
  refine rA rfl ?_;refine dM (ah (dG (am (af rfl) (am aO (am (dG (am (af rfl) aL) rfl rfl ek) aL))) rfl rfl eb)) rfl ?_;refine dM (x:=.fz (.list ((bB n).map dS))) (Z1:=[.dead]) (ρ1:=G3 ns b (bB n) [Uh,Uh,Uh,Uh,Uh,Uh,Uh,Uh,Uh,Uh,Uh,Uh,Uh]) (iw (dh (dG (am (af rfl) aL) rfl rfl e1)) (by rw[gl aQ,dZ];rfl)) rfl ?_;by_cases O:∃N,(b3 b (bB n) N).length=N/\N<=90
  case neg=>
   obtain⟨p,ee⟩:=Pk I bn n5 (m:=90) (by decide) (by decide) (λN h=>by have:¬N<=90:=λz=>O ⟨N,h,z⟩;ext) [.dead];refine dM (iw (tt (ao (ah (af rfl)) aK) rfl (GM ee)) (d:=.none) (by rfl)) rfl ?_;exact PB (cy (cg (aN (af rfl) aO rfl rfl rfl) rfl)) (Ms (ah aO) rfl)
  obtain⟨N,O,h90⟩:=O;obtain⟨i1,Z1,r1,k1⟩:=PL I bn n5 (m:=90) (by decide) (by decide) O (by ext) [.dead];refine dM (ρ1:=G3 ns b (bB n) [-(.list (((b3 b (bB n) N).map fS).map vO)),Uh,Uh,Uh,Uh,Uh,Uh,Uh,Uh,Uh,Uh,Uh,Uh]) (iw (tt (ao (ah (af rfl)) aK) rfl (GX r1)) (gl k1)) rfl ?_;refine AZ (cy (cg (aN (rv:=.fz (.bool Uw)) (af rfl) aO rfl rfl rfl) rfl)) (yI ?_);generalize Z1.set i1 .dead=Z1;obtain⟨k,Z2,stp,em⟩:=Md I bn n5 (m:=90) (by decide) (by decide) O (by ext) Z1;have st2:=M3 I bn n5 (m:=90) (by decide) (by decide) O (by ext) stp;have dl:(bH b (bB n) N).length=N:=by unfold bH;rw[Ui,UA]
  have h0:0<N:=by have:=xF b (bB n) N;ext
  have hc:=wa (St:=iV b (bB n)) dl k;have hf:∀i j,i<N->j<N->_->_:=λi j hi M e=>CY (St:=iV b (bB n)) dl (J3 I H O) hi M k e;have hs:∀i j,i<N->j<N->_->_:=λi j hi M e=>F1 dl stp.1 hi M e;have rm:∀a,a<N->_:=λa ha=>Mf I H O ha;have un:=Cm I H N;clear stp;generalize sq (bH b (bB n) N) (iV b (bB n)) N k=c at hc hf hs st2 em;refine dM (ρ1:=G3 ns b (bB n) [-(.list (((b3 b (bB n) N).map fS).map vO)),-(.tuple ((Ul (Cn c N)).map (Gm (iV b (bB n)) c N))),-(.tuple ((Ul (Cn c N)).map (Gg (bH b (bB n) N) c N))),Uh,Uh,Uh,Uh,Uh,Uh,Uh,Uh,Uh,Uh]) (qQ (ao (ah (af rfl)) (ao (ah aO) aK)) rfl em) rfl ?_;clear em;have c0:c 0=0:=by have:=hc 0 h0;exact Nat.le_zero.mp this
  have sd:∀a,a<N->_:=λa ha=>Sr (b:=b) (es:=bB n) hc hf ha;have sp:∀a,a<N->_:=λa ha=>Sw hc hs ha;clear hf hs hc dl;generalize Up.tuple ((Ul (Cn c N)).map (Gm (iV b (bB n)) c N))=A at sp;generalize Up.tuple ((Ul (Cn c N)).map (Gg (bH b (bB n) N) c N))=S at sd;obtain⟨g,G,e6,m6⟩:=st2 Z2;refine dM (ρ1:=GL ns b (bB n) (b3 b (bB n) N) A S g [Uh,Uh,Uh,Uh,Uh,Uh,Uh,Uh,Uh]) (qQ (ao (ah (af rfl)) (ao (ah aO) aK)) rfl e6) rfl ?_;clear e6;generalize hF:b3 b (bB n) N=F at O rm un;have m6':G[g]?=lD (.lst (((Ul N).map λi=>nd (c i)).map .fz)):=by rw[<-oZ];exact m6
  have R:∀{r:bz},fM db {aa 3} (bT (GL ns b (bB n) F A S g r))=.ok (.fz (nd N),bT (GL ns b (bB n) F A S g r)):=λ{r}=>dR (rv:=.fz (nd N)) (am (af rfl) aL) rfl ((eU _).trans (by rw[Ui,Ui,O]));have lm:=Fk c h0 (by ext) c0;refine AZ (sW (bx (K3 (ds:=[.list ((Ul N).map λi=>nd (c i)),nd N]) (ao (a8 rfl) (ao (ah R) aK)) (by unfold aC aC aC;rw[JR m6'];rfl) rfl lm rfl))) (yI ?_);clear lm;have il:=(Uk.mp m6).1;have rg:=mV (N:=N) (by ext);have ixF:∀{a:Nat} {r:Rm},F[a]?=lD r->bA (.list ((F.map fS).map vO)) (nd a)=-(vO (fS r)):=λ{a r} h=>vq (by rw[Uu,Uu,h];rfl);refine dM (x:=.rf G.length) (Z1:=G++[.dd []]) (ρ1:=GL ns b (bB n) F A S g [lD (.rf G.length),Uh,Uh,Uh,Uh,Uh,Uh,Uh,Uh]) rfl rfl ?_;refine kW (xw (λk ρ p=>∃E:bg SV,ρ=GL ns b (bB n) F A S g [lD (.rf G.length),E,Uh,Uh,Uh,Uh,Uh,Uh,Uh]/\p=G++[Cell.dd (vX c 0 ((F.take k).map fS))]) (ds:=(Ul N).map nd) (fE (pi (am R aL) rfl rg)) ⟨Uh,rfl,rfl⟩ ?_ ?_)
  .rintro k d ρ p y ⟨E,rfl,rfl⟩
   have kl:=(Uk.mp y).1;rw[Ui,UA]at kl;rw[dw kl]at y;cases y;obtain⟨r,L,sw,_⟩:=rm k kl;refine⟨GL ns b (bB n) F A S g [lD (.rf G.length),-(nd k),Uh,Uh,Uh,Uh,Uh,Uh,Uh],_,rfl,?_⟩;have nk:cK ((F.take k).map fS) (cM r.s)=Uh:=by
    cases z:cK ((F.take k).map fS) (cM r.s)with
    |none=>rfl
    |some t=>obtain⟨q,T,_⟩:=oi z;have tl:=(Uk.mp T).1;rw[Ui,Vs]at tl;have h2:=un k r L;have h3:=sJ ((List.take_prefix k F).map fS) z;rw[h2]at h3;cases h3;ext
   have lk:((F.take k).map fS).length=k:=by rw[Ui,Vs];ext
   have ml:(G++[Cell.dd (vX c 0 ((F.take k).map fS))])[g]?=lD (vp c N):=(Uy il).trans m6;have pt:=zP (fd:=au 7) (fk:=ae (aR bA (aR bA (aa 3) (aa 8)) (~~~0))) (fv:=L10.fP (au 6) (ae (aa 8))) (ρ:=GL ns b (bB n) F A S g [lD (.rf G.length),-(nd k),Uh,Uh,Uh,Uh,Uh,Uh,Uh]) (DK ml kl (a8 rfl) (ah (af rfl))) (a8 rfl) (ah (d:=cM r.s) (aN (rv:=.fz (cM r.s)) (aN (rv:=.fz (vO (fS r))) (af rfl) (af rfl) rfl rfl (ixF L)) aO rfl rfl jA)) (xP (lS sw)) (aa1) (by rw[Ij,lk];ext);have pn:=P5 (c:=c) (q:=fS r) nk;rw[lk]at pn;rw[show lh (vX c 0 ((F.take k).map fS)) (cM r.s) (nd (c k))=vX c 0 ((F.take (k+1)).map fS)from pn.trans (by rw[V0,L,UI];rfl),aci _ _ (Ux _),ach]at pt;exact yo pt ⟨_,rfl,rfl⟩
  rintro Y p ⟨E,rfl,rfl⟩;rw[Ui,UA,<-O,XU];have gd:(G++[Cell.dd (vX c 0 (F.map fS))])[G.length]?=lD (.dd (vX c 0 (F.map fS))):=aa1;have ml:(G++[Cell.dd (vX c 0 (F.map fS))])[g]?=lD (vp c N):=(Uy il).trans m6;generalize G++[Cell.dd (vX c 0 (F.map fS))]=Z4 at gd ml;generalize G.length=j7 at gd;have le:∀{r:bz},fM db {aa 2} (bT (GL ns b (bB n) F A S g r))=.ok (.fz (nd (bB n).length),bT (GL ns b (bB n) F A S g r)):=λ{r}=>dR (rv:=.fz (nd (bB n).length)) (am (af rfl) aL) rfl ((eU _).trans (by rw[Ui]));have U:∀{J:bh} {i:Nat} {x:Cell},Z4[i]?=lD x->(Z4++J)[i]?=lD x:=λ{J i x} h=>(Uy (Uk.mp h).1).trans h;have wr:∀{a i:Nat} {e:X1} {r:Rm},sA b (bB n) a=.tuple ((bB n).map λe=>.tuple ((aG b r.s e).2.map jy))->(bB n)[i]?=lD e->bA (sA b (bB n) a) (nd i)=-(.tuple ((aG b r.s e).2.map jy)):=λ{a i e r} y hi=>by rw[y];exact Gk (by rw[Uu,hi];rfl)
  refine kW (xw (λk ρ p=>∃(E B C v:bg SV) (J:bh),ρ=GL ns b (bB n) F A S g [lD (.rf j7),E,B,C,v,Uh,Uh,Uh,Uh]/\p=Z4++J) (ds:=(Ul N).map nd) (fE (pi (am R aL) rfl rg)) ⟨E,Uh,Uh,Uh,[],rfl,(UT _).symm⟩ ?_ ?_)
  .rintro a d ρ p y ⟨E,B,C,v,J,rfl,rfl⟩;have P:=(Uk.mp y).1;rw[Ui,UA]at P;rw[dw P]at y;cases y;obtain⟨r,L,sw,dr,sl,nx⟩:=rm a P;refine⟨GL ns b (bB n) F A S g [lD (.rf j7),-(nd a),B,C,v,Uh,Uh,Uh,Uh],_,rfl,?_⟩;refine xw (λk ρ p=>∃(B C v:bg SV) (J:bh),ρ=GL ns b (bB n) F A S g [lD (.rf j7),-(nd a),B,C,v,Uh,Uh,Uh,Uh]/\p=Z4++J) (ds:=(Ul (bB n).length).map nd) (fE (pi (am le aL) rfl (mV ell.1))) ⟨B,C,v,J,rfl,rfl⟩ ?_ (λY p ⟨B,C,v,J,T,h2⟩=>⟨_,B,C,v,J,T,h2⟩);rintro i d ρ p y ⟨B,C,v,J,rfl,rfl⟩;have il':=(Uk.mp y).1;rw[Ui,UA]at il';rw[dw il']at y;cases y;obtain⟨e,w⟩:∃e,(bB n)[i]?=lD e:=⟨_,Us il'⟩;obtain⟨t,q,T,h2,h3,h4,h5⟩:=nx i e w;have ev:=H e (UL w);refine⟨GL ns b (bB n) F A S g [lD (.rf j7),-(nd a),-(nd i),C,v,Uh,Uh,Uh,Uh],_,rfl,?_⟩;have ixE:bA (.list ((bB n).map dS)) (nd i)=-(dS e):=vq (by rw[Uu,w];rfl);have sf:=EG (ρ:=GL ns b (bB n) F A S g [lD (.rf j7),-(nd a),-(nd i),C,v,Uh,Uh,Uh,Uh]) (Z:=Z4++J) I sw ev (fa:=ae (aa 1)) (fb:=ae (aR bA (aR bA (aa 3) (aa 8)) (~~~0))) (fc:=ae (aR bA (aa 2) (aa 9))) (ah (af rfl)) (ah (aN (rv:=.fz (cM r.s)) (aN (rv:=.fz (vO (fS r))) (af rfl) (af rfl) rfl rfl (ixF L)) aO rfl rfl jA)) (ah (aN (rv:=.fz (dS e)) (af rfl) (af rfl) rfl rfl ixE));have sk:=lS (iL I sw ev);have so:=xi I sw ev;have x2:=wr dr w;generalize aG b r.s e=u at sf sk so x2 h5;refine dM (ρ1:=GL ns b (bB n) F A S g [lD (.rf j7),-(nd a),-(nd i),-(.list (u.2.map jy)),-(cM u.1),Uh,Uh,Uh,Uh]) sf rfl ?_;rw[UQ];have y2:bA (.tuple (bQ ((iV b (bB n) a).map c))) (nd i)=-(nd (c t)):=Gk (by unfold bQ;rw[Uu,Uu,T];rfl);have cm:L10.fP (au 6) (ae (aa 8)) (GL ns b (bB n) F A S g [lD (.rf j7),-(nd a),-(nd i),-(.list (u.2.map jy)),-(cM u.1),Uh,Uh,Uh,Uh]) (Z4++(J++[Cell.dead]))=.ok (.fz (nd (c a))) (Z4++(J++[Cell.dead])):=DK (U ml) P (a8 rfl) (ah (af rfl));exact .eq (jv (jZ (bx (dj (ce (ce (ah (af rfl)) cm (sd a P)) (ah (af rfl)) x2) (ah (dR (rv:=.fz (.tuple (u.2.map jy))) (am (af rfl) aL) rfl rfl)) (cI (STP.oX (Hg so))))) (bx (dj (ce (ce (ah (af rfl)) cm (sp a P)) (ah (af rfl)) y2) (zF (a8 rfl) (ah (af rfl)) (xP sk) (U gd) (RZ h5)) (cI (STP.oX rfl))))) iS) ⟨_,_,_,_,rfl,rfl⟩
  rintro Y p ⟨E,B,C,v,J,rfl,rfl⟩;have ml5:(Z4++J)[g]?=lD (vp c N):=U ml;generalize Z4++J=Z5 at ml5;clear gd ml U R rg m6 m6' il;obtain⟨ms,_,cu⟩:=Ie ns (lD 12) (lD 62);obtain⟨xs,c1,c2,c3⟩:=tQ (gt:=gN 0) (ft:=dc) (fe:=fO aU 3 {aa 0,~~~60,fM db {aa 1}}) (ds:=ms.map .int) (ρ:=[Uh,-(.list ((bB n).map dS))]) (λρ=>∃o,ρ=[o,-(.list ((bB n).map dS))]) (λ_ x=>∃a:Nat,x=nd a/\a<(bB n).length) ⟨Uh,rfl⟩ (by rw[Ui];ext) (by
   rintro j d M ρ ⟨o,rfl⟩;rw[Uu]at M;cases z:ms[j]? with
   |none=>rw[z]at M;cases M
   |some x=>rw[z]at M;cases UH M;obtain⟨r,tk,rl⟩:=gX x 60 (bB n).length (by decide) ell.2;exact⟨nd r,_,Je (ρ1:=[-(.int x),-(.list ((bB n).map dS))]) rfl rfl (dG (rv:=.fz (nd r)) (ds:=[.int x,nd 60,nd (bB n).length]) (am (af rfl) (am aO (am (dR (rv:=.fz (nd (bB n).length)) (am (af rfl) aL) rfl ((eU _).trans (by rw[Ui]))) aL))) rfl rfl tk) rfl rfl,⟨_,rfl⟩,r,rfl,rl⟩)
  obtain⟨row,rfl,rq⟩:=sU (f:=nd) (Q:=λ_ (a:Nat)=>a<(bB n).length) xs 0 c3;rw[Ui,Ui]at c2;have rl:row.length<=1000:=by ext
  refine dM (x:=.fz (.list (row.map nd))) (Z1:=Z5++[.dead]) (ρ1:=GL ns b (bB n) F A S g [lD (.rf j7),E,B,C,v,-(.list (row.map nd)),Uh,Uh,Uh]) (iw (dh (ds:=row.map nd) (eC (cs:=[.list ((bB n).map dS)]) (ds:=ms.map .int) (gm (d:=.list (ms.map .int)) (NO (rv:=.ow (ms.map .int)) (af rfl) (t8 aO rfl) (t8 aO rfl) rfl cu) rfl rfl) rfl c1)) (by rw[gl aQ,dZ])) rfl ?_;have K:(Z5++[Cell.dead])[g]?=lD (vp c N):=(Uy (Uk.mp ml5).1).trans ml5;generalize Z5++[Cell.dead]=Z6 at K;refine dM (ρ1:=GL ns b (bB n) F A S g [lD (.rf j7),E,B,C,v,-(.list (row.map nd)),-(nd (c 0)),Uh,Uh]) (ah aO) (by rw[c0];rfl) ?_;have gv:∀k∈row,∃e,(bB n)[k]?=lD e:=λk X=>by obtain⟨j,M⟩:=WO.mp X;exact⟨_,Us (rq j k M)⟩
  have cm:lB (d9 (gN 0) dc (aR bA (aa 1) (aa 0)) (row.map nd) [Uh,-(.list ((bB n).map dS))] [])=.ok (row.map λk=>dS (((bB n)[k]?).getD .turn)):=iM nd (λk=>dS (((bB n)[k]?).getD .turn)) row rl rfl λk X=>by obtain⟨e,w⟩:=gv k X;exact aN (rv:=.fz (dS (((bB n)[k]?).getD .turn))) (af rfl) (af rfl) rfl rfl (vq (by rw[Uu,w];rfl))
  have ee:row.map (λk=>dS (((bB n)[k]?).getD .turn))=(row.map λk=>((bB n)[k]?).getD .turn).map dS:=by rw[UZ];rfl
  rw[ee]at cm;have eve:∀e∈row.map (λk=>((bB n)[k]?).getD .turn),EV b e:=λe w=>by obtain⟨k,X,rfl⟩:=Vc.mp w;obtain⟨e,w⟩:=gv k X;rw[w];exact H e (UL w)
  have evk:∀i k,row[i]?=lD k->∃e,(bB n)[k]?=lD e/\(row.map λk=>((bB n)[k]?).getD .turn)[i]?=lD e:=λi k hi=>by obtain⟨e,w⟩:=gv k (UL hi);exact⟨e,w,by rw[Uu,hi];show lD (((bB n)[k]?).getD .turn)=_;rw[w];rfl⟩
  have agD:(row.map λk=>((bB n)[k]?).getD .turn).length=row.length:=Ui ..;generalize (row.map λk=>((bB n)[k]?).getD .turn)=evs at cm eve evk agD;have pq:=Sx I evs (by ext) eve;have zl:(kY (row.map nd) (AW (dL b gc evs).2)).length=row.length:=by rw[tK,Ui,GS,ul,agD,Nat.min_self]
  have z0:(b3 b (bB n) 0)[0]?=lD ⟨gc,.none,.none⟩:=rfl;refine kW (xw (λi ρ p=>∃(a:Nat) (r:Rm) (oe of:bg SV),a<N/\F[a]?=lD r/\r.s=(dL b gc (evs.take i)).1/\ρ=GL ns b (bB n) F A S g [lD (.rf j7),E,B,oe,v,-(.list (row.map nd)),-(nd (c a)),of,Uh]/\p=Z6) (ds:=kY (row.map nd) (AW (dL b gc evs).2)) (fE (sV (d:=.list (row.map nd)) (e:=.list (AW (dL b gc evs).2)) (am (af rfl) (am (aN (rv:=.fz (.list (AW (dL b gc evs).2))) (dG (rv:=.fz (.tuple [.list (AW (dL b gc evs).2),cM (dL b gc evs).1])) (ds:=[bD b,.list (evs.map dS)]) (am (af rfl) (am (eC (cs:=[.list ((bB n).map dS)]) (ds:=row.map nd) (gm (af rfl) rfl rfl) rfl cm) aL)) rfl rfl pq) aO rfl rfl jA) aL)) rfl rfl rfl)) ?_ ?_ ?_)
  .obtain⟨r,L,_⟩:=rm 0 h0;refine⟨0,r,C,Uh,h0,L,?_,rfl,rfl⟩;have p0:=o0 b (bB n) 0 N;rw[Vk,hF]at p0;obtain⟨u,hu⟩:=p0;rw[<-hu,Uy (Uk.mp z0).1,z0]at L;cases L;rw[Zh];rfl
  .rintro i d ρ p y ⟨a,r,oe,of,P,L,hs,rfl,rfl⟩;have il:=(Uk.mp y).1;rw[zl]at il;obtain⟨k,X⟩:∃k,row[i]?=lD k:=⟨_,Us il⟩;obtain⟨e,w,hv⟩:=evk i k X;obtain⟨r',hr',sw,dr,_,nx⟩:=rm a P;rw[L]at hr';cases hr';obtain⟨t,q,T,h2,h3,h4,_⟩:=nx k e w;obtain⟨n1,n2⟩:=yf b evs gc i e hv;rw[<-hs]at n1 n2;have ev:=H e (UL w);have so:=xi I sw ev;rw[tL,Uu,X,show(AW (dL b gc evs).2)[i]?=lD (.list ((aG b r.s e).2.map jy)) by unfold AW;rw[Uu,n2];rfl]at y;cases y;refine⟨GL ns b (bB n) F A S g [lD (.rf j7),E,B,-(.list ((aG b r.s e).2.map jy)),v,-(.list (row.map nd)),-(nd (c a)),-(nd k),Uh],p,rfl,?_⟩;have x2:=wr dr w;have y2:bA (.tuple (bQ ((iV b (bB n) a).map c))) (nd k)=-(nd (c t)):=Gk (by unfold bQ;rw[Uu,Uu,T];rfl);refine AZ (cy (cg (aN (rv:=.fz (.bool Uw)) (aN (rv:=.fz (.tuple ((aG b r.s e).2.map jy))) (aN (rv:=.fz (sA b (bB n) a)) (af rfl) (af rfl) rfl rfl (sd a P)) (af rfl) rfl rfl x2) (dR (rv:=.fz (.tuple ((aG b r.s e).2.map jy))) (am (af rfl) aL) rfl rfl) rfl rfl (STP.oX (Hg so))) rfl)) (yI ?_);exact yo (mq (ah (aN (rv:=.fz (nd (c t))) (aN (rv:=.fz (.tuple (bQ ((iV b (bB n) a).map c)))) (af rfl) (af rfl) rfl rfl (sp a P)) (af rfl) rfl rfl y2)) rfl) ⟨t,q,_,_,h2,h3,by rw[h4,n1],rfl,rfl⟩
  rintro Y p ⟨a,r,oe,of,_,_,_,rfl,rfl⟩;rw[oZ]at K;have ls:=gl (Z:=p++[.lst (((Ul N).map λi=>nd (c i)).map .fz)]) aQ;rw[dZ]at ls;have cb:kg t9 (aj (au 6) aH) (GL ns b (bB n) F A S g [lD (.rf j7),E,B,oe,v,-(.list (row.map nd)),-(nd (c a)),of,Uh]) p=.ok (.rf p.length) (p++[.lst (((Ul N).map λi=>nd (c i)).map .fz)]):=by unfold kg;rw[ao (a8 rfl) aK,eh];unfold FV aC aC;rw[dC K];rfl
  refine dM (ρ1:=GL ns b (bB n) F A S g [lD (.rf j7),E,B,oe,v,-(.list (row.map nd)),-(nd (c a)),of,-(.list ((Ul N).map λi=>nd (c i)))]) (iw cb ls) rfl ?_;refine tT (iY (Ph (a8 rfl) ((Uy (Uk.mp K).1).trans K))) ?_;obtain⟨t,Z8,e8,m8⟩:=st2 ((p++[Cell.dead]).set g (Cell.lst []));rw[oZ]at m8;have qn:ny (.list ((Ul N).map λi=>nd (c i)))=Um:=JV (by unfold Up.canLay0;exact xS λ_ _=>rfl) (by show Up.depthAll ((Ul N).map λi=>nd (c i))+1<=64;have:=mG (f:=λi=>nd (c i)) (n:=0) (l:=Ul N) λ_ _=>Ux _;ext);exact yM (dj (qQ (ao (ah (af rfl)) (ao (ah aO) aK)) rfl e8) (ah (af rfl)) (uv (dC m8) rfl (STP.K9 qn))) rfl
 obtain⟨x,p,T,rfl⟩:=key.all;unfold L10.RA;rw[show[Up.list (ns.map .int)].map SV.fz=[.fz (.list (ns.map .int))]from rfl,T]
end K43
local macro_rules| `(tactic|fail "sc")=> `(tactic|exact⟨rfl,rfl,rfl,by left,rfl,by left,by left⟩)| `(tactic|fail "me")=> `(tactic|first
 |exact .head _
 |(apply List.Mem.tail;fail "me"))
local macro_rules| `(tactic|fail "cm")=> `(tactic|first
 |change L3.oB
 |change L3.Cq
 |change L3.HB
 |change L3.Bp
 |change L3.HA
 |change L3.wZ
 |change L3.Lj
 |change L3.Lk
 |change L3.EE)
local macro_rules| `(tactic|fail "sp")=> `(tactic|first
 |fail "cm"
 |change L3.cJ
 |change L3.pd
 |change L3.M6
 |change L3.yL
 |change L3.ze
 |change L3.Ny
 |change L3.KY
 |change L3.Dp
 |change L3.Ea
 |change L3.LC
 |change L3.CJ
 |change L3.gA
 |change L3.eF
 |change L3.L7
 |change L3.wE
 |change L3.yl
 |change L3.Np
 |change L3.tq
 |change L3.Dq
 |change L3.sI
 |change L9.A6
 |change L10.Dw
 |change L3.yL)
local macro_rules| `(tactic|fail "eo")=> `(tactic|first
 |change L3.ar
 |change L3.bv
 |(exists L3.ck);(·fail "sp");(·fail "eo");(·fail "eo")
 |change L3.qV
 |(exists L3.kA);(·fail "ao")
 |(exists L3.gK);(·fail "sp");(·fail "ao")
 |(exists L3.yg);(·fail "ao")
 |(exists L3.kL);(·fail "ao")
 |(exists L3.HY);(·fail "eo")
 |change L3.tE
 |change L3.N8
 |(exists L3.Ox);(·fail "sp");(·fail "eo");(·fail "oo");(·fail "oo")
 |(exists L3.B8);(·simp);(·fail "eo")
 |(exists L3.A2);(·fail "eo");(·fail "eo")
 |(exists L3.II);(·fail "eo")
 |(exists L3.D9);(·fail "sp");(·fail "eo")
 |(exists L3.Cv);(·assumption))
local macro_rules| `(tactic|fail "ao")=> `(tactic|first
 |(exists L3.aD);(·fail "eo");(·fail "ao")
 |change L3.bc)
local macro_rules| `(tactic|fail "tt")=> `(tactic|first
 |(exists L3.jW);(exists L3.ck);(·fail "cm");(·fail "eo");(·fail "eo")
 |(exists L3.LF);(·fail "tt");(·fail "tt")
 |(exists L3.Qx);(·fail "tt");(·fail "tt")
 |(exists L3.Nu);(·fail "tt")
 |(exists L3.OB);(·fail "eo")
 |change L3.dX)
local macro_rules| `(tactic|fail "gg")=> `(tactic|first
 |change L3.bZ
 |(exists L3.yy);(·fail "gg");(·fail "gg")
 |change L3.J9
 |(exists L3.Gx);(·fail "gg")
 |change L10.aX
 |(exists L10.jf);(·fail "gg");(·fail "gg")
 |change L10.tm
 |(exists L10.sT);(·fail "gg"))
local macro_rules| `(tactic|fail "io")=> `(tactic|first
 |(exists L3.gC);(·fail "ao")
 |(exists L3.gy);(·fail "eo")
 |(exists L3.Bm);(·fail "ao")
 |(exists L10.gG);(·fail "io")
 |(exists L10.mF);(·fail "es"))
local macro_rules| `(tactic|fail "oo")=> `(tactic|first
 |(exists L3.uO);(·fail "eo"))
local macro_rules| `(tactic|fail "es")=> `(tactic|first
 |(exists L10.aq);(·fail "eo")
 |change L10.aF
 |(exists L10.zA);(·fail "es");(·fail "es")
 |(exists L10.gP);(·fail "sp");(·fail "es");(·fail "es")
 |(exists L10.bE);(·assumption);(·fail "me");(·fail "es")
 |(exists L10.qY);(·fail "as")
 |(exists L10.wf);(·fail "as")
 |(exists L10.D7);(·fail "as")
 |(exists L10.oY);(·fail "es");(·fail "es")
 |(exists L10.mW);(·fail "as")
 |(exists L10.dY);(·fail "es");(·fail "es")
 |(exists L10.yC);(·assumption);(·fail "es");(·fail "as")
 |(exists L10.yZ);(·fail "es")
 |(exists L10.yU);(·fail "es")
 |(exists L10.HQ);(·fail "es");(·fail "es")
 |(exists L10.Lz);(·fail "es");(·fail "es")
 |(exists L10.fV);(·fail "sp");(·fail "as")
 |(exists L10.kR);(·fail "es")
 |(exists L10.DA);(·fail "es");(·fail "es")
 |(exists L10.IC);(·fail "as")
 |(exists L10.O0);(·fail "ts");(·fail "es");(·fail "es")
 |(exists L10.KM);(·assumption);(·fail "as")
 |(exists L10.G2);(·fail "es"))
local macro_rules| `(tactic|fail "as")=> `(tactic|first
 |(exists L10.aA);(·fail "es");(·fail "as")
 |change L10.bu)
local macro_rules| `(tactic|fail "ts")=> `(tactic|first
 |(exists L10.fH);(exists L10.gP);(·fail "cm");(·fail "es");(·fail "es")
 |(exists L10.Hz);(·fail "tt")
 |(exists L10.NG);(·fail "ts");(·fail "ts")
 |(exists L10.B1);(·fail "ts");(·fail "ts")
 |(exists L10.Lg);(·fail "ts")
 |(exists L10.Ot);(·fail "es"))
local macro_rules| `(tactic|fail "so")=> `(tactic|first
 |(exists L3.eA);(·fail "so");(·fail "so")
 |(exists L3.oJ);(·fail "eo");(·fail "gg")
 |(exists L3.RH);(·fail "tt");(·fail "so");(·fail "so")
 |(exists L3.kZ);(·fail "eo")
 |(exists L3.C3);(·fail "eo")
 |change L3.KW
 |(exists L3.A7);(·fail "io");(·fail "gg");(·fail "so")
 |(exists L10.aJ);(·fail "so");(·fail "so")
 |(exists L10.cB);(·fail "es");(·fail "gg")
 |(exists L10.uh);(·fail "ts");(·fail "so");(·fail "so")
 |(exists L10.im);(·fail "es")
 |(exists L10.fq);(·fail "es")
 |(exists L10.GV);(·fail "es");(·fail "es");(·fail "es")
 |(exists L10.iO);(·assumption);(·fail "me");(·fail "es");(·fail "es")
 |change L10.lO
 |(exists L10.pG);(·fail "io");(·fail "gg");(·fail "so")
 |(exists L10.qK);(·fail "ts");(·fail "so")
 |change L10.Kb)
local macro_rules| `(tactic|fail "to")=> `(tactic|first
 |exact L2.bC
 |exact L2.nW (by assumption)
 |exact L2.BK (by assumption)
 |exact L3.xu (by assumption)
 |exact L3.Mv (by assumption)
 |exact L9.wS
 |exact L3.pc
 |exact L2.Qe
 |exact L2.Hk
 |exact L2.Ol
 |exact L3.CU
 |exact L2.QT
 |exact L2.GR
 |exact L2.Qa
 |exact L2.Ee
 |exact L2.Oz
 |exact L2.OQ
 |exact L2.Gy
 |exact L2.JO
 |exact L2.HC
 |exact L2.di
 |exact L2.bO
 |exact L2.yq
 |exact L3.rj
 |exact L2.gO
 |exact L10.vV
 |exact L2.yK
 |exact L3.Hu
 |exact L2.Dz
 |exact aff
 |exact L2.ju
 |exact L2.fK
 |exact L2.HN
 |exact L2.Aw
 |exact L2.Oi
 |exact L2.Ap
 |exact L2.CN
 |exact L10.Qw
 |exact L2.k6
 |change VJ
 |change V4
 |change V5
 |change PySem.F.slot_list_insert
 |change PySem.F.type_list_insert
 |change PySem.F.slot_list_extend
 |change PySem.F.type_list_extend
 |change Xl
 |change Yj
 |change aa2
 |exact L2.FY rfl
 |exact L3.oQ rfl
 |exact L10.u6 rfl
 |exact L10.uE rfl
 |exact L10.BN rfl
 |exact L10.mv rfl
 |rfl)
local macro_rules| `(tactic|fail "pe")=> `(tactic|first
 |(exists L2.pv);(·rfl);(·(first|exact a6 rfl|exact a7 (a6 rfl)|exact a7 (a7 rfl)));(·decide);(·decide)
 |change L2.bp
 |(exists L2.bV);(·fail "to");(·fail "pe");(·fail "pe");(·exact λ_ _=>rfl)
 |change L2.rb
 |(exists L2.pH);(·fail "to");(·fail "pe");(·fail "pe")
 |(exists L2.Ej);(·assumption);(·fail "pe");(·fail "pe");(·exact λ_ _=>rfl)
 |(exists L2.gQ);(·assumption);(·assumption);(·fail "pa");(·decide);(·rfl);(·decide);(·rfl);(·rfl)
 |(exists L2.kj);(·fail "pa")
 |change L2.nY
 |(exists L2.kG);(·fail "pa")
 |(exists L2.bG);(·fail "to");(·rfl);(·assumption);(·fail "to");(·fail "pa");(·decide);(·decide);(·rfl);(·rfl)
 |(exists L2.cU);(·fail "to");(·rfl);(·assumption);(·fail "to");(·fail "pa");(·decide);(·decide);(·rfl);(·rfl)
 |(exists L2.Es);(·rfl);(·assumption);(·(first|rfl|exact⟨_,rfl⟩));(·decide)
 |change L2.NV
 |(exists L2.jH);(·fail "to");(·fail "pe");(·fail "pe");(·(first|rfl|with_unfolding_all rfl))
 |(apply L2.b5);(·fail "pe");(·rfl)
 |(apply L2.vf);(·fail "to");(·fail "to");(·fail "to");(·fail "to");(·fail "pe");(·fail "pa");(·rfl);(·rfl);(·decide);(·rfl);(·rfl)
 |(exists L2.G1);(·fail "pt");(·fail "pe");(·fail "pe")
 |(apply L2.Bz);(·fail "to");(·fail "to");(·fail "to");(·fail "to");(·fail "pe");(·rfl);(·decide)
 |(exists L2.yu);(·fail "pe")
 |(exists L2.xo);(·fail "pe");(·fail "pe")
 |(exists L2.DJ);(·fail "to");(·fail "pe")
 |(exists L2.Kp);(·fail "pe")
 |(apply L2.Ay);(·fail "to");(·fail "pe");(·fail "po");(·fail "po")
 |(apply L2.J8);(·fail "pe");(·fail "pe");(·exact⟨rfl,rfl,rfl,rfl⟩)
 |(exists L2.xQ);(·rfl);(·assumption);(·fail "to");(·(first|rfl|exact⟨_,rfl⟩));(·decide);(·decide)
 |(apply L10.Db);(·assumption);(·fail "to");(·assumption);(·fail "pe");(·fail "pa");(·decide);(·rfl);(·rfl);(·rfl)
 |(apply L10.Kl);(·assumption);(·fail "to");(·assumption);(·fail "pe");(·decide);(·rfl)
 |(apply L10.Eg);(·assumption);(·fail "to");(·assumption);(·fail "pa");(·decide);(·rfl);(·decide);(·rfl);(·rfl)
 |(apply L10.Dl);(·rfl);(·rfl);(·assumption);(·fail "pa");(·rfl))
local macro_rules| `(tactic|fail "pa")=> `(tactic|first
 |(exists L2.ai);(·fail "pe");(·fail "pa");(·rfl)
 |change L2.ay)
local macro_rules| `(tactic|fail "pt")=> `(tactic|first
 |(exists L2.gZ);(·fail "to");(·fail "pe");(·fail "pe");(·(first|rfl|with_unfolding_all rfl))
 |(exists L2.Ps);(·fail "pt")
 |(exists L2.J5);(·fail "pc");(·(first|rfl|with_unfolding_all rfl))
 |(exists L2.PW.pt);(·fail "pw")
 |(exists L2.JL);(·fail "pe");(·(intro _;rfl)))
local macro_rules| `(tactic|fail "pw")=> `(tactic|first
 |(exists L2.MV);(·fail "pt")
 |(exists L2.QB);(·fail "pt");(·fail "pw")
 |(exists L2.BG);(·fail "pt")
 |(exists L2.JI);(·fail "pt");(·fail "pw"))
local macro_rules| `(tactic|fail "pc")=> `(tactic|first
 |(exists L2.ON);(·assumption);(·fail "pe");(·fail "pe"))
local macro_rules| `(tactic|fail "pg")=> `(tactic|first
 |(exists L2.bt);(·(first|assumption|left));(·rfl);(·(first|exact a6 rfl|exact a7 rfl|assumption|rfl));(·(first|exact a6 rfl|exact a7 rfl|assumption|rfl))
 |(exists L2.gw);(·fail "pg");(·fail "pg");(·rfl)
 |change L2.pJ
 |(apply L2.t7);(·rfl);(·fail "pg");(·rfl);(·rfl))
local macro_rules| `(tactic|fail "pi")=> `(tactic|first
 |(exists L2.df);(·rfl);(·assumption);(·fail "pa");(·rfl)
 |(apply L3.Bf);(·rfl);(·assumption);(·fail "pa");(·rfl);(·rfl)
 |(apply L3.eD);(·fail "pe"))
local macro_rules| `(tactic|fail "po")=> `(tactic|first
 |(exists L2.xj);(·fail "pe"))
local macro_rules| `(tactic|fail "te")=> `(tactic|first
 |(exists L2.aW);(·fail "te")
 |change L2.pI
 |(exists L2.aw);(·fail "te");(·fail "te")
 |(exists L2.cZ);(·(first|assumption|left));(·rfl);(·(first|exact a6 rfl|exact a7 rfl|assumption|rfl));(·fail "pe");(·rfl);(·(first|exact a6 rfl|exact a7 rfl|assumption|rfl))
 |(exists L2.g9);(·fail "pe");(·rfl)
 |(exists L2.de);(·fail "pe")
 |(exists L2.Ar);(·fail "pt");(·fail "te");(·fail "te")
 |(exists L2.nZ);(·fail "to");(·rfl);(·fail "pi");(·fail "pg");(·fail "te");(·(intro _;rfl))
 |(apply L2.kM);(·fail "pe");(·fail "pe");(·rfl)
 |(exists L2.Lb);(·assumption);(·fail "pe");(·fail "pe");(·fail "pe");(·rfl)
 |(exists L2.Iq);(·fail "pe");(·fail "pg");(·rfl);(·rfl);(·rfl)
 |change L2.Lr
 |(exists L2.uJ);(·fail "to");(·fail "pt");(·fail "te"))
local macro_rules| `(tactic|fail "ok")=> `(tactic|(intros;refine L3.zw (by fail "so") ?_;first|(apply L2.aw);(·fail "te");(·fail "te")|(apply L2.aW);(·fail "te")))| `(tactic|fail "os")=> `(tactic|(intros;refine L3.Gj (by fail "so") ?_;first|(apply L2.aw);(·fail "te");(·fail "te")|(apply L2.aW);(·fail "te")))
namespace K43
open PySem L2 L3 STP
def top(i:Nat):Ws:=PySem.Challenge.pw_chordbed_k43_whole_the_machine_sends_the.main.body.getD i (.Pass ⟨0,0,0,0⟩)
def fb:Ws->bb Ws
 |.For _ _ b _ _=>b
 |.If _ b _ _=>b
 |_=>[]
def ss:Vq->Vq
 |.Subscript _ v _=>v
 |e=>e
def lp:Vq->Pos
 |.List _ p=>p
 |_=>⟨0,0,0,0⟩
def fI:Ws->Vq
 |.For _ i _ _ _=>i
 |_=>.Name "" ⟨0,0,0,0⟩
def nP:Ws->Pos
 |.Assign [.Name _ p] _ _=>p
 |_=>⟨0,0,0,0⟩
def sv:Vq->Vq
 |.Subscript v _ _=>v
 |e=>e
def le:Vq->bb Vq
 |.List l _=>l
 |_=>[]
def bl:Vq->Vq
 |.BinOp a _ _ _=>a
 |e=>e
def dK:Vq->bb (bg Vq)
 |.Dict k _ _=>k
 |_=>[]
def dV:Vq->bb Vq
 |.Dict _ v _=>v
 |_=>[]
section
variable{P:US}{w:Vb}{K:Ld}{mg:Str->bg Uj}{base:Heap}{f:Uq}{fd:Vz}
theorem yS(F:Xn K "layer_of" "layer_of" (top 8) f fd)(h:mg "max"=Uh):FnOk P w K mg base d4 1 f fd ["standing"] (pT K 1 eB):=pf (N:=["standing"]) (g:=om) F (by fail "sc") rfl rfl rfl λm A a s H E nd l e b j=>Gj (eA (by fail "so")
   (kZ (gK L10.Dw (aD (eE rfl rfl (gy (ck cJ ar bv)) (Gx (yy bZ (yy bZ J9))) (jW (ck oB (ck cJ ar bv) qV)) (ck cJ ar bv)) bc)))) (aw (by fail "te")
   (aW (de (L10.Dl rfl rfl h (ai (c8 ["key","act"] [] rfl (eD (bV bC (pv 0) bp (λ_ _=>rfl))) (λ_ _ _ _=>(t7 rfl (gw (bt (i:=0) (show Vg (["key","act"]:bb Str) by left) rfl (a6 rfl)) (gw (bt (i:=1) (show Vg (["key","act"]:bb Str) by left) rfl (a6 rfl)) pJ)))) (λ_ _ _ _=>(ui (gZ (nW e) (bV bC (pv 1) bp (λ_ _=>rfl)) rb (gS _)))) (λ_ _ _ _=>(bV bC (pv 1) bp (λ_ _=>rfl))) trivial rfl) ay)))))
theorem xV(F:Xn K "looked_up" "looked_up" (top 12) f fd):FnOk P w K mg base d4 1 f fd ["bed","layer","key"] (pT K 3 jE):=pf (N:=["bed","layer","key","meaning"]) (g:=lM) F (by fail "sc") rfl rfl rfl λj A a s H E nd i h b e=>Gj (eA (by fail "so")
   (eA (by fail "so")
   (kZ ar))) (aw (by fail "te")
   (aw (by fail "te")
   (aW (de (pv 3)))))
theorem tY(F:Xn K "chords_over" "chords_over" (top 13) f fd)(h:mg "all"=Uh):FnOk P w K mg base d4 1 f fd ["bed","keys"] (pT K 2 bN):=pf (N:=["bed","keys"]) (g:=jK) F (by fail "sc") rfl rfl rfl λm A a s H E nd l j e b=>Gj (kZ (eE rfl rfl (gy (ck cJ ar bv)) bZ (OB (gK yl (aD (eE rfl rfl (gy ar) bZ dX (ck wZ ar (ck cJ ar bv))) bc))) ar)) (aW (de (c8 ["chord"] [("keys",1)] rfl (eD (bV bC (pv 0) bp (λ_ _=>rfl))) (λ_ _ _ _=>(bt (i:=0) (show Vg (["chord","keys"]:bb Str) by left) rfl (a7 rfl))) (λ_ _ _ _=>(ui (JL (bG (oQ rfl) rfl h CN (ai (c8 ["key"] [("chord",0)] rfl (eD (pv 1)) (λ_ _ _ _=>(bt (i:=0) (show Vg (["key","chord"]:bb Str) by left) rfl (a6 rfl))) (λ_ _ _ _=>bU) (λ_ _ _ _=>(jH (xu b) (pv 0) (bV bC (pv 1) bp (λ_ _=>rfl)) (by with_unfolding_all rfl))) ⟨⟨rfl,rfl,a6 rfl⟩,trivial⟩ rfl) ay))))) (λ_ _ _ _=>(pv 0)) ⟨⟨rfl,rfl,a6 rfl⟩,trivial⟩ rfl)))
theorem vJ(F:Xn K "chord_acts" "chord_acts" (top 14) f fd)(o:mg "list"=Uh)(p:mg "sorted"=Uh)(q:mg "len"=Uh){b:Uq}(h:mg "NONE"=lD (.ref b))(j:∀O H,DV O K H (.ref b) (.tuple [(.str "none")])):FnOk P w K mg base d4 1 f fd ["bed","keys"] (pT K 2 gx):=pf (N:=["bed","keys","chord"]) (g:=k7) F (by fail "sc") rfl rfl rfl λr A a s H E nd n m e l=>Gj (eA (by fail "so")
   (kZ (eE rfl rfl (gy ar) bZ dX (ck cJ (ck cJ (ck cJ ar bv) bv) ar)))) (aw (by fail "te")
   (aW (de (c8 ["key"] [("bed",0)] rfl (eD (pv 1)) (λ_ _ _ _=>(bt (i:=0) (show Vg (["key","bed"]:bb Str) by left) rfl (a6 rfl))) (λ_ _ _ _=>bU) (λ_ _ _ _=>(bV bC (bV bC (bV bC (pv 1) bp (λ_ _=>rfl)) bp (λ_ _=>rfl)) (pv 0) (λ_ _=>rfl))) ⟨⟨rfl,rfl,a6 rfl⟩,trivial⟩ rfl))))
theorem w6(F:Xn K "_law_cell" "_law_cell" (top 26) f fd)(j:mg "len"=Uh):FnOk P w K mg base d4 1 f fd ["_law_script","_law_k"] (pT K 2 cw):=pf (N:=["_law_script","_law_k"]) (g:=rN) F (by fail "sc") rfl rfl rfl λl A a s H E nd i h b e=>Gj (eA (by fail "so")
   (kZ bv)) (aw (by fail "te")
   (aW (de bp)))
theorem w9(F:Xn K "_law_take" "_law_take" (top 27) f fd)(a:mg "range"=Uh):FnOk P w K mg base d4 1 f fd ["_law_cell_here","_law_salt","_law_many"] (pT K 3 aU):=pf (N:=["_law_cell_here","_law_salt","_law_many","_law_turn","_law_number"]) (g:=ip) F (by fail "sc") rfl rfl rfl (by delta ip;fail "os")
theorem uH(F:Xn K "_law_letter" "_law_letter" (top 28) f fd)(h:iz P w K mg base 1 "_law_take" ["_law_cell_here","_law_salt","_law_many"] 3 aU):FnOk P w K mg base d4 2 f fd ["_law_cell_here","_law_salt"] (pT K 2 dD):=pf (N:=["_law_cell_here","_law_salt"]) (g:=nv) F (by fail "sc") rfl rfl rfl λl A a s H E nd e j b i=>Gj (kZ (ck yL qV (kA (aD ar (aD ar (aD bv bc)))))) (aW (de (bV bC rb (gQ h e (ai (pv 0) (ai (pv 1) (ai bp ay)))) (λ_ _=>rfl))))
theorem sC(F:Xn K "_law_meaning" "_law_meaning" (top 29) f fd)(e:iz P w K mg base 1 "_law_take" ["_law_cell_here","_law_salt","_law_many"] 3 aU)(a:iz P w K mg base 2 "_law_letter" ["_law_cell_here","_law_salt"] 2 dD)(b:mg "max"=Uh):FnOk P w K mg base d4 3 f fd ["_law_cell_here","_law_layer","_law_many"] (pT K 3 eW):=pf (N:=["_law_cell_here","_law_layer","_law_many","_law_way","_law_level"]) (g:=eV) F (by fail "sc") rfl rfl rfl (by delta eV;fail "os")
theorem tZ(F:Xn K "_law_chords" "_law_chords" (top 30) f fd)(q:iz P w K mg base 1 "_law_take" ["_law_cell_here","_law_salt","_law_many"] 3 aU)(e:mg "range"=Uh)(m:mg "tuple"=Uh)(l:mg "len"=Uh)(j:mg "all"=Uh):FnOk P w K mg base d4 2 f fd ["_law_cell_here","_law_keys_here","_law_first"] (pT K 3 hJ):=pf (N:=["_law_cell_here","_law_keys_here","_law_first","_law_found","_law_mask","_law_some","_law_good"]) (g:=g7) F (by fail "sc") rfl rfl rfl λp A a s H E nd o b h n=>Gj (eA (by fail "so")
   (eA (A7 (gC (aD (ck CJ bv ar) bc)) bZ (eA (oJ (gK eF (aD (eE rfl rfl (gC (aD ar bc)) bZ (jW (ck oB (ck Dp (ck Ea ar ar) bv) bv)) ar) bc)) bZ)
   (eA (oJ (A2 (ck Bp (gK gA (aD ar bc)) bv) (gK yl (aD (eE rfl rfl (gy ar) bZ dX (ck oB (ck cJ (ck cJ ar ar) bv) qV)) bc))) bZ)
   (by fail "so"))))
   (by fail "so"))) (aw (by fail "te")
   (aw (nZ XI.never rfl (df rfl e (ai (pH HC bp (pv 1)) ay)) (bt (i:=4) nd rfl (a7 rfl)) (aw (cZ (i:=5) nd rfl (a6 rfl) (cU bO rfl m fK (ai (c8 ["_law_key"] [("_law_mask",4)] rfl (df rfl e (ai (pv 1) ay)) (λ_ _ _ _=>(bt (i:=0) (show Vg (["_law_key","_law_mask"]:bb Str) by left) rfl (a6 rfl))) (λ_ _ _ _=>(ui (gZ (nW b) (pH JO (pH Gy (pv 1) (pv 0)) bp) bp (gS _)))) (λ_ _ _ _=>(pv 0)) ⟨⟨rfl,rfl,a6 rfl⟩,trivial⟩ rfl) ay)))
   (aw (cZ (i:=6) nd rfl (a6 rfl) (xo (jH Hk (bG di rfl l ju (ai (pv 5) ay)) bp (gS _)) (yu (bG (oQ rfl) rfl j CN (ai (c8 ["_law_key"] [("_law_first",2)] rfl (eD (pv 5)) (λ_ _ _ _=>(bt (i:=0) (show Vg (["_law_key","_law_first"]:bb Str) by left) rfl (a6 rfl))) (λ_ _ _ _=>bU) (λ_ _ _ _=>(jH (nW b) (bV bC (bV bC (pv 1) (pv 0) (λ_ _=>rfl)) bp (λ_ _=>rfl)) rb (gS _))) ⟨⟨rfl,rfl,a6 rfl⟩,trivial⟩ rfl) ay)))))
   (aW (by fail "te")))))
   (aW (by fail "te"))))
theorem zC(F:Xn K "_law_bed" "_law_bed" (top 31) f fd)(l:iz P w K mg base 1 "_law_cell" ["_law_script","_law_k"] 2 cw)(r:iz P w K mg base 1 "_law_take" ["_law_cell_here","_law_salt","_law_many"] 3 aU)(j:iz P w K mg base 3 "_law_meaning" ["_law_cell_here","_law_layer","_law_many"] 3 eW)(p:iz P w K mg base 2 "_law_chords" ["_law_cell_here","_law_keys_here","_law_first"] 3 hJ)(e:mg "range"=Uh)(m:mg "tuple"=Uh):FnOk P w K mg base d4 4 f fd ["_law_script","_law_at","_law_keys_here"] (pT K 3 kP):=pf (N:=["_law_script","_law_at","_law_keys_here","_law_cell_here","_law_many","_law_layers","_law_layer","_law_cells","_law_chords_here"]) (g:=kX) F (by fail "sc") rfl rfl rfl λq A a s H E nd b o h n=>Gj (eA (by fail "so")
   (eA (by fail "so")
   (eA (oJ (kL bc) bZ)
   (eA (A7 (gC (aD ar bc)) bZ (eA (oJ (eE rfl rfl (gC (aD ar bc)) bZ dX (kA (aD ar (aD (ck pd (ck pd (ck pd ar bv) (ck ze ar ar)) ar) bc)))) bZ)
   (C3 (HY (gK eF (aD (eE rfl rfl (gy ar) bZ dX (kA (aD ar (aD ar (aD ar bc))))) bc))))))
   (eA (by fail "so")
   (by fail "so")))))) (aw (by fail "te")
   (aw (by fail "te")
   (aw (cZ (i:=5) nd rfl (a6 rfl) (kG ay))
   (aw (nZ XI.never rfl (df rfl e (ai (pv 4) ay)) (bt (i:=6) nd rfl (a7 rfl)) (aw (mH (i:=7) ["_law_key"] [("_law_script",0),("_law_at",1),("_law_keys_here",2),("_law_layer",6)] nd rfl rfl rfl (df rfl e (ai (pv 2) ay)) (λ_ _ _ _=>(bt (i:=0) (show Vg (["_law_key","_law_script","_law_at","_law_keys_here","_law_layer"]:bb Str) by left) rfl (a6 rfl))) (λ_ _ _ _=>bU) (λ_ _ _ _=>(gQ l b (ai (pv 1) (ai (pH pc (pH pc (pH pc (pv 2) bp) (pH CU (pv 3) (pv 4))) (pv 0)) ay)))) ⟨⟨rfl,rfl,a6 rfl⟩,⟨⟨rfl,rfl,a6 rfl⟩,⟨⟨rfl,rfl,a6 rfl⟩,⟨⟨rfl,rfl,a6 rfl⟩,trivial⟩⟩⟩⟩ rfl)
   (aW (g9 (vf VJ V4 V5 gO (pv 5) (ai (cU bO rfl m fK (ai (c8 ["_law_one"] [("_law_layer",6),("_law_many",4)] rfl (eD (pv 7)) (λ_ _ _ _=>(bt (i:=0) (show Vg (["_law_one","_law_layer","_law_many"]:bb Str) by left) rfl (a6 rfl))) (λ_ _ _ _=>bU) (λ_ _ _ _=>(gQ j b (ai (pv 0) (ai (pv 1) (ai (pv 2) ay))))) ⟨⟨rfl,rfl,a6 rfl⟩,⟨⟨rfl,rfl,a6 rfl⟩,trivial⟩⟩ rfl) ay)) ay))))))
   (aw (by fail "te")
   (aW (by fail "te")))))))
theorem xc(F:Xn K "_law_keys" "_law_keys" (top 32) f fd)(h:iz P w K mg base 1 "_law_cell" ["_law_script","_law_k"] 2 cw)(i:iz P w K mg base 1 "_law_take" ["_law_cell_here","_law_salt","_law_many"] 3 aU):FnOk P w K mg base d4 2 f fd ["_law_script"] (pT K 1 jI):=pf (N:=["_law_script"]) (g:=rJ) F (by fail "sc") rfl rfl rfl λm A a s H E nd b l e j=>Gj (kZ (ck cJ (kL (aD bv (aD bv (aD bv (aD bv bc))))) (kA (aD (kA (aD ar (aD bv bc))) (aD bv (aD bv bc)))))) (aW (de (bV bC (kG (ai bp (ai bp (ai bp (ai bp ay))))) (gQ i b (ai (gQ h b (ai (pv 0) (ai bp ay))) (ai bp (ai bp ay)))) (λ_ _=>rfl))))
theorem yi(F:Xn K "events_of" "events_of" (top 16) f fd)(b:mg "range"=Uh):FnOk P w K mg base d4 1 f fd ["bed"] (pT K 1 ig):=pf (N:=["bed","downs","ups"]) (g:=mi) F (by fail "sc") rfl rfl rfl λm A a s H E nd l j e h=>Gj (eA (oJ (eE rfl rfl (gC (aD (ck cJ ar bv) bc)) bZ dX (yg (aD qV (aD ar bc)))) bZ)
   (eA (oJ (eE rfl rfl (gC (aD (ck cJ ar bv) bc)) bZ dX (yg (aD qV (aD ar bc)))) bZ)
   (by fail "so"))) (aw (mH (i:=1) ["key"] [] nd rfl rfl rfl (df rfl b (ai (bV bC (pv 0) bp (λ_ _=>rfl)) ay)) (λ_ _ _ _=>(bt (i:=0) (show Vg (["key"]:bb Str) by left) rfl (a6 rfl))) (λ_ _ _ _=>bU) (λ_ _ _ _=>(kj (ai rb (ai (pv 0) ay)))) trivial rfl)
   (aw (mH (i:=2) ["key"] [] nd rfl rfl rfl (df rfl b (ai (bV bC (pv 0) bp (λ_ _=>rfl)) ay)) (λ_ _ _ _=>(bt (i:=0) (show Vg (["key"]:bb Str) by left) rfl (a6 rfl))) (λ_ _ _ _=>bU) (λ_ _ _ _=>(kj (ai rb (ai (pv 0) ay)))) trivial rfl)
   (aW (by fail "te"))))
theorem u7(F:Xn K "_law_events" "_law_events" (top 33) f fd)(a:mg "range"=Uh):FnOk P w K mg base d4 1 f fd ["_law_bed_here"] (pT K 1 hW):=pf (N:=["_law_bed_here","_law_found","_law_word","_law_key"]) (g:=g6) F (by fail "sc") rfl rfl rfl (by delta g6;fail "os")
theorem vQ(F:Xn K "_law_marks" "_law_marks" (top 35) f fd)(h:mg "isinstance"=Uh)(p:mg "list"=Uh)(q:mg "len"=Uh)(l:mg "all"=Uh)(b:mg "int"=Uh)(e:mg "bool"=Uh):FnOk P w K mg base d4 1 f fd ["_law_found","_law_many"] (pT K 2 iK):=pf (N:=["_law_found","_law_many"]) (g:=km) F (by fail "sc") rfl rfl rfl λr A a s H E nd o n j m=>Gj (eA (by fail "so")
   (kZ (gK yl (aD (eE rfl rfl (gy ar) bZ dX (A2 (B8 (by simp) ar) (II (B8 (by simp) ar)))) bc)))) (aw (by fail "te")
   (aW (de (bG (oQ rfl) rfl l CN (ai (c8 ["_law_mark"] [] rfl (eD (pv 0)) (λ_ _ _ _=>(bt (i:=0) (show Vg (["_law_mark"]:bb Str) by left) rfl (a6 rfl))) (λ_ _ _ _=>bU) (λ_ _ _ _=>(xo (bG rj rfl h k6 (ai (pv 0) (ai (xQ (v:=.ty "int") rfl b Oi rfl) ay))) (yu (Kp (bG rj rfl h k6 (ai (pv 0) (ai (xQ (v:=.ty "bool") rfl e P6 rfl) ay))))))) trivial rfl) ay)))))
end
end K43
namespace K43
open PySem L2 L3 L10 STP
section
variable{P:US}{w:Vb}{K:Ld}{mg:Str->bg Uj}{base:Heap}{f:Uq}{fd:Vz}
theorem rp(F:Xn K "__init__" "Hand.__init__" (bf (top 11) 0) f fd)(h:gz K "Hand" ["bed","acts","waiting","once","sent"])(e:mg "dict"=Uh):FnOk P w K mg base d4 3 f fd ["self","bed","standing"] (dg K 3 eK):=kQ (N:=["self","bed","standing"]) (g:=lr) F (by fail "sc") rfl rfl rfl λm A a s H E nd l j b i=>zw (aJ (iO h (.head _) aF (aq ar))
   (aJ (by fail "so")
   (aJ (by fail "so")
   (aJ (by fail "so")
   (by fail "so"))))) (aw (kM (pv 0) (pv 1) rfl)
   (aw (by fail "te")
   (aw (by fail "te")
   (aw (by fail "te")
   (aW (by fail "te"))))))
theorem t6(F:Xn K "stands" "Hand.stands" (bf (top 11) 1) f fd)(a:gz K "Hand" ["bed","acts","waiting","once","sent"])(j:mg "tuple"=Uh)(h:mg "sorted"=Uh):FnOk P w K mg base d4 3 f fd ["self"] (dg K 1 bL):=kQ (N:=["self"]) (g:=nV) F (by fail "sc") rfl rfl rfl λo A b s H E nd n m e l=>zw (fq (mW (aA (fV eF (aA (gB rfl rfl (mF (yU (bE a (.tail _ (.head _)) aF))) aX fD (mW (aA (aq ar) (aA (zA (bE a (.tail _ (.head _)) aF) (aq ar)) bu)))) bu)) (aA (bE a (.tail _ (.tail _ (.head _))) aF) (aA (bE a (.tail _ (.tail _ (.tail _ (.head _)))) aF) bu))))) (aW (de (kj (ai (cU bO rfl j fK (ai (c8 ["key"] [("self",0)] rfl (eD (bG (uE rfl) rfl h Ap (ai (b5 (pv 0) rfl) ay))) (λ_ _ _ _=>(bt (i:=0) (show Vg (["key","self"]:bb Str) by left) rfl (a6 rfl))) (λ_ _ _ _=>bU) (λ_ _ _ _=>(kj (ai (pv 0) (ai (Ej e (b5 (pv 1) rfl) (pv 0) (λ_ _=>rfl)) ay)))) ⟨⟨rfl,rfl,a6 rfl⟩,trivial⟩ rfl) ay)) (ai (b5 (pv 0) rfl) (ai (b5 (pv 0) rfl) ay))))))
theorem oE(F:Xn K "is_waiting" "Hand.is_waiting" (bf (top 11) 2) f fd)(b:gz K "Hand" ["bed","acts","waiting","once","sent"]):FnOk P w K mg base d4 3 f fd ["self","key"] (dg K 2 ci):=kQ (N:=["self","key"]) (g:=jC) F (by fail "sc") rfl rfl rfl λl A a s H E nd j i h e=>zw (fq (DA (gP EE (bE b (.tail _ (.tail _ (.head _))) aF) (aq tE)) (gP wZ (aq ar) (dY (bE b (.tail _ (.tail _ (.head _))) aF) (aq bv))))) (aW (de (xo (jH Ee (b5 (pv 0) rfl) nY (gS _)) (yu (jH (xu e) (pv 1) (bV bC (b5 (pv 0) rfl) bp (λ_ _=>rfl)) (by with_unfolding_all rfl))))))
theorem sg(F:Xn K "has_act" "Hand.has_act" (bf (top 11) 13) f fd)(i:gz K "Hand" ["bed","acts","waiting","once","sent"])(h:mg "list"=Uh):FnOk P w K mg base d4 3 f fd ["self","act"] (dg K 2 bX):=kQ (N:=["self","act"]) (g:=lR) F (by fail "sc") rfl rfl rfl λm A a s H E nd l j e b=>zw (fq (gP wZ (aq ar) (yZ (bE i (.tail _ (.head _)) aF)))) (aW (de (jH (xu b) (pv 1) (cU (u6 rfl) rfl h HN (ai (Bz Xl Yj aa2 vV (b5 (pv 0) rfl)) ay)) (by with_unfolding_all rfl))))
theorem xL(F:Xn K "come" "Hand.come" (bf (top 11) 11) f fd)(b:gz K "Hand" ["bed","acts","waiting","once","sent"])(a:b7 P w K mg base d4 3 "Hand" "has_act" ["self","act"] (dg K 2 bX)):FnOk P w K mg base d4 4 f fd ["self","key","act"] (dg K 3 bF):=kQ (N:=["self","key","act"]) (g:=lW) F (by fail "sc") rfl rfl rfl (by delta lW;fail "ok")
theorem Cw(F:Xn K "go" "Hand.go" (bf (top 11) 12) f fd)(b:gz K "Hand" ["bed","acts","waiting","once","sent"])(a:b7 P w K mg base d4 3 "Hand" "has_act" ["self","act"] (dg K 2 bX)):FnOk P w K mg base d4 4 f fd ["self","key"] (dg K 2 j6):=kQ (N:=["self","key","act"]) (g:=qE) F (by fail "sc") rfl rfl rfl (by delta qE;fail "ok")
theorem u8(F:Xn K "decide" "Hand.decide" (bf (top 11) 10) f fd)(i:gz K "Hand" ["bed","acts","waiting","once","sent"])(q:b7 P w K mg base d4 4 "Hand" "come" ["self","key","act"] (dg K 3 bF))(n:iz P w K mg base 1 "chord_acts" ["bed","keys"] 2 gx)(h:mg "zip"=Uh){b:Uq}(o:mg "CHORD"=lD (.ref b))(p:∀O H,L3.DV O K H (.ref b) (.tuple [(.str "chord")])):FnOk P w K mg base d4 5 f fd ["self"] (dg K 1 b6):=kQ (N:=["self","keys","what","acts","key","act"]) (g:=nO) F (by fail "sc") rfl rfl rfl λr A a s H E nd m l e j=>zw (aJ (by fail "so")
   (aJ (by fail "so")
   (aJ (iO i (.tail _ (.tail _ (.head _))) aF (aq tE))
   (aJ (by fail "so")
   (by fail "so"))))) (aw (by fail "te")
   (aw (by fail "te")
   (aw (kM (pv 0) nY rfl)
   (aw (by fail "te")
   (aW (by fail "te"))))))
theorem na(F:Xn K "makes_chord" "Hand.makes_chord" (bf (top 11) 4) f fd)(l:gz K "Hand" ["bed","acts","waiting","once","sent"])(i:b7 P w K mg base d4 3 "Hand" "stands" ["self"] (dg K 1 bL))(b:iz P w K mg base 1 "layer_of" ["standing"] 1 eB)(j:iz P w K mg base 1 "chords_over" ["bed","keys"] 2 bN){a:Uq}(e:mg "CHORD"=lD (.ref a))(h:∀O H,L3.DV O K H (.ref a) (.tuple [(.str "chord")])):FnOk P w K mg base d4 4 f fd ["self","key"] (dg K 2 ef):=kQ (N:=["self","key"]) (g:=fR) F (by fail "sc") rfl rfl rfl (by delta fR;fail "ok")
theorem l6(F:Xn K "put_to_chord" "Hand.put_to_chord" (bf (top 11) 5) f fd)(j:gz K "Hand" ["bed","acts","waiting","once","sent"])(o:b7 P w K mg base d4 5 "Hand" "decide" ["self"] (dg K 1 b6))(n:iz P w K mg base 1 "chords_over" ["bed","keys"] 2 bN)(h:mg "len"=Uh){e:Uq}(q:mg "CHORD"=lD (.ref e))(r:∀O H,L3.DV O K H (.ref e) (.tuple [(.str "chord")])):FnOk P w K mg base d4 6 f fd ["self","key"] (dg K 2 dJ):=kQ (N:=["self","key","keys"]) (g:=iG) F (by fail "sc") rfl rfl rfl λt A a s H E nd b m l p=>zw (aJ (by fail "so")
   (aJ (by fail "so")
   (uh (fH (gP oB (gB rfl rfl (mF (D7 (aA (bE j (.head _) aF) (aA (aq ar) bu)))) aX fD (aq (gK gA (aD (ck cJ ar bv) bc)))) (aq (kL (aD (gK gA (aD ar bc)) bc))))) (im (yC j aF bu)) lO))) (aw (by fail "te")
   (aw (by fail "te")
   (aW (Ar (gZ (nW m) (c8 ["chord"] [] rfl (eD (gQ n b (ai (b5 (pv 0) rfl) (ai (pv 2) ay)))) (λ_ _ _ _=>(bt (i:=0) (show Vg (["chord"]:bb Str) by left) rfl (a6 rfl))) (λ_ _ _ _=>bU) (λ_ _ _ _=>(bG di rfl h ju (ai (bV bC (pv 0) bp (λ_ _=>rfl)) ay))) trivial rfl) (kG (ai (bG di rfl h ju (ai (pv 2) ay)) ay)) (gS _)) (aW (g9 (Kl o Dz b (pv 0)))) pI))))
theorem vK(F:Xn K "begin" "Hand.begin" (bf (top 11) 6) f fd)(q:gz K "Hand" ["bed","acts","waiting","once","sent"])(n:b7 P w K mg base d4 3 "Hand" "stands" ["self"] (dg K 1 bL))(p:b7 P w K mg base d4 4 "Hand" "come" ["self","key","act"] (dg K 3 bF))(j:iz P w K mg base 1 "layer_of" ["standing"] 1 eB)(i:iz P w K mg base 1 "looked_up" ["bed","layer","key"] 3 jE)(o:iz P w K mg base 1 "chords_over" ["bed","keys"] 2 bN){b:Uq}(l:mg "CHORD"=lD (.ref b))(m:∀O H,L3.DV O K H (.ref b) (.tuple [(.str "chord")])){a:Uq}(e:mg "NONE"=lD (.ref a))(h:∀O H,L3.DV O K H (.ref a) (.tuple [(.str "none")])):FnOk P w K mg base d4 5 f fd ["self","key"] (dg K 2 gH):=kQ (N:=["self","key","layer","meaning","word"]) (g:=kz) F (by fail "sc") rfl rfl rfl (by delta kz;fail "ok")
theorem vI(F:Xn K "press" "Hand.press" (bf (top 11) 3) f fd)(i:gz K "Hand" ["bed","acts","waiting","once","sent"])(h:b7 P w K mg base d4 3 "Hand" "is_waiting" ["self","key"] (dg K 2 ci))(e:b7 P w K mg base d4 4 "Hand" "makes_chord" ["self","key"] (dg K 2 ef))(b:b7 P w K mg base d4 6 "Hand" "put_to_chord" ["self","key"] (dg K 2 dJ))(j:b7 P w K mg base d4 5 "Hand" "decide" ["self"] (dg K 1 b6))(a:b7 P w K mg base d4 5 "Hand" "begin" ["self","key"] (dg K 2 gH)):FnOk P w K mg base d4 7 f fd ["self","key"] (dg K 2 iX):=kQ (N:=["self","key"]) (g:=kF) F (by fail "sc") rfl rfl rfl (by delta kF;fail "ok")
theorem uo(F:Xn K "settle" "Hand.settle" (bf (top 11) 8) f fd)(i:gz K "Hand" ["bed","acts","waiting","once","sent"])(j:b7 P w K mg base d4 5 "Hand" "decide" ["self"] (dg K 1 b6))(h:b7 P w K mg base d4 4 "Hand" "come" ["self","key","act"] (dg K 3 bF)){a:Uq}(b:mg "CHORD"=lD (.ref a))(e:∀O H,L3.DV O K H (.ref a) (.tuple [(.str "chord")])):FnOk P w K mg base d4 6 f fd ["self","key"] (dg K 2 g8):=kQ (N:=["self","key","what"]) (g:=jL) F (by fail "sc") rfl rfl rfl (by delta jL;fail "ok")
theorem xZ(F:Xn K "lift" "Hand.lift" (bf (top 11) 7) f fd)(h:gz K "Hand" ["bed","acts","waiting","once","sent"])(e:b7 P w K mg base d4 3 "Hand" "is_waiting" ["self","key"] (dg K 2 ci))(b:b7 P w K mg base d4 6 "Hand" "settle" ["self","key"] (dg K 2 g8))(a:b7 P w K mg base d4 4 "Hand" "go" ["self","key"] (dg K 2 j6)):FnOk P w K mg base d4 7 f fd ["self","key"] (dg K 2 jD):=kQ (N:=["self","key"]) (g:=lK) F (by fail "sc") rfl rfl rfl (by delta lK;fail "ok")
theorem sD(F:Xn K "wait_on" "Hand.wait_on" (bf (top 11) 9) f fd)(a:gz K "Hand" ["bed","acts","waiting","once","sent"])(b:b7 P w K mg base d4 5 "Hand" "decide" ["self"] (dg K 1 b6)):FnOk P w K mg base d4 6 f fd ["self"] (dg K 1 gD):=kQ (N:=["self","age"]) (g:=ji) F (by fail "sc") rfl rfl rfl (by delta ji;fail "ok")
theorem KK(F:Xn K "step" "step" (top 9) f fd)(j:gz K "Hand" ["bed","acts","waiting","once","sent"])(a:ub P w K mg base d4 3 "Hand" ["self","bed","standing"] (dg K 3 eK))(h:b7 P w K mg base d4 6 "Hand" "wait_on" ["self"] (dg K 1 gD))(b:b7 P w K mg base d4 7 "Hand" "press" ["self","key"] (dg K 2 iX))(e:b7 P w K mg base d4 7 "Hand" "lift" ["self","key"] (dg K 2 jD))(i:b7 P w K mg base d4 3 "Hand" "stands" ["self"] (dg K 1 bL)):FnOk P w K mg base d4 8 f fd ["bed","standing","event"] (dg K 3 STP.gR):=kQ (N:=["bed","standing","event","hand"]) (g:=Ba) F (by fail "sc") rfl rfl rfl (by delta Ba;fail "ok")
theorem Mg(F:Xn K "play" "play" (top 10) f fd)(b:JE P w K mg base 8 "step" ["bed","standing","event"] 3 STP.gR){a:Uq}(h:mg "AT_REST"=lD (.ref a))(e:∀O H,L3.DV O K H (.ref a) (.tuple [(.tuple []),.none,.none])):FnOk P w K mg base d4 9 f fd ["bed","events"] (dg K 2 yj):=kQ (N:=["bed","events","standing","all_sent","event","answer"]) (g:=yG) F (by fail "sc") rfl rfl rfl (by delta yG;fail "ok")
theorem sB(F:Xn K "enter" "Places.enter" (bf (top 19) 1) f fd)(a:gz K "Places" ["most","found","numbers"]){h p e:Uq}{b:Vz}{u:Obj}(l:L9.XC K h p e)(z:K.lookup e=lD u)(v:W0 K (.ref e)=Um)(o:FnOk P w K mg base d4 1 e b ["self","most"] (L9.yp h "most"))(y:Binds K b ["self","most"] [])(n:UP K UK "TooMany"=lD (lD (.ref h)))(m:mg "TooMany"=lD (.ref h))(q:mg "len"=Uh):FnOk P w K mg base (L4.jb P w) 3 f fd ["self","place","back","event"] (dg K 4 bW):=EB (N:=["self","place","back","event"]) (g:=dU) F (by fail "sc") rfl rfl rfl λC A i s H E nd t j r B=>zw (aJ (uh (Ot (IE (aq ar) (bE a (.tail _ (.tail _ (.head _))) aF))) (aJ (uh (fH (gP HA (fV gA (aA (bE a (.tail _ (.head _)) aF) bu)) (bE a (.head _) aF))) (Cl n (bE a (.head _) aF)) lO)
   (aJ (wF (bE a (.tail _ (.tail _ (.head _))) aF) (aq ar) (fV gA (aA (bE a (.tail _ (.head _)) aF) bu)))
   (im (oY (bE a (.tail _ (.head _)) aF) (aq (yg (aD ar (aD ar (aD ar bc))))))))) lO)
   (fq (wj (bE a (.tail _ (.tail _ (.head _))) aF) (aq ar)))) (aw (Ar (J5 (LD.adD j (pv 1) (b5 (pv 0) rfl)) (by with_unfolding_all rfl)) (aw (Ar (gZ Oz (bG di rfl q ju (ai (b5 (pv 0) rfl) ay)) (b5 (pv 0) rfl) (gS _)) (aW (L9.F0 l z v o y (t.mono (by decide)) rfl m (ai (b5 (pv 0) rfl) ay))) pI)
   (aw (LD.abV j (b5 (pv 0) rfl) (pv 1) (bG di rfl q ju (ai (b5 (pv 0) rfl) ay)) rfl)
   (aW (g9 (vf VJ V4 V5 gO (b5 (pv 0) rfl) (ai (kj (ai (pv 1) (ai (pv 2) (ai (pv 3) ay)))) ay)))))) pI)
   (aW (de (LD.ab1 j (b5 (pv 0) rfl) (pv 1) (λ_ _=>rfl)))))
theorem oG(F:Xn K "__init__" "Places.__init__" (bf (top 19) 0) f fd)(a:gz K "Places" ["most","found","numbers"])(i:b7 P w K mg base (L4.jb P w) 3 "Places" "enter" ["self","place","back","event"] (dg K 4 bW)):FnOk P w K mg base (L4.jb P w) 4 f fd ["self","first","most"] (dg K 3 dA):=EB (N:=["self","first","most"]) (g:=dm) F (by fail "sc") rfl rfl rfl λm A b s H E nd h l e j=>zw (aJ (iO a (.head _) aF (aq ar))
   (aJ (iO a (.tail _ (.head _)) aF (aq (kL bc)))
   (aJ (iO a (.tail _ (.tail _ (.head _))) aF qU)
   (im (HZ a aF (aA (aq ar) (aA (aq tE) (aA (aq tE) bu)))))))) (aw (kM (pv 0) (pv 2) rfl)
   (aw (kM (pv 0) (kG ay) rfl)
   (aw (kM (pv 0) LD.aaM rfl)
   (aW (g9 (Db i L4.j4 h (pv 0) (ai (pv 1) (ai nY (ai nY ay)))))))))
theorem F7(F:Xn K "walked" "walked" (top 18) f fd)(a:gz K "Places" ["most","found","numbers"])(j:ub P w K mg base (L4.jb P w) 4 "Places" ["self","first","most"] (dg K 3 dA))(u:b7 P w K mg base (L4.jb P w) 3 "Places" "enter" ["self","place","back","event"] (dg K 4 bW))(p:JE P w K mg base 8 "step" ["bed","standing","event"] 3 STP.gR)(t:iz P w K mg base 1 "events_of" ["bed"] 1 ig)(l:mg "len"=Uh)(m:mg "tuple"=Uh)(h:mg "zip"=Uh){n:Uq}(r:mg "AT_REST"=lD (.ref n))(q:∀O H,L3.DV O K H (.ref n) (.tuple [(.tuple []),.none,.none])):FnOk P w K mg base (L4.jb P w) 9 f fd ["bed","most"] (dg K 2 ic):=EB (N:=["bed","most","events","places","steps","sends","room","standing","answers"]) (g:=ut) F (by fail "sc") rfl rfl rfl λB A e s H E nd b z o y=>zw (aJ (cB (kR (aq (kA (aD ar bc)))) aX)
   (aJ (cB (BB a (aA (aq (Cv q)) (aA (aq ar) bu))) aX)
   (aJ (cB (aq (kL bc)) aX)
   (aJ (cB (aq (kL bc)) aX)
   (aJ (qK (fH (gP HB (fV gA (aA aF bu)) (fV gA (aA (bE a (.tail _ (.head _)) aF) bu)))) (aJ (cB (fV gA (aA aF bu)) aX)
   (aJ (cB (dY (dY (bE a (.tail _ (.head _)) aF) (aq ar)) (aq bv)) aX)
   (aJ (cB (kR (gB rfl rfl (gG (gy ar)) aX fD (wf (aA (aq ar) (aA (aq ar) (aA (aq ar) bu)))))) aX)
   (aJ (im (oY aF (fV eF (aA (Fy rfl rfl (gG (Bm (aD ar (aD ar bc)))) (sT (jf aX (jf aX tm))) fD (HZ a aF (aA (aq (ck cJ ar bv)) (aA (aq ar) (aA (aq ar) bu))))) bu))))
   (im (oY aF (aq (gK eF (aD (eE rfl rfl (gy ar) bZ dX (gK eF (aD (ck cJ ar bv) bc))) bc))))))))))
   (fq (mW (aA (bE a (.tail _ (.head _)) aF) (aA aF (aA aF bu)))))))))) (aw (cZ (i:=2) nd rfl (a6 rfl) (gQ t b (ai (pv 0) ay)))
   (aw (cZ (i:=3) nd rfl (a7 rfl) (Eg j L4.j4 b (ai (Es (v:=.ref _) rfl r rfl) (ai (pv 1) ay))))
   (aw (cZ (i:=4) nd rfl (a6 rfl) (kG ay))
   (aw (cZ (i:=5) nd rfl (a6 rfl) (kG ay))
   (aw (uJ XI.leaving (gZ Ol (bG di rfl l ju (ai (pv 4) ay)) (bG di rfl l ju (ai (b5 (pv 3) rfl) ay)) (gS _)) (aw (cZ (i:=6) nd rfl (a7 rfl) (bG di rfl l ju (ai (pv 4) ay)))
   (aw (cZ (i:=7) nd rfl (a7 rfl) (bV bC (bV bC (b5 (pv 3) rfl) (pv 6) (λ_ _=>rfl)) bp (λ_ _=>rfl)))
   (aw (mH (i:=8) ["event"] [("bed",0),("standing",7)] nd rfl rfl rfl (eD (pv 2)) (λ_ _ _ _=>(bt (i:=0) (show Vg (["event","bed","standing"]:bb Str) by left) rfl (a6 rfl))) (λ_ _ _ _=>bU) (λ_ _ _ _=>(gQ p b (ai (pv 1) (ai (pv 2) (ai (pv 0) ay))))) ⟨⟨rfl,rfl,a6 rfl⟩,⟨⟨rfl,rfl,a6 rfl⟩,trivial⟩⟩ rfl)
   (aw (g9 (vf VJ V4 V5 gO (pv 4) (ai (cU bO rfl m fK (ai (GZ ["event","answer"] [("places",3),("room",6)] ⟨rfl,rfl⟩ rfl rfl L4.M4 rfl (Bf rfl h (ai (pv 2) (ai (pv 8) ay))) (λ_ _ _ _=>(t7 rfl (gw (bt (i:=0) (show Vg (["event","answer","places","room"]:bb Str) by left) rfl (a6 rfl)) (gw (bt (i:=1) (show Vg (["event","answer","places","room"]:bb Str) by left) rfl (a6 rfl)) pJ)))) (λ_ _ _ _=>bU) (λ_ _ _ _=>(Db u L4.Ii b (pv 2) (ai (bV bC (pv 1) bp (λ_ _=>rfl)) (ai (pv 3) (ai (pv 0) ay))))) ⟨⟨rfl,rfl,a6 rfl⟩,⟨⟨rfl,rfl,a6 rfl⟩,trivial⟩⟩ rfl) ay)) ay)))
   (aW (g9 (vf VJ V4 V5 gO (pv 5) (ai (cU bO rfl m fK (ai (c8 ["answer"] [] rfl (eD (pv 8)) (λ_ _ _ _=>(bt (i:=0) (show Vg (["answer"]:bb Str) by left) rfl (a6 rfl))) (λ_ _ _ _=>bU) (λ_ _ _ _=>(cU bO rfl m fK (ai (bV bC (pv 0) bp (λ_ _=>rfl)) ay))) trivial rfl) ay)) ay)))))))))
   (aW (de (kj (ai (b5 (pv 3) rfl) (ai (pv 4) (ai (pv 5) ay)))))))))))
theorem Kk{j:Uq}{b:Array Uj}(F:aaN K "rooms" "rooms" (top 17) f fd j b)(i:qL P w K mg base (L4.jb P w) 9 "walked" ["bed","most"] [] (dg K 2 ic)):FnOk P w K mg base (L4.jb P w) 10 f fd ["bed","most"] (dg K 2 eP):=Cz (N:=["bed","most"]) (g:=xN) F (by fail "sc") rfl rfl rfl λn A a s H E nd h m e l=>zw (fq (dY (wA (λ_ _=>.nil) (aA (aq ar) (aA (aq ar) bu))) (aq bv))) (aW (de (bV bC (mL i h L4.j4 (ai (pv 0) (ai (pv 1) ay))) bp (λ_ _=>rfl))))
theorem yW(F:Xn K "numbered" "numbered" (top 24) f fd)(h:mg "len"=Uh):FnOk P w K mg base d4 3 f fd ["marks"] (dg K 1 ez):=kQ (N:=["marks","numbers"]) (g:=oy) F (by fail "sc") rfl rfl rfl λm A a s H E nd l e b j=>zw (aJ (cB qU aX)
   (fq (gB rfl rfl (mF aF) aX fD (Hj aF (aq ar) (FH aF))))) (aw (cZ (i:=1) nd rfl (a7 rfl) LD.aaM)
   (aW (de (c8 ["mark"] [("numbers",1)] rfl (eD (pv 0)) (λ_ _ _ _=>(bt (i:=0) (show Vg (["mark","numbers"]:bb Str) by left) rfl (a6 rfl))) (λ_ _ _ _=>bU) (λ_ _ _ _=>(LD.aeE e (pv 1) (pv 0) (bG LD.acC rfl h ju (ai (pv 1) ay)) ⟨rfl,rfl,rfl,rfl⟩)) ⟨⟨rfl,rfl,a6 rfl⟩,trivial⟩ rfl))))
theorem nX(F:Xn K "mark_of" "Sorting.mark_of" (bf (top 23) 1) f fd)(e:gz K "Sorting" ["steps","sends","rounds"])(h:mg "tuple"=Uh):FnOk P w K mg base d4 3 f fd ["self","room"] (dg K 2 bJ):=kQ (N:=["self","room","alike"]) (g:=jF) F (by fail "sc") rfl rfl rfl λn A a s H E nd m l b j=>zw (aJ (by fail "so")
   (fq (mW (aA (dY aF (aq ar)) (aA (fV eF (aA (gB rfl rfl (mF (dY (bE e (.head _) aF) (aq ar))) aX fD (dY aF (aq ar))) bu)) bu))))) (aw (by fail "te")
   (aW (de (kj (ai (bV bC (pv 2) (pv 1) (λ_ _=>rfl)) (ai (cU bO rfl h fK (ai (c8 ["there"] [("alike",2)] rfl (eD (bV bC (b5 (pv 0) rfl) (pv 1) (λ_ _=>rfl))) (λ_ _ _ _=>(bt (i:=0) (show Vg (["there","alike"]:bb Str) by left) rfl (a6 rfl))) (λ_ _ _ _=>bU) (λ_ _ _ _=>(bV bC (pv 1) (pv 0) (λ_ _=>rfl))) ⟨⟨rfl,rfl,a6 rfl⟩,trivial⟩ rfl) ay)) ay))))))
theorem nu(F:Xn K "__init__" "Sorting.__init__" (bf (top 23) 0) f fd)(a:gz K "Sorting" ["steps","sends","rounds"])(o:qL P w K mg base (L4.jb P w) 9 "walked" ["bed","most"] [] (dg K 2 ic))(n:b7 P w K mg base d4 3 "Sorting" "mark_of" ["self","room"] (dg K 2 bJ))(j:JE P w K mg base 3 "numbered" ["marks"] 1 ez)(h:mg "max"=Uh)(q:mg "range"=Uh)(p:mg "len"=Uh):FnOk P w K mg base (L4.jb P w) 10 f fd ["self","bed","most"] (dg K 3 bq):=EB (N:=["self","bed","most","walk","finer"]) (g:=jr) F (by fail "sc") rfl rfl rfl λt A e s H E nd b m l r=>zw (aJ (cB (kR (wA (λ_ _=>.nil) (aA (aq ar) (aA (aq ar) bu)))) aX)
   (aJ (iO a (.head _) aF (aq (ck cJ ar bv)))
   (aJ (iO a (.tail _ (.head _)) aF (aq (ck cJ ar bv)))
   (aJ (iO a (.tail _ (.tail _ (.head _))) aF (aq (kL bc)))
   (aJ (cB (qY (aA (bE a (.tail _ (.head _)) aF) bu)) aX)
   (qK (B1 (fH (gP oB (bE a (.tail _ (.tail _ (.head _))) aF) (aq (kL bc)))) (fH (gP Bp (fV tq (aA aF bu)) (fV tq (aA (dY (bE a (.tail _ (.tail _ (.head _))) aF) (aq (D9 sI bv))) bu))))) (aJ (im (oY (bE a (.tail _ (.tail _ (.head _))) aF) aF))
   (cB (qY (aA (gB rfl rfl (JZ (fV gA (aA (bE a (.head _) aF) bu))) aX fD (yC a aF (aA (aq ar) bu))) bu)) aX)))))))) (aw (cZ (i:=3) nd rfl (a6 rfl) (mL o b L4.j4 (ai (pv 1) (ai (pv 2) ay))))
   (aw (kM (pv 0) (bV bC (pv 3) bp (λ_ _=>rfl)) rfl)
   (aw (kM (pv 0) (bV bC (pv 3) bp (λ_ _=>rfl)) rfl)
   (aw (kM (pv 0) (kG ay) rfl)
   (aw (cZ (i:=4) nd rfl (a6 rfl) (gQ j b (ai (b5 (pv 0) rfl) ay)))
   (aW (uJ XI.leaving (PW.pt (JI (gZ (nW m) (b5 (pv 0) rfl) (kG ay) (gS _)) (BG (gZ Hk (bG (mv rfl) rfl h Aw (ai (pv 4) ay)) (bG (mv rfl) rfl h Aw (ai (bV bC (b5 (pv 0) rfl) (DJ yK bp) (λ_ _=>rfl)) ay)) (gS _))))) (aw (g9 (vf VJ V4 V5 gO (b5 (pv 0) rfl) (ai (pv 4) ay)))
   (aW (cZ (i:=4) nd rfl (a6 rfl) (gQ j b (ai (c8 ["room"] [("self",0)] rfl (df rfl q (ai (bG di rfl p ju (ai (b5 (pv 0) rfl) ay)) ay)) (λ_ _ _ _=>(bt (i:=0) (show Vg (["room","self"]:bb Str) by left) rfl (a6 rfl))) (λ_ _ _ _=>bU) (λ_ _ _ _=>(Db n Dz b (pv 1) (ai (pv 0) ay))) ⟨⟨rfl,rfl,a6 rfl⟩,trivial⟩ rfl) ay))))))))))))
theorem Cu{p:Uq}{e:Array Uj}(F:aaN K "machine" "machine" (top 21) f fd p e)(a:gz K "Sorting" ["steps","sends","rounds"])(n:ub P w K mg base (L4.jb P w) 10 "Sorting" ["self","bed","most"] (dg K 3 bq))(o:mg "range"=Uh)(m:mg "max"=Uh)(h:mg "tuple"=Uh):FnOk P w K mg base (L4.jb P w) 12 f fd ["bed","most"] (dg K 2 iZ):=Cz (N:=["bed","most","sorting","state_of","firsts","steps"]) (g:=wM) F (by fail "sc") rfl rfl rfl λt A b s H E nd l r j q=>zw (aJ (cB (BB a (aA (aq ar) (aA (aq ar) bu))) aX)
   (aJ (cB (kR (dY (bE a (.tail _ (.tail _ (.head _))) aF) (aq (D9 sI bv)))) aX)
   (aJ (cB (kR (aq (eE rfl rfl (gC (aD (ck pd (gK L10.tq (aD ar bc)) bv) bc)) bZ dX (L10.QW ar)))) aX)
   (aJ (cB (fV eF (aA (gB rfl rfl (gG (gy ar)) aX fD (fV eF (aA (gB rfl rfl (mF (dY (bE a (.head _) aF) (aq ar))) aX fD (aq (ck cJ ar ar))) bu))) bu)) aX)
   (fq (mW (aA (aq ar) (aA (fV eF (aA (gB rfl rfl (gG (gy ar)) aX fD (dY (bE a (.tail _ (.head _)) aF) (aq ar))) bu)) bu)))))))) (aw (cZ (i:=2) nd rfl (a7 rfl) (Eg n L4.j4 l (ai (pv 0) (ai (pv 1) ay))))
   (aw (cZ (i:=3) nd rfl (a7 rfl) (bV bC (b5 (pv 2) rfl) (DJ yK bp) (λ_ _=>rfl)))
   (aw (mH (i:=4) ["state"] [("state_of",3)] nd rfl rfl rfl (df rfl o (ai (pH pc (bG (L10.mv rfl) rfl m Aw (ai (pv 3) ay)) bp) ay)) (λ_ _ _ _=>(bt (i:=0) (show Vg (["state","state_of"]:bb Str) by left) rfl (a6 rfl))) (λ_ _ _ _=>bU) (λ_ _ _ _=>(vf VJ aa7 PySem.F.type_list_index L10.FX (pv 1) (ai (pv 0) ay))) ⟨⟨rfl,rfl,a6 rfl⟩,trivial⟩ rfl)
   (aw (cZ (i:=5) nd rfl (a6 rfl) (cU bO rfl h fK (ai (c8 ["first"] [("sorting",2),("state_of",3)] rfl (eD (pv 4)) (λ_ _ _ _=>(bt (i:=0) (show Vg (["first","sorting","state_of"]:bb Str) by left) rfl (a6 rfl))) (λ_ _ _ _=>bU) (λ_ _ _ _=>(cU bO rfl h fK (ai (c8 ["room"] [("state_of",2)] rfl (eD (bV bC (b5 (pv 1) rfl) (pv 0) (λ_ _=>rfl))) (λ_ _ _ _=>(bt (i:=0) (show Vg (["room","state_of"]:bb Str) by left) rfl (a6 rfl))) (λ_ _ _ _=>bU) (λ_ _ _ _=>(bV bC (pv 1) (pv 0) (λ_ _=>rfl))) ⟨⟨rfl,rfl,a6 rfl⟩,trivial⟩ rfl) ay))) ⟨⟨rfl,rfl,a6 rfl⟩,⟨⟨rfl,rfl,a6 rfl⟩,trivial⟩⟩ rfl) ay)))
   (aW (de (kj (ai (pv 5) (ai (cU bO rfl h fK (ai (c8 ["first"] [("sorting",2)] rfl (eD (pv 4)) (λ_ _ _ _=>(bt (i:=0) (show Vg (["first","sorting"]:bb Str) by left) rfl (a6 rfl))) (λ_ _ _ _=>bU) (λ_ _ _ _=>(bV bC (b5 (pv 1) rfl) (pv 0) (λ_ _=>rfl))) ⟨⟨rfl,rfl,a6 rfl⟩,trivial⟩ rfl) ay)) ay)))))))))
theorem ER{l:Uq}{b:Array Uj}(F:aaN K "states" "states" (top 22) f fd l b)(e:gz K "Sorting" ["steps","sends","rounds"])(j:ub P w K mg base (L4.jb P w) 10 "Sorting" ["self","bed","most"] (dg K 3 bq)):FnOk P w K mg base (L4.jb P w) 12 f fd ["bed","most"] (dg K 2 jj):=Cz (N:=["bed","most"]) (g:=Af) F (by fail "sc") rfl rfl rfl λo A a s H E nd i n h m=>zw (fq (dY (bE e (.tail _ (.tail _ (.head _))) (BB e (aA (aq ar) (aA (aq ar) bu)))) (aq (D9 sI bv)))) (aW (de (bV bC (b5 (Eg j L4.j4 i (ai (pv 0) (ai (pv 1) ay))) rfl) (DJ yK bp) (λ_ _=>rfl))))
theorem Qg(F:Xn K "law" "law" (top 36) f fd)(r:qL P w K mg base (L4.jb P w) 12 "machine" ["bed","most"] [] (dg K 2 iZ))(n:qL P w K mg base (L4.jb P w) 12 "states" ["bed","most"] [] (dg K 2 jj))(C:JE P w K mg base 12 "_law_rooms" ["_law_bed_here"] 1 cO)(y:JE P w K mg base 8 "step" ["bed","standing","event"] 3 STP.gR)(p:iz P w K mg base 2 "_law_keys" ["_law_script"] 1 jI)(q:iz P w K mg base 4 "_law_bed" ["_law_script","_law_at","_law_keys_here"] 3 kP)(z:iz P w K mg base 1 "_law_events" ["_law_bed_here"] 1 hW)(B:iz P w K mg base 1 "_law_marks" ["_law_found","_law_many"] 2 iK)(u:iz P w K mg base 1 "_law_take" ["_law_cell_here","_law_salt","_law_many"] 3 aU)(j:iz P w K mg base 9 "play" ["bed","events"] 2 tS)(e:mg "len"=Uh)(m:mg "range"=Uh)(t:mg "tuple"=Uh)(l:mg "zip"=Uh)(G:mg "list"=Uh):FnOk P w K mg base d4 13 f fd ["_law_script"] (dg K 1 F_law):=kQ (N:=["_law_script","_law_bed_here","_law_events_here","_law_some","_law_steps","_law_sends","_law_marks_here","_law_known","_law_at","_law_k","_law_sent","_law_behind","_law_row","_law_here","_law_number","_law_kept"]) (g:=OJ) F (by fail "sc") rfl rfl rfl λI A h s H E nd b a o v=>zw (aJ (by fail "so")
   (aJ (by fail "so")
   (aJ (by fail "so")
   (aJ (by fail "so")
   (aJ (cB (oz (λ_ _=>.nil) (aA (aq ar) (aA (aq bv) bu))) (sT (jf aX (jf aX tm))))
   (aJ (cB (oz (λ_ _=>.nil) (aA (aq ar) (aA (aq bv) bu))) aX)
   (aJ (by fail "so")
   (aJ (cB qU aX)
   (aJ (pG (gG (gC (aD (gK gA (aD ar bc)) bc))) aX (wF aF (aq (ck cJ (ck cJ ar ar) bv)) (dY aF (aq ar))))
   (aJ (pG (gG (gC (aD (gK gA (aD ar bc)) bc))) aX (pG (gG (gC (aD (gK gA (aD ar bc)) bc))) aX (aJ (by fail "so")
   (uh (B1 (fH (gP Cq (dY (dY (aq ar) (dY aF (aq ar))) (aq ar)) (aq (gK eF (aD ar bc))))) (fH (gP Cq (dY (dY (aq ar) (dY aF (aq ar))) (aq ar)) (wj aF (aq ar))))) (fq (aq N8)) lO))))
   (aJ (cB (kR (aq (eE rfl rfl (gy (Ox Dq ar (uO bv) (uO bv))) bZ dX (kA (aD ar (aD bv (aD (gK gA (aD ar bc)) bc))))))) aX)
   (aJ (cB (aq bv) aX)
   (aJ (pG (gG (Bm (aD ar (aD (ck cJ (kA (aD ar (aD (eE rfl rfl (gy ar) bZ dX (ck cJ ar ar)) bc))) bv) bc)))) (sT (jf aX (jf aX tm))) (aJ (by fail "so")
   (by fail "so")))
   (aJ (by fail "so")
   (aJ (im (Nq aF))
   (fq (gP oB (oz (λ_ _=>.nil) (aA (aq ar) (aA (aq bv) bu))) (aq ar)))))))))))))))))) (aw (by fail "te")
   (aw (by fail "te")
   (aw (by fail "te")
   (aw (by fail "te")
   (aw (Iq (mL r b Bq (ai (pv 1) (ai bp ay))) (t7 rfl (gw (bt (i:=4) nd rfl (a6 rfl)) (gw (bt (i:=5) nd rfl (a6 rfl)) pJ))))
   (aw (cZ (i:=6) nd rfl (a6 rfl) (mL n b Bq (ai (pv 1) (ai bp ay))))
   (aw (by fail "te")
   (aw (cZ (i:=7) nd rfl (a6 rfl) LD.aaM)
   (aw (nZ XI.never rfl (df rfl m (ai (bG di rfl e ju (ai (pv 3) ay)) ay)) (bt (i:=8) nd rfl (a6 rfl)) (aW (LD.abV a (pv 7) (bV bC (bV bC (pv 3) (pv 8) (λ_ _=>rfl)) bp (λ_ _=>rfl)) (bV bC (pv 6) (pv 8) (λ_ _=>rfl)) rfl)))
   (aw (nZ XI.never rfl (df rfl m (ai (bG di rfl e ju (ai (pv 3) ay)) ay)) (bt (i:=8) nd rfl (a6 rfl)) (aW (nZ XI.never rfl (df rfl m (ai (bG di rfl e ju (ai (pv 2) ay)) ay)) (bt (i:=9) nd rfl (a6 rfl)) (aw (by fail "te")
   (aW (Ar (PW.pt (JI (gZ (BK a) (bV bC (bV bC (pv 5) (bV bC (pv 6) (pv 8) (λ_ _=>rfl)) (λ_ _=>rfl)) (pv 9) (λ_ _=>rfl)) (cU bO rfl t fK (ai (pv 10) ay)) (gS _)) (BG (gZ (BK a) (bV bC (bV bC (pv 4) (bV bC (pv 6) (pv 8) (λ_ _=>rfl)) (λ_ _=>rfl)) (pv 9) (λ_ _=>rfl)) (LD.ab1 a (pv 7) (pv 11) (λ_ _=>rfl)) (gS _))))) (aW (de NV)) pI))))))
   (aw (mH (i:=12) ["_law_cell_here"] [("_law_events_here",2)] nd rfl rfl rfl (eD (Ay Hu (pv 0) (xj bp) (xj bp))) (λ_ _ _ _=>(bt (i:=0) (show Vg (["_law_cell_here","_law_events_here"]:bb Str) by left) rfl (a6 rfl))) (λ_ _ _ _=>bU) (λ_ _ _ _=>(gQ u b (ai (pv 0) (ai bp (ai (bG di rfl e ju (ai (pv 1) ay)) ay))))) ⟨⟨rfl,rfl,a6 rfl⟩,trivial⟩ rfl)
   (aw (cZ (i:=13) nd rfl (a6 rfl) bp)
   (aw (nZ XI.never rfl (Bf rfl l (ai (pv 12) (ai (bV bC (gQ j b (ai (pv 1) (ai (c8 ["_law_k"] [("_law_events_here",2)] rfl (eD (pv 12)) (λ_ _ _ _=>(bt (i:=0) (show Vg (["_law_k","_law_events_here"]:bb Str) by left) rfl (a6 rfl))) (λ_ _ _ _=>bU) (λ_ _ _ _=>(bV bC (pv 1) (pv 0) (λ_ _=>rfl))) ⟨⟨rfl,rfl,a6 rfl⟩,trivial⟩ rfl) ay))) bp (λ_ _=>rfl)) ay))) (t7 rfl (gw (bt (i:=14) nd rfl (a6 rfl)) (gw (bt (i:=10) nd rfl (a6 rfl)) pJ))) (aw (by fail "te")
   (aW (by fail "te"))))
   (aw (by fail "te")
   (aw (g9 (Bz VJ PySem.F.slot_list_clear PySem.F.type_list_clear Kd (pv 6)))
   (aW (de (jH (nW a) (mL n b Bq (ai (pv 1) (ai bp ay))) (pv 15) (gS _)))))))))))))))))))
end
end K43
namespace L2
open PySem PySem.Spec PyProof.Rows
section
variable{Z:St}{H:Hp}{Q:VK}{D:Ends}
theorem K5{K:Ld}{e b:TE}{f:Str}(h:b Z H λy H1=>e Z H1 λx H2=>∃a C dx fs,x=.ref a/\H2 a=lD (.ins C dx fs)/\Cls K C/\Yk K C f/\fs.length<1000/\D.nx Z (bM H2 a (.ins C dx (jQ f y fs)))):Q1 K e b f D Z H:=h
theorem Pn{c:TT}{t u:TE}(h:c Z H λb H1=>if b=Um then t Z H1 Q else u Z H1 Q):S8 c t u Z H Q:=h
theorem Qd{K:Ld}{b:TE}{f:Str}(h:b Z H λx H1=>∃a C dx fs v,x=.ref a/\H1 a=lD (.ins C dx fs)/\Cls K C/\Yk K C f/\fs.lookup f=lD v/\Q v H1):Pt K b f Z H Q:=h
theorem Ln{C:Uq}{m:Str}{sp:Sp}{E:XK}{b:TE}{t:TA}(h:b Z H λx H1=>∃a dx fs,x=.ref a/\H1 a=lD (.ins C dx fs)/\fs.lookup m=Uh/\t Z H1 λvs H2=>sp (x::(vs++[])) H2 Q E):wR C m sp [] E b t Z H Q:=h
theorem MX{C:Uq}{sp:Sp}{E:XK}{t:TA}(h:t Z H λvs H1=>∀x dx,H1 x=Uh->H1 dx=Uh->dx≠x->sp (.ref x::(vs++[])) (bM (bM H1 dx (.own x)) x (.ins C dx [])) (λv H2=>v=.WA/\Q (.ref x) H2) E):Aj C sp [] E t Z H Q:=h
end
end L2
local macro_rules| `(tactic|fail "gh")=> `(tactic|repeat (first
 |specialize L2.Qz ?_
 |specialize L2.OT ?_
 |specialize L2.K5 ?_
 |specialize L2.Pn ?_
 |specialize L2.Qd ?_
 |specialize L2.Ln ?_
 |specialize L2.MX ?_
 |specialize L2.Li ?_
 |((with_reducible show L2.zO _ _ _ _);refine⟨_,rfl,?_⟩)
 |specialize L2.S7 ?_
 |specialize L2.alK ?_
 |specialize L2.akO ?_
 |specialize L2.akR ?_
 |specialize L2.apk ?_
 |((specialize L2.anJ ?_ ?_);first|exact⟨by decide,by decide⟩|exact⟨by decide,by decide,by decide⟩|exact(show(0:Int)<_ by decide)|exact⟨by decide,by left⟩)
 |((specialize L2.ak0 ?_ ?_);exact rfl)
 |((specialize L2.ak1 ?_ ?_);exact rfl)
 |specialize L2.aj0 ?_
 |specialize L2.L5 ?_
 |specialize L2.ajD ?_
 |specialize L2.aip ?_
 |specialize L2.agA ?_
 |specialize L2.air ?_
 |specialize L2.ahK ?_
 |specialize L2.amE ?_
 |specialize L2.alz ?_
 |specialize L2.ajx ?_
 |specialize L2.alj ?_
 |specialize L2.akD ?_
 |specialize L2.aiy ?_
 |specialize L2.ai1 ?_
 |specialize L2.ahZ ?_
 |specialize L2.ajw ?_
 |specialize L2.aih ?_
 |specialize L2.ak3 ?_
 |specialize L2.ahX ?_
 |specialize L2.akl ?_
 |specialize L2.JR ?_
 |specialize L2.ali ?_
 |specialize L2.alS ?_
 |specialize L2.afY ?_
 |specialize L2.aib ?_
 |specialize L2.ajn ?_
 |specialize L2.agy ?_
 |specialize L2.agV ?_
 |specialize L2.ahB ?_
 |specialize L2.aiz ?_
 |specialize L2.ajo ?_
 |specialize L2.ahP ?_
 |specialize L2.ah3 ?_
 |specialize L2.ag2 ?_
 |specialize L2.aiq ?_
 |specialize L2.agK ?_
 |specialize L2.ah4 ?_
 |specialize L2.aio ?_))
namespace K43
open PySem L2
section
open L3 L4
variable{P:US}{w:Vb}{K:Ld}{mg:Str->bg Uj}{base:Heap}{f:Uq}{fd:Vz}
theorem m9:WL ["self","most"] ["self","most"] (aB (bf (top 3) 0)):=⟨rfl,rfl,rfl,by left,rfl,by left,by left⟩
theorem Fg{C B fI:Uq}(F:Xn K "__init__" "TooMany.__init__" (bf (top 3) 0) f fd)(o:L9.XC K C B fI)(l:mg "BedError"=lD (.ref B))(g:aas K B (.type "type")=Um)(m:aat K (.ref B) (.type "type") "__init__"=lD (.val (.builtin "ValueError.__init__")))
  (b:Xs K (.ref B) "__getattribute__"=lD (lD (.builtin "type.__getattribute__"))) (j:Vi K (.ref C) "most"=lD Uh):FnOk P w K mg base d4 1 f fd ["self","most"] (L9.yp C "most"):=by
 refine F.ok m9 (λvs H Q E h=>?_) (λu A a s H vs Q E t h=>?_)
 .obtain⟨_,_,rfl,_⟩:=h;rfl
 obtain⟨e,v,rfl,r,n,q⟩:=h;refine⟨_,(aw (g9 (L9.Jc rfl l g m b o (ai (pv 0) (ai (L9.Mz (L9.Qp (by decide) (L9.P1 (pv 1) L9.Qf)) (by decide)) ay)))) (aW (L9.MP o j (pv 0) (pv 1) rfl))),?_⟩;fail "gh";refine⟨V.ref e,rfl,v,rfl,r,λy=>⟨e,y,rfl,n,?_⟩⟩;exact⟨v,rfl,V.ref e,rfl,e,rfl,n,λp j i=>q p j i⟩
end
end K43
namespace K43
open PySem L2
section
variable{P:US}{w:Vb}{K:Ld}{mg:Str->bg Uj}{base:Heap}{f:Uq}{fd:Vz}
theorem hG:WL ["_law_bed_here","_law_found"] ["_law_bed_here"] (aB (top 34)):=⟨rfl,rfl,rfl,by left,rfl,by left,by left⟩
theorem vN{C:Uq}{m:bb Uj}(F:Xn K "_law_rooms" "_law_rooms" (top 34) f fd)(J:L3.qL P w K mg base (L4.jb P w) 10 "rooms" ["bed","most"] [] (L10.dg K 2 eP))
  (Za:mg "TooMany"=lD (.ref C)) (M:L4.yV K C m) (bR:m.contains (.type "BaseException")=Um) (Y:UP K UK "TooMany"=lD (lD (.ref C))):
  FnOk P w K mg base d4 12 f fd ["_law_bed_here"] (L10.dg K 1 cO):=by
 refine F.ok hG (λvs H Q E h=>h.1) (λVV A u s H vs Q E O h=>?_);have hu:=O.units;obtain⟨hl,B,α,Z,xs,U,y,j⟩:=h;have ev:∀{E2:XK},L10.cW K E2 (lj (L10.dg K 2 eP) [] E2 (iH (zO 0) (iH (tC (.int 90)) ng))) (L10.Pq eP 2 (L10.aj (L10.au 0) (L10.aj (L10.ae (L3.pC (.int 90))) L10.aH))):=L10.IK (L10.aA L10.aF (L10.aA (L10.aq (L3.Cv λ_ _=>.int _)) L10.bu));obtain⟨b,rfl⟩:∃b,xs=[.fz b]:=by
  unfold cO at j;split at j
  .exact⟨_,rfl⟩
  .exact j.elim
 obtain⟨p,rfl,I⟩:∃p,vs=[p]/\L3.DV (L10.ow B α Z) K H p b:=by
  cases y with
  |cons I r0=>cases r0;exact⟨_,rfl,I⟩
 have X:L10.Xj (L10.ow B α Z) K H α [lD p,lD .WA] [-(b),-(.none)]:=⟨rfl,λi x h=>by
  match i,h with
  |0,h=>cases h;exact⟨p,rfl,I⟩
  |1,h=>cases h;exact⟨.WA,rfl,.WA⟩
  |i+2,h=>cases h⟩
 suffices key:∃E2:XK,(∀c dx g,E2 c dx g->c=Uj.ref C)/\L10.WS K E2 B H α Z (L10.PQ B K Q) (L10.Pq eP 2 (L10.aj (L10.au 0) (L10.aj (L10.ae (L3.pC (.int 90))) L10.aH)) [-(b),-(.none)] Z)/\∀c dx g,E2 c dx g->Q .WA g by
  obtain⟨E2,k1,k2,k3⟩:=key;refine⟨_,(aw (cZ (i:=1) hG.nd rfl (a6 rfl) nY)
   (aw (L4.MW (E2:=E2) rfl rfl rfl rfl Za M bR
    (λl=>aW (cZ (i:=1) hG.nd rfl (a6 rfl) (L3.mL J O (L4.Cj rfl) (ai (pv 0) (ai bp ay)))))
    (λl e=>aW (cZ (i:=1) hG.nd rfl (a6 rfl) nY))
    (λc dx g h=>⟨C,m,k1 c dx g h,M,by rw[Z7,ec,Xx]⟩))
   (aW (de (pv 1))))),?_⟩
  fail "gh";unfold L4.NP;refine⟨?_,λc dx g h2 o hs=>?_⟩
  .exact ev B _ H α Z _ _ U X (k2.imp λx S Z1 g r q T v y=>⟨v,rfl,T v y⟩)
  .obtain⟨N,q,rfl⟩:∃N q,o=[N,q]:=by
    match o,hs with
    |[a,c],_=>exact⟨a,c,rfl⟩
   exact⟨.WA,rfl,k3 c dx g h2⟩
 unfold cO at j;dsimp only at j;show∃E2:XK,(∀c dx g,E2 c dx g->c=Uj.ref C)/\L10.WS K E2 B H α Z (L10.PQ B K Q) (eP [.fz b,.fz (.int 90)] Z)/\∀c dx g,E2 c dx g->Q .WA g;cases h1:eP [.fz b,.fz (.int 90)] Z with
 |bad=>rw[h1]at j;exact j.elim
 |er x L=>
  rw[h1]at j;dsimp only at j;by_cases z:x.cls=("TooMany":Str)
  .rw[av z]at j;refine⟨λc dx g=>∃n,L10.Wh α Z H n L g/\L10.U8 B K g n L/\c=.ref C,λc dx g ⟨_,_,_,h⟩=>h,?_,λc dx g ⟨n,r,q,_⟩=>j n g r q .WA .WA⟩;rintro c dx n H' G t ⟨⟨a',r,R⟩,_⟩;rw[z]at R;have e3:=Y.symm.trans R;cases e3;exact⟨n,G,t,r⟩
  .rw[ax z]at j;exact j.elim
 |ok x L=>rw[h1]at j;exact⟨λ_ _ _=>False,λ_ _ _ h=>h.elim,j,λ_ _ _ h=>h.elim⟩
end
end K43
theorem TL{α:Type}:∀{l:bb α},l.length=1->∃a,l=[a]
 |[a],_=>⟨a,rfl⟩
theorem Ty{α:Type}:∀{l:bb α},l.length=2->∃a b,l=[a,b]
 |[a,b],_=>⟨a,b,rfl⟩
theorem TN{α:Type}:∀{l:bb α},l.length=3->∃a b c,l=[a,b,c]
 |[a,b,c],_=>⟨a,b,c,rfl⟩
theorem T4{α:Type}:∀{l:bb α},l.length=4->∃a b c d,l=[a,b,c,d]
 |[a,b,c,d],_=>⟨a,b,c,d,rfl⟩
local macro_rules| `(tactic|fail "ba")=> `(tactic|(intro _ _ _ _ _ _ us hl;first|(obtain⟨_,h⟩:=TL hl;subst h;rfl)|(obtain⟨_,_,h⟩:=Ty hl;subst h;rfl)|(obtain⟨_,_,_,h⟩:=TN hl;subst h;rfl)|(obtain⟨_,_,_,_,h⟩:=T4 hl;subst h;rfl)|(match us,hl with|[_,_,_,_,_],_=>rfl)|(match us,hl with|[],_=>rfl)))| `(tactic|fail "bd")=> `(tactic|(intro _ _ _ _ _ _ us hl;first|((have h1:us.length=1:=by simpa using hl);obtain⟨_,h⟩:=TL h1;subst h;exact⟨_,rfl,rfl⟩)|((have h1:us.length=2:=by simpa using hl);obtain⟨_,_,h⟩:=Ty h1;subst h;exact⟨_,rfl,rfl⟩)|((have h1:us.length=3:=by simpa using hl);obtain⟨_,_,_,h⟩:=TN h1;subst h;exact⟨_,rfl,rfl⟩)|((have h1:us.length=4:=by simpa using hl);(match us,h1 with|[_,_,_,_],_=>exact⟨_,rfl,rfl⟩))))| `(tactic|fail "fl")=> `(tactic|first|exact List.forall_mem_nil _|(refine List.forall_mem_cons.mpr ⟨?_,?_⟩;(·(show Vi _ _ _=_;k_is));fail "fl"))| `(tactic|fail "ki")=> `(tactic|first|(refine' L3.NI.mk ?a' ⟨_,L2.Jb ?b' ?c' ?d'⟩;(case a'=>k_is);(case b'=>k_is);(case c'=>k_is);(case d'=>k_is))|(refine' L3.MI.mk ?a' ?e' ⟨_,L2.Jb ?b' ?c' ?d'⟩;(case a'=>k_is);(case e'=>k_is);(case b'=>k_is);(case c'=>k_is);(case d'=>k_is))|(refine' L3.CI.mk ?a' ?b' ?c' ?d' ?e' ?f' ?g' ?i';(case a'=>k_is);(case b'=>k_is);(case c'=>k_is);(case d'=>k_is);(case e'=>k_is);(case f'=>k_is);(case g'=>k_is);(case i'=>fail "fl"))|(refine' L3.DI.mk ?a' ⟨_,L3.Nw ?b' ?c' ?d' ?e'⟩;(case a'=>k_is);(case b'=>k_is);(case c'=>k_is);(case d'=>k_is);(case e'=>k_is))|k_is|k_exc|rfl|left|(rw[<-Array.all_toList];rfl))
namespace K43
open PySem L2 L3
def F_lawH:FN:=L10.RA F_law
theorem all_mk{l:adi}{w:Vb}{K:Ld}{h:Heap}{mg:Str->bg Uj}{fa:Uq}
  {adC:Tok}
  {Y4:Uq} {aez:Nat} {aet:Array (bg Uj)}
  {ac3:Tok}
  {Wm:Uq} {adY:Nat} {adX:Array (bg Uj)}
  {Y2:Uq} {abn:Nat} {abr:Array (bg Uj)}
  {Xm:Uq} {acj:Nat} {acz:Array (bg Uj)}
  {aep:Uq} {acq:Tok}
  {ada:Uq} {abj:Tok}
  {adS:Uq} {ab3:Tok}
  {f0 f1 f2 f3 f4 f5 f6 f7 f8 f9 f10 f11 f12 f13 f14 f15 f16 f17 f18 f19 f20 f21 f22 b f24 f25 f26 f27 f28 f29 f30 f31 f32 f33 f34 f35 f36 f37 u f39 f40 t f42 f43 r:Uq}
  {j m:Uq}
  {nmR qR:Str} {U:Uq} {bsR:bb Uj} {snR:bb Str} {ajq:bb Uj} {abR:Bool} {ajG:bg Bool} {ddR:bg Uq} {k0R k1R k2R k3R k5R:bg Uj}
  {ocN:Uj} {odN:bg Uq} {E:Array XM} {nN:Nat} {slN:Array (bg Uj)} (X:K.In h) (G:h.Ns UK mg) (hfa:mg "law"=lD (.ref fa))
  (h0:NI K f0 "layer_of" (top 8))
  (h1:NI K f1 "looked_up" (top 12))
  (h2:NI K f2 "chords_over" (top 13))
  (h3:NI K f3 "chord_acts" (top 14))
  (h4:NI K f4 "_law_cell" (top 26))
  (h5:NI K f5 "_law_take" (top 27))
  (h6:NI K f6 "_law_letter" (top 28))
  (h7:NI K f7 "_law_meaning" (top 29))
  (h8:NI K f8 "_law_chords" (top 30))
  (h9:NI K f9 "_law_bed" (top 31))
  (h10:NI K f10 "_law_keys" (top 32))
  (h11:NI K f11 "events_of" (top 16))
  (h12:NI K f12 "_law_events" (top 33))
  (h13:NI K f13 "_law_marks" (top 35))
  (h14:NI K f14 "step" (top 9))
  (h15:NI K f15 "play" (top 10))
  (h16:NI K f16 "walked" (top 18))
  (h17:DI K f17 aep "rooms" (top 17) #[.int 400 acq])
  (h18:NI K f18 "numbered" (top 24))
  (h19:DI K f19 ada "machine" (top 21) #[.int 400 abj])
  (h20:DI K f20 adS "states" (top 22) #[.int 400 ab3])
  (h21:NI K f21 "_law_rooms" (top 34))
  (h22:NI K f22 "law" (top 36))
  (a:CI K b "Hand" ["bed","acts","waiting","once","sent"])
  (h24:MI K b f24 "__init__" "Hand.__init__" (bf (top 11) 0))
  (h25:MI K b f25 "stands" "Hand.stands" (bf (top 11) 1))
  (h26:MI K b f26 "is_waiting" "Hand.is_waiting" (bf (top 11) 2))
  (h27:MI K b f27 "has_act" "Hand.has_act" (bf (top 11) 13))
  (h28:MI K b f28 "come" "Hand.come" (bf (top 11) 11))
  (h29:MI K b f29 "go" "Hand.go" (bf (top 11) 12))
  (h30:MI K b f30 "decide" "Hand.decide" (bf (top 11) 10))
  (h31:MI K b f31 "makes_chord" "Hand.makes_chord" (bf (top 11) 4))
  (h32:MI K b f32 "put_to_chord" "Hand.put_to_chord" (bf (top 11) 5))
  (h33:MI K b f33 "begin" "Hand.begin" (bf (top 11) 6))
  (h34:MI K b f34 "press" "Hand.press" (bf (top 11) 3))
  (h35:MI K b f35 "settle" "Hand.settle" (bf (top 11) 8))
  (h36:MI K b f36 "lift" "Hand.lift" (bf (top 11) 7))
  (h37:MI K b f37 "wait_on" "Hand.wait_on" (bf (top 11) 9))
  (q:CI K u "Places" ["most","found","numbers"])
  (h39:MI K u f39 "enter" "Places.enter" (bf (top 19) 1))
  (h40:MI K u f40 "__init__" "Places.__init__" (bf (top 19) 0))
  (p:CI K t "Sorting" ["steps","sends","rounds"])
  (h42:MI K t f42 "mark_of" "Sorting.mark_of" (bf (top 23) 1))
  (h43:MI K t f43 "__init__" "Sorting.__init__" (bf (top 23) 0))
  (ZF:UP K UK "TooMany"=lD (lD (.ref j)))
  (abT:UP K UK "BedError"=lD (lD (.ref m)))
  (xR:K.lookup j=lD (excClassObj nmR qR j U bsR (.ref m::[.type "ValueError",.type "Exception",.type "BaseException",.type "object"]) Um snR ajq abR ajG ddR k0R k1R k2R k3R k5R "ValueError.__new__"))
  (eI:Zf K m [.type "ValueError",.type "Exception",.type "BaseException",.type "object"] "ValueError.__new__"=Um)
  (lN:K.lookup U=lD ⟨ocN,odN,.dict E nN,slN⟩)
  (o:(E.all λe=>match e.key with|.str _ _=>Um|_=>Uw)=Um)
  (inN:UP K U "__init__"=lD (lD (.ref r)))
  (saR:Vi K (.ref j) "__setattr__"=lD (lD (.builtin "object.__setattr__")))
  (fS:Vi K (.ref j) "most"=lD Uh)
  (rdB:aas K m (.type "type")=Um)
  (fcB:aat K (.ref m) (.type "type") "__init__"=lD (.val (.builtin "ValueError.__init__")))
  (spB:Xs K (.ref m) "__getattribute__"=lD (lD (.builtin "type.__getattribute__")))
  (C:MI K j r "__init__" "TooMany.__init__" (bf (top 3) 0))
  (aeB:UP K UK "NONE"=lD (lD (.ref Y4)))
  (adG:UP K UK "CHORD"=lD (lD (.ref Wm)))
  (acv:UP K UK "AT_REST"=lD (lD (.ref Xm)))
  (acn:K.lookup Xm=lD ⟨.type "tuple",Uh,.seq #[.ref Y2,.none,.none] acj,acz⟩)
  (abo:K.lookup Y2=lD ⟨.type "tuple",Uh,.seq #[] abn,abr⟩)
  (adR:K.lookup Wm=lD ⟨.type "tuple",Uh,.seq #[.str "chord" ac3] adY,adX⟩)
  (aes:K.lookup Y4=lD ⟨.type "tuple",Uh,.seq #[.str "none" adC] aez,aet⟩)
  (y0:UP K UK "max"=lD Uh)
  (y1:UP K UK "all"=lD Uh)
  (y2:UP K UK "list"=lD Uh)
  (y3:UP K UK "sorted"=lD Uh)
  (y4:UP K UK "len"=lD Uh)
  (y5:UP K UK "range"=lD Uh)
  (y6:UP K UK "tuple"=lD Uh)
  (y7:UP K UK "isinstance"=lD Uh)
  (y8:UP K UK "int"=lD Uh)
  (y9:UP K UK "bool"=lD Uh)
  (y10:UP K UK "dict"=lD Uh)
  (Z:UP K UK "zip"=lD Uh):
  ∃fd:Vz,(∀(s:Ur) (v:Uj),Zn s fd ⟨[v],[]⟩ [("_law_script",v)])/\∀base:Heap,K.In base->base.Ns UK mg->FnOk l.prog w K mg base d4 13 fa fd ["_law_script"] (L3.pT K 1 F_lawH):=by
 have Q:=Vu X G y0;have ZT:=Vu X G y1;have R:=Vu X G y2;have Y3:=Vu X G y3;have g:=Vu X G y4;have n:=Vu X G y5;have A:=Vu X G y6;have X4:=Vu X G y7;have adL:=Vu X G y8;have acy:=Vu X G y9;have adK:=Vu X G y10;have y:=Vu X G Z;have J:=LZ (xs:=[.str "none"]) (ds:=[(.str "none")]) aes (by show 1<=UB;decide) (.cons ⟨_,rfl⟩ .nil) λO H=>(.cons (.str _) .nil);have N:=LZ (xs:=[.str "chord"]) (ds:=[(.str "chord")]) adR (by show 1<=UB;decide) (.cons ⟨_,rfl⟩ .nil) λO H=>(.cons (.str _) .nil);have abY:=LZ (xs:=[]) (ds:=[]) abo (by show 0<=UB;decide) .nil λO H=>.nil;have Yu:=LZ (xs:=[.ref Y2,.WA,.WA]) (ds:=[(.tuple []),.none,.none]) acn (by show 3<=UB;decide) (.cons rfl (.cons rfl (.cons rfl .nil))) λO H=>(.cons (abY O H) (.cons .WA (.cons .WA .nil)));have I:=Wd X G aeB;have M:=Wd X G adG;have Yr:=Wd X G acv;refine h22.law X G hfa (by fail "ba") λbase fd afp=>?_;have W:Tp l.prog w K mg base h:=⟨X,G⟩;have YF:=h0.c W λ_ z=>yS z Q;have aao:=h1.c W λ_ z=>xV z;have Wo:=h2.c W λ_ z=>tY z ZT;have ZP:=h3.c W λ_ z=>vJ z R Y3 g I J;have Xo:=h4.c W λ_ z=>w6 z g;have B:=h5.c W λ_ z=>w9 z n;have Zk:=h6.c W λ_ z=>uH z B;have Ya:=h7.c W λ_ z=>sC z B Zk Q;have Zm:=h8.c W λ_ z=>tZ z B n A g ZT;have aaR:=h9.c W λ_ z=>zC z Xo B Ya Zm n A;have aal:=h10.c W λ_ z=>xc z Xo B;have YY:=h11.c W λ_ z=>yi z n;have Zl:=h12.c W λ_ z=>u7 z n;have ZS:=h13.c W λ_ z=>vQ z X4 R g ZT adL acy;have f:=a.cf;have Vx:=q.cf;have S:=p.cf;have o:aaG K U=Um:=by unfold aaG;rw[lN];exact o
 have XR:L4.yV K j (.ref m::[.type "ValueError",.type "Exception",.type "BaseException",.type "object"]):=⟨_,_,_,_,_,_,_,_,_,_,_,_,_,_,_,_,xR⟩;have L:L9.XC K j m r:=⟨⟨_,_,_,_,_,_,_,_,_,_,_,_,_,_,xR,o,inN⟩,eI,saR⟩;have Za:=Wd X G ZF;have acG:=Wd X G abT;obtain⟨fdI,Y⟩:=C.F;obtain⟨_,_,_,_,_,_,_,_,_,rfl,ZC,_⟩:=Y.ex;have Zu:=C.i;have Zw:=Fg (P:=l.prog) (w:=w) (mg:=mg) (base:=base) Y L acG rdB fcB spB fS;have Zs:=Y.binds (ps:=["self","most"]) (by fail "ba");have acT:=h24.k a W λ_ z=>rp z f adK;have Wu:=h25.mt a W λ_ z=>t6 z f A Y3;have WG:=h26.mt a W λ_ z=>oE z f;have Xf:=h27.mt a W λ_ z=>sg z f R;have W2:=h28.mt a W λ_ z=>xL z f Xf;have aaO:=h29.mt a W λ_ z=>Cw z f Xf;have T:=h30.mt a W λ_ z=>u8 z f W2 ZP y M N;have X3:=h31.mt a W λ_ z=>na z f Wu YF Wo M N;have XS:=h32.mt a W λ_ z=>l6 z f T Wo g M N;have Zj:=h33.mt a W λ_ z=>vK z f Wu W2 YF aao Wo M N I J;have Zi:=h34.mt a W λ_ z=>vI z f WG X3 XS T Zj;have Y0:=h35.mt a W λ_ z=>uo z f T W2 M N;have ZW:=h36.mt a W λ_ z=>xZ z f WG Y0 aaO;have YK:=h37.mt a W λ_ z=>sD z f T;have Zt:=h14.c W λ_ z=>KK z f acT YK Zi ZW Wu;have acH:L3.iz l.prog w K mg base 9 "play" ["bed","events"] 2 tS:=h15.cal X G (by fail "ba") λ_ z=>(Mg z Zt Yr Yu).imp (λ_ _ _ _ h=>L10.Qc h);have Wk:=h39.mt q W λ_ z=>sB z Vx L ZC Zu Zw Zs ZF Za g;have aaf:=h40.k q W λ_ z=>oG z Vx Wk;have XH:=h16.d W λ_ z=>F7 z Vx aaf Wk Zt YY g A y Yr Yu;have aah:L3.qL l.prog w K mg base (L4.jb l.prog w) 10 "rooms" ["bed","most"] [] (L10.dg K 2 eP):=h17.c (ds:=[]) (dvs:=[]) W .nil λ_ z=>Kk z XH;have YH:=h18.c W λ_ z=>yW z g;have Xi:=h42.mt p W λ_ z=>nX z S A;have XG:=h43.k p W λ_ z=>nu z S XH Xi YH Q n g;have YZ:L3.qL l.prog w K mg base (L4.jb l.prog w) 12 "machine" ["bed","most"] [] (L10.dg K 2 iZ):=h19.c (ds:=[]) (dvs:=[]) W .nil λ_ z=>Cu z S XG n Q A;have YG:L3.qL l.prog w K mg base (L4.jb l.prog w) 12 "states" ["bed","most"] [] (L10.dg K 2 jj):=h20.c (ds:=[]) (dvs:=[]) W .nil λ_ z=>ER z S XG;have ZR:=h21.c W λ_ z=>vN z aah Za XR rfl ZF;exact(Qg afp YZ YG ZR Zt aal aaR Zl ZS B acH g n A y R).imp (λ_ _ _ _ h=>L10.Qr h)
end K43
inductive PySem.W.Fast|tw2096356324456166772|tw6868108001191641174|tw14147597336427692691|tw14383444427033388217|tw17473532878787923386|tw5608386300676296632|tw14997270406146956640|tw14083870066597788222|tw13843147803512350434|tw18438923114290633461|tw9265225218054425655|tw4711776380844726009|tw6476201467922574205|tw9629164441148261236|tw3829974905491469690|tw1033947818046829895|tw3782971956609103727|tw4039764718279286445|tw14365035082301611545|tw11903589101466442160|tw12660384981169191288|tw17814893736412041775|tw15790378200812224268|tw4605648183805882564|tw5381866911679455085|tw5165119057249807091|tw1379472640669530205|tw14273948415249324499|tw13039402816055531435|tw17213877120937752778|tw4656053590110544842|tw17673517810543246335|tw3058248770490718843|tw2121916261211924679|tw7505778703296724109|tw9422965086340321993|tw9529362841782724377|tw1784670588597431925|tw8287980316094529801|tw8620938222856126700|tw12768540794454742508|tw537279231400112212|tw15070953330900332607|tw11544916940869214740|tw2201029876279739235|tw13213003249436032466|tw15495408287852225752|tw12461856411120107260|tw16526314133702528097|tw6468869029159441441|tw7774111729711560523|tw16543096369355276816|tw9261892872822305284|tw15178726761693206687|tw5664563480234485355|tw1822511441601476889|tw4356912631632205801|tw16370379038686087177|tw2545786079430191752|tw11745909101904852544|tw4613055263004475698|tw17230326987029938781|tw8713050871920479556|tw1110924316171015792|tw9647446381167599305|tw1846424227474925873|tw5375439534663583140|tw6926677044460201684|tw17875292903467428777|tw12988067291582289510|tw7836507317384883445|tw12044465630903404251|tw5747041506206912814|tw10067973489722373322|tw7566999043802244265|tw5672244393373756760|tw6807229672969484850|tw7575867812976555009|tw6308094875113578773|tw4208590091692469016|tw4783759536974829399|tw11648870381867401573|tw11513687013025534240|tw7365075228561097712|tw15239926787877518037|tw18152754107061203674|tw16978052777004336689|tw1013271659833583963|tw14824186438573319291|tw14634597119199754486|tw12683001035208366928|tw1298431791435714148|tw7427484069176385872|tw17236387807964756531|tw11676675812331443716|tw18179543574176871802|tw16463004920287203634|tw3183234212296420512|tw912419148561261834|tw5105203625406312585|tw6466367134354810038|tw14327215919564835624|tw2456039709096384815|tw5049731821617011269|tw12295851096100044239|tw1518548852889569962
open PySem PySem.W PyProof.Rows
set_option maxRecDepth 100000 in
set_option maxHeartbeats 0 in
theorem PySem.Challenge.cw_chordbed_k43_whole_the_machine_sends_the_holds : PySem.Challenge.rw_chordbed_k43_whole_the_machine_sends_the.Holds := by
 w_on;o_law;k_head;(case hw=>w_witness2)
 k_fill
 refine L3.RB (l:=PySem.Challenge.rw_chordbed_k43_whole_the_machine_sends_the) (n:=63) (k:=13) (x:= "_law_script") (F:=K43.F_lawH) rfl (by decide) rfl ⟨rfl,by decide,by decide⟩ (λw h Y=>PySem.W.kIn_of Y) ?F K43.main
 case F=>
  intro w e f h b G a
  apply K43.all_mk b G a
  all_goals fail "ki"
