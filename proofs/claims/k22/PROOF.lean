import PyProof.Rows.All
import Wide.All
import OpenK.AllK
import Wide.FinOn
import Lean
import PyProof.EqAt
import PyProof.EqKinds
import PyProof.TupleCall
import KE.KIntText
import KE.KRevSl
import PyProof.Rows.SeqMore
import PyProof.WalkInts
import PyProof.Rows.MinMaxN
import PyProof.ExcInit
import OpenK.KMake
import PyProof.InstStoreFacts
import PyProof.FString2
import PyProof.Rows.FStr
import PyProof.Rows.SetFrom
import PyProof.SeqRoads2
import PyProof.RangeFor
import PyProof.WalksMore
import PyProof.StrBlock2
import PyProof.Rows.SortShell
import PyProof.TupleOfSeq
import PySem.Challenge.RW_chordbed_k22_whole_the_first_refusal
set_option Elab.async false
set_option linter.all false
set_option maxRecDepth 100000
namespace L2
open PySem PySem.Spec PyProof.Rows
noncomputable abbrev pL:=Sum Int Str
noncomputable def CP:pL→Value→Bool
 | .inl k,v=>Value.isInt k v
 | .inr x,v=>Value.isStrOf x v
noncomputable def Hh (w:World):pL→Int
 | .inl k=>hashInt k
 | .inr x=>hashStr w x
theorem dS:∀{k:pL} {v:Value},CP k v=true→(∃i t,k=Sum.inl i∧v=Value.int i t)∨(∃x t,k=Sum.inr x∧v=Value.str x t)
 | .inl i,v,h=>by
  obtain⟨t,e⟩:=Value.isInt_shape (k:=i) (v:=v) h
  exact .inl ⟨i,t,rfl,e⟩
 | .inr x,v,h=>by
  obtain⟨t,e⟩:=Value.isStrOf_shape (x:=x) (v:=v) h
  exact .inr ⟨x,t,rfl,e⟩
theorem Dz (a b:Int):decide ((Sum.inl a:pL)=Sum.inl b)=(a==b):=by
 by_cases e:a=b
 ·subst e;simp
 ·have h:¬(Sum.inl a:pL)=Sum.inl b:=fun q=>e (Sum.inl.inj q)
  rw[decide_eq_false h]
  exact(beq_eq_false_iff_ne.mpr e).symm
theorem Ef (a b:Str):decide ((Sum.inr a:pL)=Sum.inr b)=decide (a=b):=by
 by_cases e:a=b
 ·subst e;simp
 ·have h:¬(Sum.inr a:pL)=Sum.inr b:=fun q=>e (Sum.inr.inj q)
  rw[decide_eq_false h,decide_eq_false e]
theorem Dm (a:Int) (b:Str):decide ((Sum.inl a:pL)=Sum.inr b)=false:=decide_eq_false (fun q=>nomatch q)
theorem EA (a:Str) (b:Int):decide ((Sum.inr a:pL)=Sum.inl b)=false:=decide_eq_false (fun q=>nomatch q)
noncomputable def wg (prog:Program) (w:World):PySem.KeyKind prog w pL where
 is:=CP
 hash:=Hh w
 inj:=fun v a b ha hb=>by
  rcases dS ha with⟨i,t,rfl,rfl⟩|⟨x,t,rfl,rfl⟩
  ·rcases dS hb with⟨j,u,rfl,e⟩|⟨y,u,rfl,e⟩
   ·injection e with e1 _;rw[e1]
   ·exact nomatch e
  ·rcases dS hb with⟨j,u,rfl,e⟩|⟨y,u,rfl,e⟩
   ·exact nomatch e
   ·injection e with e1 _;rw[e1]
 byValue:=fun k v h=>by
  rcases dS h with⟨i,t,rfl,rfl⟩|⟨x,t,rfl,rfl⟩<;>rfl
 pyHash:=fun hv h=>by
  rcases dS hv with⟨i,t,rfl,rfl⟩|⟨x,t,rfl,rfl⟩
  ·exact wpAny_pyHash_int h
  ·exact wpAny_pyHash_str h
 eqBool:=fun hu hv h=>by
  rcases dS hu with⟨i,t,rfl,rfl⟩|⟨x,t,rfl,rfl⟩
  ·rcases dS hv with⟨j,u,rfl,rfl⟩|⟨y,u,rfl,rfl⟩
   ·rw[Dz] at h;exact wpAny_eqBool_int h
   ·rw[Dm] at h;exact SeqAt.EqAt.int_str i t y u _ _ _ _ h
  ·rcases dS hv with⟨j,u,rfl,rfl⟩|⟨y,u,rfl,rfl⟩
   ·rw[EA] at h;exact SeqAt.EqAt.str_int x t j u _ _ _ _ h
   ·rw[Ef] at h;exact wpAny_eqBool_str h
 «strs»:=fun k x t v h=>by
  rcases dS h with⟨i,u,rfl,e⟩|⟨y,u,rfl,e⟩
  ·exact nomatch e
  ·injection e with e1 _
   subst e1
   cases v<;>rfl
end L2
namespace L2
open PySem PySem.Spec PyProof.Rows
inductive V where
 |non|bl (b:Bool)|int (i:Int)|str (x:Str)|byt (b:Array UInt8)|flt (b:UInt64)|ref (a:Addr)|ty (n:String)
 deriving DecidableEq
noncomputable def RelV:V→Value→Prop
 | .non,u=>u=Value.none
 | .bl b,u=>u=Value.bool b
 | .int i,u=>∃t,u=Value.int i t
 | .str x,u=>∃t,u=Value.str x t
 | .byt b,u=>∃t,u=Value.bytes b t
 | .flt b,u=>∃t,u=Value.float b t
 | .ref a,u=>u=Value.ref a
 | .ty n,u=>u=Value.type n
noncomputable abbrev Vals:List V→List Value→Prop:=Paired RelV
theorem Vals.length {xs:List V} {us:List Value} (r:Vals xs us):xs.length=us.length:=Paired.length r
theorem Vals.get:∀{xs:List V} {us:List Value} {i:Nat} {x:V},Vals xs us→xs[i]? =some x→∃u,us[i]? =some u∧RelV x u
 |_,_,_,_,.nil,e=>by simp at e
 |_,_,0,_,.cons r _,e=>by simp at e;subst e;exact⟨_,rfl,r⟩
 |_,_,i+1,x,.cons _ t,e=>by
  obtain⟨u,h1,h2⟩:=Vals.get (i:=i) (x:=x) t (by simpa using e)
  exact⟨u,by simpa using h1,h2⟩
theorem Vals.append:∀{xs ys:List V} {us ws:List Value},Vals xs us→Vals ys ws→Vals (xs++ys) (us++ws)
 |_,_,_,_,.nil,s=>s
 |_,_,_,_,.cons r t,s=> .cons r (Vals.append t s)
theorem Vals.take:∀{xs:List V} {us:List Value} (n:Nat),Vals xs us→Vals (xs.take n) (us.take n)
 |_,_,0,_=> .nil
 |_,_,_+1,.nil=> .nil
 |_,_,n+1,.cons r t=> .cons r (Vals.take n t)
theorem Vals.drop:∀{xs:List V} {us:List Value} (n:Nat),Vals xs us→Vals (xs.drop n) (us.drop n)
 |_,_,0,r=>r
 |_,_,_+1,.nil=> .nil
 |_,_,n+1,.cons _ t=>Vals.drop n t
noncomputable def RelO:Option V→Option Value→Prop
 |some v,some u=>RelV v u
 |none,none=>True
 |_,_=>False
noncomputable def KV {κ:Type}:List (κ×V)→List (κ×Value)→Prop:=Paired fun(p:κ×V) (q:κ×Value)=>p.1=q.1∧RelV p.2 q.2
noncomputable def kV:pL→V
 | .inl i=> .int i
 | .inr x=> .str x
inductive HO where
 |lst (xs:List V)
 |tup (xs:List V)
 |dK (kvs:List (pL×V))|dT (kvs:List (List pL×V))
 |set (S:Int→Bool) (n:Nat)
 |ins (C dx:Addr) (fs:List (Str×V))
 |own (x:Addr)
 |xd (fs:List (Str×V))
 |met (f x:Addr)
 |rng (lo hi:Int)
 |frz (o:Obj) (u:HO)
 |tbl (ps:Array Value)
 |ext (φ:Heap→Prop)
noncomputable abbrev Hp:=Addr→Option HO
noncomputable def cU (H:Hp) (a:Addr) (o:HO):Hp:=fun b=>if b=a then some o else H b
theorem bj {H:Hp} {a:Addr} {o:HO}:cU H a o a=some o:=by unfold cU;rw[if_pos rfl]
theorem aK {H:Hp} {a b:Addr} {o:HO} (h:b≠a):cU H a o b=H b:=by unfold cU;rw[if_neg h]
theorem BC {H:Hp} {a:Addr} {o u:HO}:cU (cU H a o) a u=cU H a u:=by
 funext b;unfold cU;split<;>rfl
theorem cY {H:Hp} {a b:Addr} {o:HO} (h:H a=some o) (h':H b=none):a≠b:=by
 intro e;subst e;rw[h] at h';cases h'
section
variable (P:Program) (w:World)
noncomputable def ObjOk (H:Hp) (h:Heap) (a:Addr):HO→Prop
 | .lst xs=>xs.length≤sizeLine∧∃(its:List Value) (n:Nat),Vals xs its∧h.get? a=some {cls:= .type "list",data:= .seq its.toArray n}
 | .tup xs=>xs.length≤sizeLine∧∃its:List Value,Vals xs its∧IsTup h a its.toArray
 | .dK kvs=>kvs.length≤sizeLine∧(a==sysModules)=false∧∃vs,KV kvs vs∧h.DictOf (wg P w) a vs
 | .dT kvs=>kvs.length≤sizeLine∧(a==sysModules)=false∧∃xs:List (List pL×Addr×Value),
   Paired (fun(p:List pL×V) (q:List pL×Addr×Value)=>p.1=q.1∧H q.2.1=some (.tup (p.1.map kV))∧RelV p.2 q.2.2) kvs xs∧
   ∃o es ep,h.get? a=some o∧o.ExactDict∧o.data= .dict es ep∧es.toList=xs.map (entryOfKey (tupleKind (wg P w)))∧(xs.map (·.1)).Nodup
 | .set S n=>h.SetOf (intKind P w) a S n
 | .ins C dx fs=>H dx=some (.own a)∧fs.length≤1000∧dx≠a∧h.get? a=some (PySem.W.instObj C dx)∧
   ∃mA,h.Ns1 dx mA∧(∀f,RelO (fs.lookup f) (mA f))∧PySem.Within mA (fs.map (·.1))
 | .own _=>∃o,h.get? a=some o
 | .xd fs=>∃mA,h.Ns1 a mA∧∀f,RelO (fs.lookup f) (mA f)
 | .rng lo hi=>∃t u v,h.get? a=some {cls:= .type "range",data:= .fields #[.int lo t,.int hi u,.int 1 v]}
 | .frz o u=>h.get? a=some o∧ObjOk H h a u
 | .tbl ps=>h.get? a=some {cls:= .none,data:= .fields ps}
 | .met f x=>h.get? a=some (PySem.W.methodObj (.ref f) (.ref x))
 | .ext φ=>φ h∧(∃o,h.get? a=some o)∧∀h1 h2:Heap,φ h1→(∀o,h1.get? a=some o→h2.get? a=some o)→φ h2
noncomputable def HOk (H:Hp) (h:Heap):Prop:=∀a o,H a=some o→ObjOk P w H h a o
end
section
variable {P:Program} {w:World} {H H':Hp} {h h':Heap} {a:Addr} {o:HO}
theorem ObjOk.lt (x:ObjOk P w H h a o):a<h.objs.size:=by
 cases o with
 |lst xs=>obtain⟨_,_,_,_,e⟩:=x;exact Heap.lt_size e
 |tup xs=>obtain⟨_,_,_,p⟩:=x;exact p.lt
 |dK kvs=>obtain⟨_,_,_,_,o,_,_,e,_⟩:=x;exact Heap.lt_size e
 |dT kvs=>obtain⟨_,_,_,_,o,_,_,e,_⟩:=x;exact Heap.lt_size e
 |set S n=>obtain⟨o,_,_,_,e,_⟩:=x;exact Heap.lt_size e
 |ins C dx fs=>obtain⟨_,_,_,e,_⟩:=x;exact Heap.lt_size e
 |own y=>obtain⟨_,e⟩:=x;exact Heap.lt_size e
 |xd fs=>obtain⟨_,⟨_,_,_,e,_⟩,_⟩:=x;exact Heap.lt_size e
 |rng lo hi=>obtain⟨_,_,_,e⟩:=x;exact Heap.lt_size e
 |frz ob u=>obtain⟨e,_⟩:=x;exact Heap.lt_size e
 |tbl ps=>exact Heap.lt_size (show h.get? a=some _ from x)
 |met f y=>exact Heap.lt_size (show h.get? a=some _ from x)
 |ext φ=>obtain⟨_,⟨_,e⟩,_⟩:=x;exact Heap.lt_size e
theorem Paired.mapP {α β:Type} {F G:α→β→Prop}:∀{l₁:List α} {l₂:List β},Paired F l₁ l₂→(∀a b,F a b→G a b)→Paired G l₁ l₂
 |_,_,.nil,_=> .nil
 |_,_,.cons r t,f=> .cons (f _ _ r) (Paired.mapP t f)
theorem ObjOk.stay (x:ObjOk P w H h a o) (k:∀b u,(b=a∨H b=some (.own a))→h.get? b=some u→h'.get? b=some u)
  (ho:∀b,H b=some (.own a)→H' b=some (.own a)) (ht:∀b xs,H b=some (.tup xs)→H' b=some (.tup xs)):ObjOk P w H' h' a o:=by
 induction o with
 |lst xs=>obtain⟨z,its,n,r,e⟩:=x;exact⟨z,its,n,r,k _ _ (.inl rfl) e⟩
 |tup xs=>obtain⟨z,its,r,ob,e,c⟩:=x;exact⟨z,its,r,ob,k _ _ (.inl rfl) e,c⟩
 |dK kvs=>obtain⟨z,y,vs,r,ob,es,ep,e,c⟩:=x;exact⟨z,y,vs,r,ob,es,ep,k _ _ (.inl rfl) e,c⟩
 |dT kvs=>
  obtain⟨z,y,xs,r,ob,es,ep,e,c⟩:=x
  exact⟨z,y,xs,Paired.mapP r fun p q z=>⟨z.1,ht _ _ z.2.1,z.2.2⟩,ob,es,ep,k _ _ (.inl rfl) e,c⟩
 |set S n=>obtain⟨ob,es,ep,t,e,c⟩:=x;exact⟨ob,es,ep,t,k _ _ (.inl rfl) e,c⟩
 |ins C dx fs=>
  obtain⟨d,z,ne,e,mA,⟨od,es,ep,e2,c⟩,r⟩:=x
  exact⟨ho _ d,z,ne,k _ _ (.inl rfl) e,mA,⟨od,es,ep,k _ _ (.inr d) e2,c⟩,r⟩
 |own y=>obtain⟨ob,e⟩:=x;exact⟨ob,k _ _ (.inl rfl) e⟩
 |xd fs=>obtain⟨mA,⟨od,es,ep,e,c⟩,r⟩:=x;exact⟨mA,⟨od,es,ep,k _ _ (.inl rfl) e,c⟩,r⟩
 |rng lo hi=>obtain⟨t,u,v,e⟩:=x;exact⟨t,u,v,k _ _ (.inl rfl) e⟩
 |frz ob u ih=>obtain⟨e,q⟩:=x;exact⟨k _ _ (.inl rfl) e,ih q⟩
 |tbl ps=>
  have e:h.get? a=some {cls:= .none,data:= .fields ps}:=x
  show h'.get? a=some {cls:= .none,data:= .fields ps}
  exact k a _ (.inl rfl) e
 |met f y=>
  have e:h.get? a=some (PySem.W.methodObj (.ref f) (.ref y)):=x
  show h'.get? a=some (PySem.W.methodObj (.ref f) (.ref y))
  exact k a _ (.inl rfl) e
 |ext φ=>obtain⟨p,⟨o,e⟩,st⟩:=x;exact⟨st _ _ p fun o q=>k _ _ (.inl rfl) q,⟨o,k _ _ (.inl rfl) e⟩,st⟩
theorem HOk.lt (x:HOk P w H h) (e:H a=some o):a<h.objs.size:=(x a o e).lt
theorem HOk.fresh (x:HOk P w H h) (e:h.objs.size≤a):H a=none:=by
 cases q:H a with
 |none=>rfl
 |some u=>exact absurd (Nat.lt_of_lt_of_le (x.lt q) e) (Nat.lt_irrefl _)
theorem HOk.kept (x:HOk P w H h) (k:∀b u,h.get? b=some u→h'.get? b=some u):HOk P w H h':=fun a o e=>
 (x a o e).stay (fun b u _ q=>k b u q) (fun _ q=>q) fun _ _ q=>q
theorem HOk.laid (x:HOk P w H h) (k:∀b u,h.get? b=some u→h'.get? b=some u) (hp:h.objs.size≤a) (new:ObjOk P w (cU H a o) h' a o):HOk P w (cU H a o) h':=fun b u e=>by
 have hn:=x.fresh hp
 by_cases hb:b=a
 ·subst hb;rw[bj] at e;cases e;exact new
 ·rw[aK hb] at e
  exact(x b u e).stay (fun c v _ q=>k c v q) (fun c q=>by rw[aK (cY q hn)];exact q) fun c xs q=>by rw[aK (cY q hn)];exact q
end
noncomputable def Rd (H:Hp) (a:Addr) (u:HO):Prop:=H a=some u∨∃o,H a=some (.frz o u)
theorem Rd.of {H:Hp} {a:Addr} {u:HO} (h:H a=some u):Rd H a u:= .inl h
theorem Rd.ok {P:Program} {w:World} {H:Hp} {h:Heap} {a:Addr} {u:HO} (r:Rd H a u) (x:HOk P w H h):ObjOk P w H h a u:=by
 rcases r with r|⟨o,r⟩
 ·exact x a u r
 ·obtain⟨_,q⟩:=x a _ r
  exact q
noncomputable def GG:Option HO→Prop
 |some (.lst _)=>True
 |some (.dK _)=>True
 |some (.dT _)=>True
 |some (.set _ _)=>True
 |some (.ins _ _ _)=>True
 |some (.ext _)=>True
 |_=>False
section
variable {P:Program} {w:World} {H:Hp} {h h':Heap} {x e:Addr} {o':HO}
theorem HOk.write (ok:HOk P w H h) (mu:GG (H x)) (he:e=x∨H e=some (.own x)) (k:∀b u,b≠e→h.get? b=some u→h'.get? b=some u) (heo:∃u,h'.get? e=some u)
  (new:ObjOk P w (cU H x o') h' x o'):HOk P w (cU H x o') h':=fun b u q=>by
 have nown:∀c y,H c=some (.own y)→c≠x:=fun c y r z=>by subst z;rw[r] at mu;exact mu
 have ntup:∀c xs,H c=some (.tup xs)→c≠x:=fun c xs r z=>by subst z;rw[r] at mu;exact mu
 by_cases hb:b=x
 ·subst hb;rw[bj] at q;cases q;exact new
 ·rw[aK hb] at q
  by_cases hbe:b=e
  ·have q':H b=some (.own x):=by
    rcases he with z|z
    ·exact absurd (hbe.trans z) hb
    ·rw[hbe];exact z
   rw[q] at q';cases q'
   obtain⟨v,hv⟩:=heo
   exact⟨v,by rw[hbe];exact hv⟩
  ·refine(ok b u q).stay (fun c v hc r=>k c v ?_ r) (fun c r=>by rw[aK (nown c b r)];exact r) fun c xs r=>by rw[aK (ntup c xs r)];exact r
   rcases hc with rfl|hc
   ·exact hbe
   ·rintro rfl
    rcases he with z|z
    ·exact nown c b hc z
    ·rw[hc] at z;cases z;exact hb rfl
end
structure Un (fs ex:List Addr) (H H':Hp) (h h':Heap):Prop where
 keep:∀b o,h.get? b=some o→H b=none→b∉fs→b∉ex→h'.get? b=some o
 slot:∀b o,h.get? b=some o→H b=none→b∈fs→b∉ex→∃sl,h'.get? b=some {o with slots:=sl}
 free:∀b o,h.get? b=some o→H b=none→b∉ex→H' b=none
 there:∀b o,h.get? b=some o→b∉ex→∃o',h'.get? b=some o'
 tups:∀b xs,H b=some (.tup xs)→H' b=some (.tup xs)
 frzs:∀b o u,H b=some (.frz o u)→H' b=some (.frz o u)
 tbls:∀b ps,H b=some (.tbl ps)→∃more,H' b=some (.tbl (ps++more))
section
variable {fs fs' ex ex':List Addr} {H H1 H2:Hp} {h h1 h2 h':Heap} {a x e:Addr} {o:HO}
theorem Un.any (u:Un fs ex H H1 h h1) {b:Addr} {ob:Obj} (q:h.get? b=some ob) (n:H b=none) (hx:b∉ex):∃sl,h1.get? b=some {ob with slots:=sl}:=by
 by_cases hb:b∈fs
 ·exact u.slot b ob q n hb hx
 ·exact⟨ob.slots,u.keep b ob q n hb hx⟩
theorem Un.kept (k:∀b u,h.get? b=some u→h'.get? b=some u):Un fs ex H H h h':=
 ⟨fun b ob q _ _ _=>k b ob q,fun b ob q _ _ _=>⟨ob.slots,k b ob q⟩,fun _ _ _ n _=>n,fun b ob q _=>⟨ob,k b ob q⟩,fun _ _ q=>q,fun _ _ _ q=>q,fun _ ps q=>⟨#[],by rw[q];simp⟩⟩
theorem Un.refl:Un fs ex H H h h:=Un.kept fun _ _ q=>q
theorem Un.laid (k:∀b u,h.get? b=some u→h'.get? b=some u) (hp:h.objs.size≤a) (hn:H a=none):Un fs ex H (cU H a o) h h' where
 keep:=fun b u q _ _ _=>k b u q
 slot:=fun b u q _ _ _=>⟨u.slots,k b u q⟩
 free:=fun b u q n _=>by rw[aK (Nat.ne_of_lt (Nat.lt_of_lt_of_le (Heap.lt_size q) hp))];exact n
 there:=fun b u q _=>⟨u,k b u q⟩
 tups:=fun b xs q=>by rw[aK (cY q hn)];exact q
 frzs:=fun b u xs q=>by rw[aK (cY q hn)];exact q
 tbls:=fun b ps q=>⟨#[],by rw[aK (cY q hn),q];simp⟩
theorem Un.write (mu:GG (H x)) (he:e=x∨H e=some (.own x)) (k:∀b u,b≠e→h.get? b=some u→h'.get? b=some u) (heo:∃u,h'.get? e=some u):Un fs ex H (cU H x o) h h':=by
 have hx:∀b,H b=none→b≠x:=fun b n z=>by subst z;rw[n] at mu;exact mu
 have hb:∀b,H b=none→b≠e:=fun b n z=>by
  subst z
  rcases he with r|r
  ·exact hx b n r
  ·rw[n] at r;cases r
 have hm:∀b u,H b=some u→¬GG (some u)→b≠x:=fun b u q nm z=>by subst z;rw[q] at mu;exact nm mu
 refine⟨fun b u q n _ _=>k b u (hb b n) q,fun b u q n _ _=>⟨u.slots,k b u (hb b n) q⟩,fun b u q n _=>by rw[aK (hx b n)];exact n,fun b u q _=> ?_,
  fun b xs q=>by rw[aK (hm b _ q fun z=>z)];exact q,fun b u xs q=>by rw[aK (hm b _ q fun z=>z)];exact q,fun b ps q=>⟨#[],by rw[aK (hm b _ q fun z=>z),q];simp⟩⟩
 by_cases hbe:b=e
 ·subst hbe;exact heo
 ·exact⟨u,k b u hbe q⟩
end
noncomputable def GP (h:Heap) (H:Hp):List Addr:=(List.range h.objs.size).filter fun a=>(H a).isSome
noncomputable def sZ (h:Heap) (H:Hp):Heap:=PySem.W.hideAll h (GP h H)
theorem xI (h:Heap) (H:Hp):(sZ h H).objs.size=h.objs.size:=PySem.W.hideAll_size _ _
theorem Ai {h:Heap} {H:Hp} {b:Addr} {o:Obj} (e:h.get? b=some o) (n:H b=none):(sZ h H).get? b=some o:=
 PySem.W.hideAll_get _ e fun hm=>by
  have q:(H b).isSome=true:=(List.mem_filter.mp hm).2
  rw[n] at q;simp at q
theorem Bo {h:Heap} {H:Hp} {b:Addr} {o:Obj} (e:(sZ h H).get? b=some o):h.get? b=some o∧H b=none:=by
 have e':h.get? b=some o:=PySem.W.of_hideAll (GP h H) e
 refine⟨e',?_⟩
 cases q:H b with
 |none=>rfl
 |some x=>
  have hm:b∈GP h H:=List.mem_filter.mpr ⟨List.mem_range.mpr (Heap.lt_size e'),by simp[q]⟩
  have z:(sZ h H).get? b=none:=PySem.W.hideAll_none (GP h H) hm
  rw[z] at e;cases e
end L2
namespace L2
open PySem PySem.Spec PyProof.Rows
structure Mod (K:PySem.W.Frag) (mg:Str→Option Value) (base:Heap):Prop where
 kin:K.In base
 glob:base.Ns mainGlobals mg
 blt:∃mb,base.Ns builtinsNs mb∧∀x:Str,x≠ "__name__"→mb x=bootBuiltins x
 nolimit:base.NoLimit
structure Cx where
 prog:Program
 w:World
 K:PySem.W.Frag
 mg:Str→Option Value
 base:Heap
 A:Around
 N:List Str
 s₀:Shared
 H₀:Hp
 env:Env
 outer:List Env
 stack:List Env
 ex:List Addr
 fn:Str→Bool
 calm:Bool
 pn:List (Addr×Obj)
 xe:Value→Shared→Prop
noncomputable def ul (l:List Env):List Addr:=l.filterMap (·.frame)
noncomputable abbrev Cx.fs (X:Cx):List Addr:=ul X.outer
noncomputable def He (sc:Scope) (x:Str):Prop:=sc.names.lookup x=some .local∨sc.names.lookup x=some .cell∨sc.names.lookup x=some .free
noncomputable def GD (sc:Scope) (x:Str):Prop:=sc.names.lookup x=some .local∨sc.names.lookup x=some .cell
noncomputable def Hu (env:Env) (h:Heap) (m:Str→Option Value) (x:Str) (u:Value):Prop:=
 (env.kindOf x=some .local∧m x=some u)∨((env.kindOf x=some .cell∨env.kindOf x=some .free)∧∃c,env.cells.lookup x=some c∧h.IsCell c (some u))
structure Cx.Ok (X:Cx):Prop where
 mod:Mod X.K X.mg X.base
 kind:X.env.scope.kind= .function
 glob:X.env.globals=mainGlobals
 blt:X.env.builtins=builtinsNs
 above:X.s₀.heap.objs.size≤X.env.locals
 inj:∀x y c,X.env.cells.lookup x=some c→X.env.cells.lookup y=some c→x=y
 has:∀x,(X.env.kindOf x=some .cell∨X.env.kindOf x=some .free)→∃c,X.env.cells.lookup x=some c
 cab:∀x c,X.fn x=true→X.env.cells.lookup x=some c→X.s₀.heap.objs.size≤c
 hd:X.calm=true→X.A.handled=none
 frames:X.A.frames=some X.stack
 stk:X.stack=X.outer∨(X.stack=X.env::X.outer∧X.env.frame=some X.env.locals)
 exf:∀b∈X.ex,b≠X.env.locals∧∀x c,X.env.cells.lookup x=some c→c≠b
 bs:∀b o,X.base.get? b=some o→X.s₀.heap.get? b=some o∧X.H₀ b=none
 bsz:X.base.objs.size≤X.s₀.heap.objs.size
 noex:∀b o,X.base.get? b=some o→b∉X.ex
 exfs:∀b∈X.ex,b∉X.fs
 funs:X.s₀.heap.FunFrames X.base X.outer
 frf:∀b∈X.fs,X.H₀ b=none
structure Inv (X:Cx) (pins:List (Addr×Obj)) (σ:List (Option V)) (H:Hp) (s:Shared):Prop where
 ok:X.Ok
 os:s.os=X.s₀.os
 bare:AllBare s.gens
 base:Un X.fs X.ex X.H₀ H X.s₀.heap s.heap
 loc:∃m,s.heap.Ns X.env.locals m∧∀(i:Nat) (x:Str) (v:V),X.N[i]? =some x→σ[i]? =some (some v)→He X.env.scope x→∃u,RelV v u∧Hu X.env s.heap m x u
 cell:∀x c,X.env.cells.lookup x=some c→∃v,s.heap.IsCell c v
 free:H X.env.locals=none
 freeC:∀x c,X.env.cells.lookup x=some c→H c=none
 pin:∀p∈X.pn++pins,s.heap.get? p.1=some p.2∧H p.1=none∧p.1≠X.env.locals∧p.1∉X.fs∧∀v,p.2.data≠ .cell v
 hok:HOk X.prog X.w H s.heap
 len:σ.length=X.N.length
section
variable {X:Cx} {pins:List (Addr×Obj)} {σ:List (Option V)} {H H':Hp} {s:Shared} {h':Heap}
theorem Cx.Ok.nofr (ok:X.Ok) {b:Addr} {o:Obj} (e:X.base.get? b=some o):b∉X.fs:=fun hb=>by
 have:=(ok.funs.mem hb).1
 rw[e] at this;cases this
theorem Inv.bs (I:Inv X pins σ H s):∀b o,X.base.get? b=some o→s.heap.get? b=some o∧H b=none:=fun b o e=>
 ⟨I.base.keep b o (I.ok.bs b o e).1 (I.ok.bs b o e).2 (I.ok.nofr e) (I.ok.noex b o e),I.base.free b o (I.ok.bs b o e).1 (I.ok.bs b o e).2 (I.ok.noex b o e)⟩
theorem Inv.bk (I:Inv X pins σ H s):∀b o,X.base.get? b=some o→s.heap.get? b=some o:=fun b o e=>(I.bs b o e).1
theorem Inv.mod (I:Inv X pins σ H s):Mod X.K X.mg X.base:=I.ok.mod
theorem Inv.kIn (I:Inv X pins σ H s):X.K.In s.heap:=I.ok.mod.kin.keeps I.bk
theorem Inv.lt (I:Inv X pins σ H s):X.env.locals<s.heap.objs.size:=let⟨_,hn,_⟩:=I.loc;hn.lt
theorem Inv.sz (I:Inv X pins σ H s):X.s₀.heap.objs.size≤s.heap.objs.size:=Nat.le_trans I.ok.above (Nat.le_of_lt I.lt)
theorem Inv.nofs (I:Inv X pins σ H s) {a:Addr} (h:s.heap.objs.size≤a):a∉X.fs:=fun hb=>by
 obtain⟨_,o,ho,_⟩:=I.ok.funs.mem hb
 exact absurd (Nat.lt_of_lt_of_le (Heap.lt_size ho) (Nat.le_trans I.sz h)) (Nat.lt_irrefl _)
theorem Inv.cne (I:Inv X pins σ H s):∀x c,X.env.cells.lookup x=some c→c≠X.env.locals:=fun x c e z=>by
 obtain⟨v,o,ho,hd⟩:=I.cell x c e
 obtain⟨m,⟨o',es,ep,ho',hd',_⟩,_⟩:=I.loc
 rw[z,ho'] at ho;cases ho;rw[hd'] at hd;cases hd
theorem Inv.funs (I:Inv X pins σ H s):s.heap.FunFrames X.base X.outer:=by
 have all:∀(l:List Env),(∀b∈ul l,b∈X.fs)→X.s₀.heap.FunFrames X.base l→s.heap.FunFrames X.base l:=by
  intro l
  induction l with
  |nil=>intro _ _;trivial
  |cons env r ih=>
   intro hs hl
   obtain⟨hk,⟨L,o,hf,hn,ho,hd⟩,hr⟩:=hl
   have hL:L∈X.fs:=hs L (by unfold ul;rw[List.filterMap_cons,hf];exact List.mem_cons_self)
   obtain⟨sl,e⟩:=I.base.slot L o ho (I.ok.frf L hL) hL fun z=>I.ok.exfs L z hL
   exact⟨hk,⟨L,_,hf,hn,e,hd⟩,ih (fun b hb=>hs b (by unfold ul;rw[List.filterMap_cons,hf];exact List.mem_cons_of_mem _ hb)) hr⟩
 exact all X.outer (fun _ hb=>hb) I.ok.funs
theorem Inv.stack (I:Inv X pins σ H s):s.heap.FunFrames X.base X.stack:=by
 rcases I.ok.stk with e|⟨e,hf⟩
 ·rw[e];exact I.funs
 ·rw[e]
  obtain⟨m,hn,_⟩:=I.loc
  refine .cons (by rw[I.ok.kind];decide) hf hn ?_ I.funs
  exact Heap.get?_none_of_le (Nat.le_trans I.ok.bsz I.ok.above)
theorem Inv.stkSub (I:Inv X pins σ H s):∀b∈ul X.stack,b∈X.env.locals::X.fs:=fun b hb=>by
 rcases I.ok.stk with e|⟨e,hf⟩
 ·rw[e] at hb;exact List.mem_cons_of_mem _ hb
 ·rw[e] at hb
  unfold ul at hb
  rw[List.filterMap_cons,hf] at hb
  exact hb
theorem Inv.stkFree (I:Inv X pins σ H s):∀b∈ul X.stack,H b=none:=fun b hb=>by
 rcases List.mem_cons.mp (I.stkSub b hb) with e|hb
 ·rw[e];exact I.free
 ·obtain⟨_,o,ho,_⟩:=I.ok.funs.mem hb
  exact I.base.free b o ho (I.ok.frf b hb) fun z=>I.ok.exfs b z hb
theorem Inv.step {g':Array GenState} {t':Nat} {d':Drawn} {ch:List Addr} (I:Inv X pins σ H s)
  (hch:∀b∈ch,(b∈X.ex∨X.s₀.heap.objs.size≤b)∧b≠X.env.locals∧(∀x c,X.env.cells.lookup x=some c→c≠b)∧∀p∈X.pn++pins,p.1≠b)
  (keep:∀b o,b≠X.env.locals→b∉X.fs→b∉ch→s.heap.get? b=some o→H b=none→h'.get? b=some o)
  (slot:∀b o,b≠X.env.locals→b∈X.fs→b∉ch→s.heap.get? b=some o→H b=none→∃sl,h'.get? b=some {o with slots:=sl}) (free:∀b o,b∉ch→s.heap.get? b=some o→H b=none→H' b=none)
  (there:∀b o,b∉ch→s.heap.get? b=some o→∃o',h'.get? b=some o')
  (tups:∀b xs,H b=some (.tup xs)→H' b=some (.tup xs)) (frzs:∀b o u,H b=some (.frz o u)→H' b=some (.frz o u)) (tbls:∀b ps,H b=some (.tbl ps)→∃more,H' b=some (.tbl (ps++more)))
  (ns:∀m,s.heap.Ns X.env.locals m→h'.Ns X.env.locals m) (hok:HOk X.prog X.w H' h') (hg:AllBare g'):
  Inv X pins σ H' {s with heap:=h',gens:=g',drawn:=d',toks:=t'}:=by
 have neL:∀b o,X.s₀.heap.get? b=some o→b≠X.env.locals:=fun b o e=>Nat.ne_of_lt (Nat.lt_of_lt_of_le (Heap.lt_size e) I.ok.above)
 have neC:∀b o,X.s₀.heap.get? b=some o→b∉X.ex→b∉ch:=fun b o e hx hb=>by
  rcases(hch b hb).1 with z|z
  ·exact hx z
  ·exact absurd (Nat.lt_of_lt_of_le (Heap.lt_size e) z) (Nat.lt_irrefl _)
 have cellK:∀x c,X.env.cells.lookup x=some c→∀v,s.heap.IsCell c v→h'.IsCell c v:=fun x c e v ⟨o,ho,hd⟩=>by
  have nch:c∉ch:=fun z=>(hch c z).2.2.1 x c e rfl
  by_cases hc:c∈X.fs
  ·obtain⟨sl,q⟩:=slot c o (I.cne x c e) hc nch ho (I.freeC x c e)
   exact⟨_,q,hd⟩
  ·exact⟨o,keep c o (I.cne x c e) hc nch ho (I.freeC x c e),hd⟩
 refine⟨I.ok,I.os,hg,⟨fun b o e n hb hx=> ?_,fun b o e n hb hx=> ?_,fun b o e n hx=> ?_,fun b o e hx=> ?_,fun b xs e=>tups b xs (I.base.tups b xs e),fun b o xs e=>frzs b o xs (I.base.frzs b o xs e),fun b ps e=> ?_⟩,?_,fun x c e=> ?_,?_,fun x c e=> ?_,fun p hp=> ?_,hok,I.len⟩
 ·exact keep b o (neL b o e) hb (neC b o e hx) (I.base.keep b o e n hb hx) (I.base.free b o e n hx)
 ·obtain⟨sl,e1⟩:=I.base.slot b o e n hb hx
  obtain⟨sl',e2⟩:=slot b _ (neL b o e) hb (neC b o e hx) e1 (I.base.free b o e n hx)
  exact⟨sl',e2⟩
 ·obtain⟨o',e1⟩:=I.base.there b o e hx
  exact free b o' (neC b o e hx) e1 (I.base.free b o e n hx)
 ·obtain⟨o',e1⟩:=I.base.there b o e hx
  exact there b o' (neC b o e hx) e1
 ·obtain⟨m1,e1⟩:=I.base.tbls b ps e
  obtain⟨m2,e2⟩:=tbls b _ e1
  exact⟨m1++m2,by rw[e2,Array.append_assoc]⟩
 ·obtain⟨m,hn,hl⟩:=I.loc
  refine⟨m,ns m hn,fun i x v e1 e2 e3=> ?_⟩
  obtain⟨u,r,l⟩:=hl i x v e1 e2 e3
  refine⟨u,r,?_⟩
  rcases l with l|⟨k,c,e,z⟩
  ·exact .inl l
  ·exact .inr ⟨k,c,e,cellK x c e _ z⟩
 ·obtain⟨v,z⟩:=I.cell x c e
  exact⟨v,cellK x c e v z⟩
 ·obtain⟨m,⟨o,_,_,ho,_⟩,_⟩:=I.loc
  exact free _ o (fun z=>(hch _ z).2.1 rfl) ho I.free
 ·obtain⟨v,o,ho,hd⟩:=I.cell x c e
  exact free c o (fun z=>(hch c z).2.2.1 x c e rfl) ho (I.freeC x c e)
 ·obtain⟨e,n,ne,nf,d⟩:=I.pin p hp
  have nch:p.1∉ch:=fun z=>(hch p.1 z).2.2.2 p hp rfl
  exact⟨keep p.1 p.2 ne nf nch e n,free p.1 p.2 nch e n,ne,nf,d⟩
theorem Inv.un {t':Nat} (I:Inv X pins σ H s) (u:Un X.fs [] H H' s.heap h') (hok:HOk X.prog X.w H' h'):Inv X pins σ H' {s with heap:=h',toks:=t'}:=by
 obtain⟨m,⟨o,es,ep,ho,r⟩,_⟩:=id I.loc
 obtain⟨sl,hL⟩:=u.any ho I.free (by simp)
 exact I.step (g':=s.gens) (d':=s.drawn) (ch:=[]) (fun _ z=>nomatch z) (fun b o _ hb _ e n=>u.keep b o e n hb (by simp)) (fun b o _ hb _ e n=>u.slot b o e n hb (by simp)) (fun b o _ e n=>u.free b o e n (by simp)) (fun b o _ e=>u.there b o e (by simp)) u.tups u.frzs u.tbls (fun m' hm=>by
  obtain⟨o',es',ep',ho',r'⟩:=hm
  rw[ho] at ho';cases ho'
  exact⟨_,es',ep',hL,r'⟩) hok I.bare
theorem Inv.call {g':Array GenState} {t':Nat} {d':Drawn} {ch:List Addr} (I:Inv X pins σ H s) (u:Un (ul X.stack) ch H H' s.heap h') (hok:HOk X.prog X.w H' h') (hg:AllBare g')
  (hch:∀b∈ch,(b∈X.ex∨X.s₀.heap.objs.size≤b)∧b≠X.env.locals∧(∀x c,X.env.cells.lookup x=some c→c≠b)∧∀p∈X.pn++pins,p.1≠b):
  Inv X pins σ H' {s with heap:=h',gens:=g',drawn:=d',toks:=t'}:=by
 obtain⟨m,⟨o,es,ep,ho,r⟩,_⟩:=id I.loc
 obtain⟨sl,hL⟩:=u.any ho I.free fun z=>(hch _ z).2.1 rfl
 exact I.step (ch:=ch) hch (fun b o hL hb hc e n=>u.keep b o e n (fun z=>(List.mem_cons.mp (I.stkSub b z)).elim hL hb) hc) (fun b o _ _ hc e n=>u.any e n hc) (fun b o hc e n=>u.free b o e n hc) (fun b o hc e=>u.there b o e hc) u.tups u.frzs u.tbls (fun m' hm=>by
  obtain⟨o',es',ep',ho',r'⟩:=hm
  rw[ho] at ho';cases ho'
  exact⟨_,es',ep',hL,r'⟩) hok hg
theorem Inv.turned {t':Nat} {it:Addr} (I:Inv X pins σ H s) (k:∀b o,b≠it→s.heap.get? b=some o→h'.get? b=some o) (hn:H it=none) (hL:it≠X.env.locals)
  (h1:it∈X.ex∨X.s₀.heap.objs.size≤it) (h2:∀x c,X.env.cells.lookup x=some c→c≠it) (h3:∀p∈X.pn++pins,p.1≠it):Inv X pins σ H {s with heap:=h',toks:=t'}:=by
 have nit:∀b u,H b=some u→b≠it:=fun b u e z=>by rw[z,hn] at e;cases e
 refine I.step (g':=s.gens) (d':=s.drawn) (ch:=[it]) (fun b hb=> ?_) (fun b o _ _ hc e _=>k b o (fun z=>hc (by simp[z])) e) (fun b o _ _ hc e _=>⟨o.slots,k b o (fun z=>hc (by simp[z])) e⟩) (fun _ _ _ _ n=>n)
  (fun b o hc e=>⟨o,k b o (fun z=>hc (by simp[z])) e⟩) (fun _ _ e=>e) (fun _ _ _ e=>e) (fun b ps e=>⟨#[],by rw[e];simp⟩) (fun m hm=> ?_) (fun b u e=> ?_) I.bare
 ·have e:b=it:=by simpa using hb
  subst e
  exact⟨h1,hL,h2,h3⟩
 ·obtain⟨o,es,ep,ho,r⟩:=hm
  exact⟨o,es,ep,k _ o (Ne.symm hL) ho,r⟩
 ·refine(I.hok b u e).stay (fun c v hc q=>k c v ?_ q) (fun _ q=>q) fun _ _ q=>q
  rcases hc with z|z
  ·rw[z];exact nit b u e
  ·exact nit c _ z
theorem Inv.tok (I:Inv X pins σ H s) (t:Nat):Inv X pins σ H {s with toks:=t}:=I.un (h':=s.heap) (t':=t) Un.refl I.hok
theorem Inv.kept {t':Nat} (I:Inv X pins σ H s) (k:∀b u,s.heap.get? b=some u→h'.get? b=some u):Inv X pins σ H {s with heap:=h',toks:=t'}:=I.un (Un.kept k) (I.hok.kept k)
theorem Inv.laid {a:Addr} {o:HO} {t':Nat} (I:Inv X pins σ H s) (k:∀b u,s.heap.get? b=some u→h'.get? b=some u) (hp:s.heap.objs.size≤a) (new:ObjOk X.prog X.w (cU H a o) h' a o):
  Inv X pins σ (cU H a o) {s with heap:=h',toks:=t'}:=I.un (Un.laid k hp (I.hok.fresh hp)) (I.hok.laid k hp new)
theorem Inv.write {x e:Addr} {o:HO} {t':Nat} (I:Inv X pins σ H s) (mu:GG (H x)) (he:e=x∨H e=some (.own x)) (k:∀b u,b≠e→s.heap.get? b=some u→h'.get? b=some u) (heo:∃u,h'.get? e=some u)
  (new:ObjOk X.prog X.w (cU H x o) h' x o):Inv X pins σ (cU H x o) {s with heap:=h',toks:=t'}:=I.un (Un.write mu he k heo) (I.hok.write mu he k heo new)
theorem Inv.pins_of {pins':List (Addr×Obj)} (I:Inv X pins σ H s) (h:∀p∈pins',s.heap.get? p.1=some p.2∧H p.1=none∧p.1≠X.env.locals∧p.1∉X.fs∧∀v,p.2.data≠ .cell v):Inv X pins' σ H s:=
 ⟨I.ok,I.os,I.bare,I.base,I.loc,I.cell,I.free,I.freeC,fun p hp=>(List.mem_append.mp hp).elim (fun z=>I.pin p (List.mem_append_left _ z)) (h p),I.hok,I.len⟩
theorem n6 {N:List Str} (hN:N.Nodup) {i j:Nat} {x:Str} (a:N[i]? =some x) (b:N[j]? =some x):i=j:=by
 obtain⟨h1,e1⟩:=List.getElem?_eq_some_iff.mp a
 obtain⟨h2,e2⟩:=List.getElem?_eq_some_iff.mp b
 exact(List.getElem_inj hN).mp (e1.trans e2.symm)
theorem p7 {M:Model} {A:Around} {E:Value→Shared→Prop} {i:Nat} {x:Str} {v:V} {u:Value} {Q:Unit→Shared→Prop} (I:Inv X pins σ H s) (hN:X.N.Nodup) (hi:X.N[i]? =some x) (hx:GD X.env.scope x) (r:RelV v u)
  (h:∀s',Inv X pins (σ.set i (some v)) H s'→(∃a,Heap.SameBut a s.heap s'.heap∧(a=X.env.locals∨X.env.cells.lookup x=some a))→Q () s') (hf:X.fn x=true∨X.env.scope.names.lookup x=some .local:=by first|exact .inl rfl|exact .inr rfl|assumption):wpAny M A (storeName X.env x u) Q E s:=by
 obtain⟨m,hn,hl⟩:=id I.loc
 have hcls:(X.env.scope.kind== .class||(X.env.scope.kind== .module&&X.env.locals !=X.env.globals))=false:=by rw[I.ok.kind];rfl
 have hiσ:i<σ.length:=by rw[I.len];exact(List.getElem?_eq_some_iff.mp hi).1
 have cne:=I.cne
 have tracked:∀{a:Addr} {h':Heap},(∃o,s.heap.get? a=some o∧H a=none)→Heap.SameBut a s.heap h'→HOk X.prog X.w H h':=fun{a h'} ha hs b ob e=>by
  obtain⟨_,_,hfree⟩:=ha
  refine(I.hok b ob e).stay (fun c w' hc q=>(hs.2 c ?_).trans q) (fun _ q=>q) fun _ _ q=>q
  rintro rfl
  rcases hc with rfl|hc
  ·rw[hfree] at e;cases e
  ·rw[hfree] at hc;cases hc
 rcases hx with hk|hk
 ·refine wpAny_storeName_local hk hn (fun h' hn' hs=> ?_) hcls
  obtain⟨oL,_,_,hoL,_⟩:=id hn
  refine h _ ⟨I.ok,I.os,I.bare,⟨fun b o e n hb hx=> ?_,fun b o e n hb hx=> ?_,I.base.free,fun b o e hx=> ?_,I.base.tups,I.base.frzs,I.base.tbls⟩,⟨_,hn',fun j y v' e1 e2 e3=> ?_⟩,fun y c e=> ?_,I.free,I.freeC,fun p hp=> ?_,tracked ⟨oL,hoL,I.free⟩ hs,by simpa using I.len⟩ ⟨_,hs,.inl rfl⟩
  ·exact(hs.2 b (Nat.ne_of_lt (Nat.lt_of_lt_of_le (Heap.lt_size e) I.ok.above))).trans (I.base.keep b o e n hb hx)
  ·obtain⟨sl,e1⟩:=I.base.slot b o e n hb hx
   exact⟨sl,(hs.2 b (Nat.ne_of_lt (Nat.lt_of_lt_of_le (Heap.lt_size e) I.ok.above))).trans e1⟩
  ·obtain⟨o',e1⟩:=I.base.there b o e hx
   exact⟨o',(hs.2 b (Nat.ne_of_lt (Nat.lt_of_lt_of_le (Heap.lt_size e) I.ok.above))).trans e1⟩
  ·by_cases hj:j=i
   ·subst hj
    rw[hi] at e1;cases e1
    rw[List.getElem?_set_self hiσ] at e2
    cases e2
    exact⟨u,r,.inl ⟨hk,by simp⟩⟩
   ·rw[List.getElem?_set_ne (Ne.symm hj)] at e2
    obtain⟨u',r',q⟩:=hl j y v' e1 e2 e3
    refine⟨u',r',?_⟩
    rcases q with⟨k,e⟩|⟨k,c,e,z⟩
    ·refine .inl ⟨k,?_⟩
     have:y≠x:=fun e=>hj (n6 hN e1 (e▸hi))
     simp[this,e]
    ·exact .inr ⟨k,c,e,z.sameBut hs (cne y c e)⟩
  ·obtain⟨w',z⟩:=I.cell y c e
   exact⟨w',z.sameBut hs (cne y c e)⟩
  ·obtain⟨e,n,ne,nf,d⟩:=I.pin p hp
   exact⟨(hs.2 p.1 ne).trans e,n,ne,nf,d⟩
 ·have hfn:X.fn x=true:=by
   rcases hf with z|z
   ·exact z
   ·rw[z] at hk;cases hk
  obtain⟨c,hc⟩:=I.ok.has x (.inl hk)
  obtain⟨w',z⟩:=I.cell x c hc
  refine wpAny_storeName_cell I.ok.kind hk hc z (fun h' hc' hs=> ?_)
  obtain⟨oc,hoc,hocd⟩:=id z
  refine h {s with heap:=h'} ⟨I.ok,I.os,I.bare,⟨fun b o e n hb hx=> ?_,fun b o e n hb hx=> ?_,I.base.free,fun b o e hx=> ?_,I.base.tups,I.base.frzs,I.base.tbls⟩,⟨m,hn.sameBut hs (Ne.symm (cne x c hc)),fun j y v' e1 e2 e3=> ?_⟩,fun y c' e=> ?_,I.free,I.freeC,fun p hp=> ?_,tracked ⟨oc,hoc,I.freeC x c hc⟩ hs,by simpa using I.len⟩ ⟨c,hs,.inr hc⟩
  ·exact(hs.2 b (Nat.ne_of_lt (Nat.lt_of_lt_of_le (Heap.lt_size e) (I.ok.cab x c hfn hc)))).trans (I.base.keep b o e n hb hx)
  ·obtain⟨sl,e1⟩:=I.base.slot b o e n hb hx
   exact⟨sl,(hs.2 b (Nat.ne_of_lt (Nat.lt_of_lt_of_le (Heap.lt_size e) (I.ok.cab x c hfn hc)))).trans e1⟩
  ·obtain⟨o',e1⟩:=I.base.there b o e hx
   exact⟨o',(hs.2 b (Nat.ne_of_lt (Nat.lt_of_lt_of_le (Heap.lt_size e) (I.ok.cab x c hfn hc)))).trans e1⟩
  ·by_cases hj:j=i
   ·subst hj
    rw[hi] at e1;cases e1
    rw[List.getElem?_set_self hiσ] at e2
    cases e2
    exact⟨u,r,.inr ⟨.inl hk,c,hc,hc'⟩⟩
   ·rw[List.getElem?_set_ne (Ne.symm hj)] at e2
    obtain⟨u',r',q⟩:=hl j y v' e1 e2 e3
    refine⟨u',r',?_⟩
    rcases q with q|⟨k,c',e,z'⟩
    ·exact .inl q
    ·refine .inr ⟨k,c',e,z'.sameBut hs ?_⟩
     rintro rfl
     exact hj (n6 hN e1 (I.ok.inj _ _ _ e hc▸hi))
  ·by_cases hcc:c'=c
   ·subst hcc;exact⟨_,hc'⟩
   ·obtain⟨w2,z2⟩:=I.cell y c' e
    exact⟨w2,z2.sameBut hs hcc⟩
  ·obtain⟨e,n,ne,nf,d⟩:=I.pin p hp
   refine⟨(hs.2 p.1 ?_).trans e,n,ne,nf,d⟩
   intro q
   rw[q,hoc] at e
   have q':oc=p.2:=Option.some.inj e
   exact d w' (by rw[←q'];exact hocd)
theorem oj {M:Model} {A:Around} {E:Value→Shared→Prop} {i:Nat} {x:Str} {v:V} {u:Value} {Q:Unit→Shared→Prop} (I:Inv X pins σ H s) (hN:X.N.Nodup) (hi:X.N[i]? =some x) (hx:GD X.env.scope x) (r:RelV v u)
  (h:∀s',Inv X pins (σ.set i (some v)) H s'→Q () s') (hf:X.fn x=true∨X.env.scope.names.lookup x=some .local:=by first|exact .inl rfl|exact .inr rfl|assumption):wpAny M A (storeName X.env x u) Q E s:=
 p7 I hN hi hx r (fun s' I' _=>h s' I') hf
theorem Inv.call' {s':Shared} {ch:List Addr} (I:Inv X pins σ H s) (ho:s'.os=s.os) (u:Un (ul X.stack) ch H H' s.heap s'.heap) (hok:HOk X.prog X.w H' s'.heap) (hg:AllBare s'.gens)
  (hch:∀b∈ch,(b∈X.ex∨X.s₀.heap.objs.size≤b)∧b≠X.env.locals∧(∀x c,X.env.cells.lookup x=some c→c≠b)∧∀p∈X.pn++pins,p.1≠b):Inv X pins σ H' s':=by
 obtain⟨h',g',d',t',o'⟩:=s'
 have e:o'=s.os:=ho
 subst e
 exact I.call (g':=g') (t':=t') (d':=d') u hok hg hch
end
noncomputable abbrev XK:=Value→Option Addr→Hp→Prop
noncomputable abbrev St:=List (Option V)
noncomputable abbrev VK:=V→Hp→Prop
noncomputable abbrev TE:=St→Hp→VK→Prop
noncomputable abbrev TT:=St→Hp→(Bool→Hp→Prop)→Prop
noncomputable abbrev TA:=St→Hp→(List V→Hp→Prop)→Prop
structure Ends where
 nx:St→Hp→Prop
 rt:VK
 bk:St→Hp→Prop:=fun _ _=>False
 ct:St→Hp→Prop:=fun _ _=>False
noncomputable abbrev TS:=Ends→St→Hp→Prop
noncomputable def EP (X:Cx) (pins:List (Addr×Obj)) (σ:St) (Q:VK) (u:Value) (s':Shared):Prop:=∃v H',Inv X pins σ H' s'∧RelV v u∧Q v H'
noncomputable def TP (X:Cx) (pins:List (Addr×Obj)) (σ:St) (Q:Bool→Hp→Prop) (b:Bool) (s':Shared):Prop:=∃H',Inv X pins σ H' s'∧Q b H'
noncomputable def AP (X:Cx) (pins:List (Addr×Obj)) (σ:St) (Q:List V→Hp→Prop) (us:List Value) (s':Shared):Prop:=∃vs H',Inv X pins σ H' s'∧Vals vs us∧Q vs H'
noncomputable def SP (X:Cx) (pins:List (Addr×Obj)) (D:Ends) (f:Flow) (s':Shared):Prop:=
 match f with
 | .next=>∃σ' H',Inv X pins σ' H' s'∧D.nx σ' H'
 | .brk=>∃σ' H',Inv X pins σ' H' s'∧D.bk σ' H'
 | .cont=>∃σ' H',Inv X pins σ' H' s'∧D.ct σ' H'
 | .ret u=>∃v σ' H',Inv X pins σ' H' s'∧RelV v u∧D.rt v H'
noncomputable def PE (X:Cx) (e:Expr) (t:TE):Prop:=
 ∀(pins:List (Addr×Obj)) (s:Shared) (σ:St) (H:Hp) (Q:VK),Inv X pins σ H s→t σ H Q→wpAny (model X.prog X.w) X.A (eval e X.env) (EP X pins σ Q) X.xe s
noncomputable def PT (X:Cx) (e:Expr) (t:TT):Prop:=
 ∀(pins:List (Addr×Obj)) (s:Shared) (σ:St) (H:Hp) (Q:Bool→Hp→Prop),Inv X pins σ H s→t σ H Q→wpAny (model X.prog X.w) X.A (isTrue e X.env (eval e X.env)) (TP X pins σ Q) X.xe s
noncomputable def PW (X:Cx) (e:Expr) (t:TT):Prop:=
 ∀(whole:Sem Value) (pins:List (Addr×Obj)) (s:Shared) (σ:St) (H:Hp) (Q:Bool→Hp→Prop),Inv X pins σ H s→t σ H Q→wpAny (model X.prog X.w) X.A (isTrue e X.env whole) (TP X pins σ Q) X.xe s
theorem PW.pt {X:Cx} {e:Expr} {t:TT} (h:PW X e t):PT X e t:=h _
noncomputable def PA (X:Cx) (es:List Expr) (t:TA):Prop:=
 ∀(pos:Pos) (pins:List (Addr×Obj)) (s:Shared) (σ:St) (H:Hp) (Q:List V→Hp→Prop),Inv X pins σ H s→t σ H Q→wpAny (model X.prog X.w) X.A (spliced (backTo pos (starEach es X.env))) (AP X pins σ Q) X.xe s
noncomputable def PS (X:Cx) (st:Stmt) (t:TS):Prop:=
 ∀(pins:List (Addr×Obj)) (s:Shared) (σ:St) (H:Hp) (D:Ends),Inv X pins σ H s→t D σ H→wpAny (model X.prog X.w) X.A (exec st X.env) (SP X pins D) X.xe s
noncomputable def PSs (X:Cx) (st:List Stmt) (t:TS):Prop:=
 ∀(pins:List (Addr×Obj)) (s:Shared) (σ:St) (H:Hp) (D:Ends),Inv X pins σ H s→t D σ H→wpAny (model X.prog X.w) X.A (execs st X.env) (SP X pins D) X.xe s
theorem eJ {α:Type} {t:Sem α} {Q Q':α→Shared→Prop} {M:Model} {A:Around} {E:Value→Shared→Prop} {s:Shared} (h:wpAny M A t Q E s) (hQ:∀a s,Q a s→Q' a s):wpAny M A t Q' E s:=wpAny_mono h hQ fun _ _ x=>x
end L2
namespace L2
open PySem PySem.Spec PyProof.Rows
section
variable {X:Cx}
noncomputable def rB (i:Nat):TE:=fun σ H Q=>∃v,σ[i]? =some (some v)∧Q v H
noncomputable def tC (v:V):TE:=fun _ H Q=>Q v H
theorem ES {i:Nat} {x:Str} {pos:Pos} (hN:X.N[i]? =some x) (hv:He X.env.scope x) (hd:(x==("__debug__":Str))=false:=by decide) (hcd:(x==("__classdict__":Str))=false:=by decide):PE X (.Name x pos) (rB i):=by
 intro pins s σ H Q I h
 obtain⟨v,e,h⟩:=h
 obtain⟨m,hn,hl⟩:=I.loc
 obtain⟨u,r,l⟩:=hl i x v hN e hv
 have fin:EP X pins σ Q u s:=⟨v,H,I,r,h⟩
 rcases l with⟨hk,hm⟩|⟨hk,c,hc,hcell⟩
 ·exact wpAny_Name (wpAny_loadName_local I.ok.kind hk hn hm fin) hd
 ·rcases hk with hk|hk
  ·exact wpAny_Name (wpAny_loadName_cell I.ok.kind hk hc hcell fin) hd
  ·exact wpAny_Name (wpAny_loadName_free I.ok.kind hk hc hcell fin hcd) hd
theorem ah {i j pos}:PE X (.Constant (.int i) j pos) (tC (.int i)):=fun _ _ _ H _ I h=>wpAny_Constant_int ⟨.int i,H,I.tok _,⟨_,rfl⟩,h⟩
theorem jY {b j pos}:PE X (.Constant (.bool b) j pos) (tC (.bl b)):=fun _ _ _ H _ I h=>Constant_bool ⟨.bl b,H,I,rfl,h⟩
theorem dC {j pos}:PE X (.Constant .none j pos) (tC .non):=fun _ _ _ H _ I h=>Constant_none ⟨.non,H,I,rfl,h⟩
theorem a9 {x j pos}:PE X (.Constant (.str x) j pos) (tC (.str x)):=fun _ _ _ H _ I h=>Calls.Constant_str ⟨.str x,H,I.tok _,⟨_,rfl⟩,h⟩
noncomputable def Gl (X:Cx) (x:Str):Prop:=X.env.kindOf x=some .globalImplicit
theorem lW {E:Value→Shared→Prop} {pins:List (Addr×Obj)} {s:Shared} {σ:St} {H:Hp} {x:Str} {u:Value} {pos:Pos} {Q:Value→Shared→Prop} (I:Inv X pins σ H s) (hg:Gl X x) (hm:X.mg x=some u) (h:Q u s)
  (hd:(x==("__debug__":Str))=false:=by decide):wpAny (model X.prog X.w) X.A (eval (.Name x pos) X.env) Q E s:=
 Calls.Name_function_global I.ok.kind hg (Calls.loadGlobal_global (by rw[I.ok.glob];exact I.mod.glob.keeps I.bk) hm h) hd
theorem mq {E:Value→Shared→Prop} {pins:List (Addr×Obj)} {s:Shared} {σ:St} {H:Hp} {x:Str} {u:Value} {pos:Pos} {Q:Value→Shared→Prop} (I:Inv X pins σ H s) (hg:Gl X x) (hm:X.mg x=none) (hv:bootBuiltins x=some u) (h:Q u s)
  (hn:x≠ "__name__":=by decide) (hd:(x==("__debug__":Str))=false:=by decide):wpAny (model X.prog X.w) X.A (eval (.Name x pos) X.env) Q E s:=by
 obtain⟨mb,h1,h2⟩:=I.mod.blt
 exact Calls.Name_function_global I.ok.kind hg (Calls.loadGlobal_builtin (by rw[I.ok.glob];exact I.mod.glob.keeps I.bk) hm (by rw[I.ok.blt];exact h1.keeps I.bk) ((h2 x hn).trans hv) h) hd
theorem eZ {x:Str} {v:V} {u:Value} {pos:Pos} (hg:Gl X x) (hm:X.mg x=some u) (r:RelV v u) (hd:(x==("__debug__":Str))=false:=by decide):PE X (.Name x pos) (tC v):=
 fun _ _ _ H _ I h=>lW I hg hm ⟨v,H,I,r,h⟩ hd
theorem rl {x:Str} {v:V} {u:Value} {pos:Pos} (hg:Gl X x) (hm:X.mg x=none) (hv:bootBuiltins x=some u) (r:RelV v u) (hn:x≠ "__name__":=by decide) (hd:(x==("__debug__":Str))=false:=by decide):PE X (.Name x pos) (tC v):=
 fun _ _ _ H _ I h=>mq I hg hm hv ⟨v,H,I,r,h⟩ hn hd
variable {a b:Expr} {ta tb:TE} {pos:Pos}
noncomputable def tB (t:TE):TT:=fun σ H Q=>t σ H fun x H1=>∃c,x= .bl c∧Q c H1
theorem gn {e:Expr} {t:TE} (h:PE X e t) (he:∀whole,isTrue e X.env whole=(do let v←whole;standAt e.pos;holding [v] (truthy v)):=by intro _;rfl):PT X e (tB t):=by
 intro pins s σ H Q I hw
 refine isTrue_plain (eJ (h pins s σ H _ I hw) fun v s1 ⟨x,H1,I1,r1,q1⟩=> ?_) (he _)
 obtain⟨d,rfl,q⟩:=q1
 cases r1
 exact wpAny_truthy_bool ⟨H1,I1,q⟩
variable {tA tB':TT} {rest:List Expr}
noncomputable def FJ (t u:TT):TT:=fun σ H Q=>t σ H fun c H1=>if c=true then u σ H1 Q else Q false H1
noncomputable def G1 (t u:TT):TT:=fun σ H Q=>t σ H fun c H1=>if c=true then Q true H1 else u σ H1 Q
noncomputable def ET (t:TT):TT:=fun σ H Q=>t σ H fun c H1=>Q (!c) H1
theorem eG (ha:PT X a tA):PW X (.BoolOp .And [a] pos) tA:=by
 intro wh pins s σ H Q I h
 refine isTrue_and (eJ (ha pins s σ H Q I h) fun c s1 e=> ?_)
 cases c with
 |true=>exact isTrue_and_nil e
 |false=>exact e
theorem gF (ha:PT X a tA):PW X (.BoolOp .Or [a] pos) tA:=by
 intro wh pins s σ H Q I h
 refine isTrue_or (eJ (ha pins s σ H Q I h) fun c s1 e=> ?_)
 cases c with
 |false=>exact isTrue_or_nil e
 |true=>exact e
theorem fP (ha:PT X a tA) (hb:PW X (.BoolOp .And (b::rest) pos) tB'):PW X (.BoolOp .And (a::b::rest) pos) (FJ tA tB'):=by
 intro wh pins s σ H Q I h
 refine isTrue_and (eJ (ha pins s σ H _ I h) fun c s1 ⟨H1,I1,q1⟩=> ?_)
 cases c with
 |true=>exact hb wh pins s1 σ H1 Q I1 q1
 |false=>exact⟨H1,I1,q1⟩
theorem gY (ha:PT X a tA) (hb:PW X (.BoolOp .Or (b::rest) pos) tB'):PW X (.BoolOp .Or (a::b::rest) pos) (G1 tA tB'):=by
 intro wh pins s σ H Q I h
 refine isTrue_or (eJ (ha pins s σ H _ I h) fun c s1 ⟨H1,I1,q1⟩=> ?_)
 cases c with
 |true=>exact⟨H1,I1,q1⟩
 |false=>exact hb wh pins s1 σ H1 Q I1 q1
theorem f9 (ha:PT X a tA):PT X (.UnaryOp .Not a pos) (ET tA):=by
 intro pins s σ H Q I h
 exact isTrue_not (ha pins s σ H (fun c H1=>Q (!c) H1) I h)
noncomputable def C7 (ta tb:TE):TE:=fun σ H Q=>ta σ H fun x H1=>∃c,x= .bl c∧if c=true then tb σ H1 Q else Q (.bl false) H1
noncomputable def FM (ta tb:TE):TE:=fun σ H Q=>ta σ H fun x H1=>∃c,x= .bl c∧if c=true then Q (.bl true) H1 else tb σ H1 Q
noncomputable def CT (ta:TE):TE:=fun σ H Q=>ta σ H fun x H1=>∃c,x= .bl c∧Q (.bl (!c)) H1
theorem mJ {op} {t:TE} (h:PE X a t):PE X (.BoolOp op [a] pos) t:=fun pins s σ H Q I hw=>BoolOp_one (h pins s σ H Q I hw)
theorem sU (ha:PE X a ta) (hb:PE X (.BoolOp .And (b::rest) pos) tb):PE X (.BoolOp .And (a::b::rest) pos) (C7 ta tb):=by
 intro pins s σ H Q I h
 refine BoolOp_and (eJ (ha pins s σ H _ I h) fun v s1 ⟨x,H1,I1,r1,q1⟩=> ?_)
 obtain⟨c,rfl,q1⟩:=q1
 cases r1
 refine wpAny_truthy_bool ?_
 cases c with
 |true=>exact hb pins s1 σ H1 Q I1 q1
 |false=>exact⟨.bl false,H1,I1,rfl,q1⟩
theorem CH (ha:PE X a ta) (hb:PE X (.BoolOp .Or (b::rest) pos) tb):PE X (.BoolOp .Or (a::b::rest) pos) (FM ta tb):=by
 intro pins s σ H Q I h
 refine BoolOp_or (eJ (ha pins s σ H _ I h) fun v s1 ⟨x,H1,I1,r1,q1⟩=> ?_)
 obtain⟨c,rfl,q1⟩:=q1
 cases r1
 refine wpAny_truthy_bool ?_
 cases c with
 |false=>exact hb pins s1 σ H1 Q I1 q1
 |true=>exact⟨.bl true,H1,I1,rfl,q1⟩
theorem Di (ha:PE X a ta):PE X (.UnaryOp .Not a pos) (CT ta):=by
 intro pins s σ H Q I h
 refine UnaryOp_ (eJ (ha pins s σ H _ I h) fun v s1 ⟨x,H1,I1,r1,q1⟩=> ?_)
 obtain⟨c,rfl,q1⟩:=q1
 cases r1
 exact not_of (wpAny_truthy_bool ⟨.bl (!c),H1,I1,rfl,q1⟩)
noncomputable def HX (t:TT) (ta tb:TE):TE:=fun σ H Q=>t σ H fun c H1=>if c=true then ta σ H1 Q else tb σ H1 Q
end
end L2
namespace L2
open PySem PySem.Spec PyProof.Rows
noncomputable def SqL (K:PySem.W.Frag) (H:Hp) (a:Addr) (xs:List V):Prop:=
 Rd H a (.lst xs)∨
  ∃(o:Obj) (its:Array Value) (n:Nat),K.lookup a=some o∧o.cls= .type "list"∧o.dict=none∧o.data= .seq its n∧its.size≤sizeLine∧Vals xs its.toList
noncomputable def SqT (K:PySem.W.Frag) (H:Hp) (a:Addr) (xs:List V):Prop:=
 Rd H a (.tup xs)∨
  ∃(o:Obj) (its:Array Value) (n:Nat),K.lookup a=some o∧o.cls= .type "tuple"∧o.data= .seq its n∧its.size≤sizeLine∧Vals xs its.toList
noncomputable def Hn:Value→Option V
 | .none=>some .non
 | .bool b=>some (.bl b)
 | .int i _=>some (.int i)
 | .str x _=>some (.str x)
 | .bytes b _=>some (.byt b)
 | .float b _=>some (.flt b)
 | .ref a=>some (.ref a)
 | .type n=>some (.ty n)
 |_=>none
theorem RelV.abs {x:V} {u:Value} (r:RelV x u):Hn u=some x:=by
 cases x with
 |non=>cases r;rfl
 |bl _=>cases r;rfl
 |int _=>obtain⟨t,rfl⟩:=r;rfl
 |str _=>obtain⟨t,rfl⟩:=r;rfl
 |byt _=>obtain⟨t,rfl⟩:=r;rfl
 |flt _=>obtain⟨t,rfl⟩:=r;rfl
 |ref _=>cases r;rfl
 |ty _=>cases r;rfl
theorem RelV.inj {x y:V} {u:Value} (r:RelV x u) (q:RelV y u):x=y:=Option.some.inj (r.abs.symm.trans q.abs)
theorem Vals.inj:∀{xs ys:List V} {us:List Value},Vals xs us→Vals ys us→xs=ys
 |_,_,_,.nil,.nil=>rfl
 |_,_,_,.cons r t,.cons r' t'=>by rw[r.inj r',Vals.inj t t']
section
variable {X:Cx} {pins:List (Addr×Obj)} {σ:St} {H:Hp} {s:Shared} {a:Addr} {xs ys:List V}
theorem SqL.of {K:PySem.W.Frag} (h:H a=some (.lst xs)):SqL K H a xs:= .inl (.inl h)
theorem SqT.of {K:PySem.W.Frag} (h:H a=some (.tup xs)):SqT K H a xs:= .inl (.inl h)
theorem Inv.list (I:Inv X pins σ H s) (h:SqL X.K H a xs):∃its:List Value,Vals xs its∧PlainL s.heap a its.toArray∧xs.length≤sizeLine:=by
 rcases h with h|⟨o,its,n,hk,hc,hd,hs,hz,r⟩
 ·obtain⟨z,its,n,r,e⟩:=h.ok I.hok
  exact⟨its,r,⟨_,n,e,rfl,rfl,rfl⟩,z⟩
 ·refine⟨its.toList,r,⟨o,n,I.kIn a o hk,hc,hd,by simpa using hs⟩,?_⟩
  have e:=r.length
  simp only[Array.length_toList] at e
  omega
theorem Inv.tuple (I:Inv X pins σ H s) (h:SqT X.K H a xs):∃its:List Value,Vals xs its∧IsTup s.heap a its.toArray∧xs.length≤sizeLine:=by
 rcases h with h|⟨o,its,n,hk,hc,hs,hz,r⟩
 ·obtain⟨z,its,r,p⟩:=h.ok I.hok
  exact⟨its,r,p,z⟩
 ·refine⟨its.toList,r,⟨o,I.kIn a o hk,hc,n,by simpa using hs⟩,?_⟩
  have e:=r.length
  simp only[Array.length_toList] at e
  omega
theorem Inv.list_inj (I:Inv X pins σ H s) (h:SqL X.K H a xs) (h':SqL X.K H a ys):xs=ys:=by
 obtain⟨its,r,⟨o,n,e,_,_,d⟩,_⟩:=I.list h
 obtain⟨its',r',⟨o',n',e',_,_,d'⟩,_⟩:=I.list h'
 rw[e] at e';cases e'
 rw[d] at d'
 injection d' with d1 _
 have:its=its':=by simpa using congrArg Array.toList d1
 subst this
 exact r.inj r'
theorem Inv.tuple_inj (I:Inv X pins σ H s) (h:SqT X.K H a xs) (h':SqT X.K H a ys):xs=ys:=by
 obtain⟨its,r,⟨o,e,_,n,d⟩,_⟩:=I.tuple h
 obtain⟨its',r',⟨o',e',_,n',d'⟩,_⟩:=I.tuple h'
 rw[e] at e';cases e'
 rw[d] at d'
 injection d' with d1 _
 have:its=its':=by simpa using congrArg Array.toList d1
 subst this
 exact r.inj r'
end
noncomputable abbrev Cx.wish (X:Cx) (E:Value→Shared→Prop):Cx:={X with xe:=E}
noncomputable abbrev Cx.nox (X:Cx):Cx:=X.wish fun _ _=>False
theorem Cx.Ok.wish {X:Cx} (ok:X.Ok) (E:Value→Shared→Prop):(X.wish E).Ok:=
 ⟨ok.mod,ok.kind,ok.glob,ok.blt,ok.above,ok.inj,ok.has,ok.cab,ok.hd,ok.frames,ok.stk,ok.exf,ok.bs,ok.bsz,ok.noex,ok.exfs,ok.funs,ok.frf⟩
theorem Cx.Ok.unwish {X:Cx} {E:Value→Shared→Prop} (ok:(X.wish E).Ok):X.Ok:=
 ⟨ok.mod,ok.kind,ok.glob,ok.blt,ok.above,ok.inj,ok.has,ok.cab,ok.hd,ok.frames,ok.stk,ok.exf,ok.bs,ok.bsz,ok.noex,ok.exfs,ok.funs,ok.frf⟩
section
variable {X:Cx} {pins:List (Addr×Obj)} {σ:St} {H:Hp} {s:Shared} {E:Value→Shared→Prop}
theorem Inv.wish (I:Inv X pins σ H s) (E:Value→Shared→Prop):Inv (X.wish E) pins σ H s:=⟨I.ok.wish E,I.os,I.bare,I.base,I.loc,I.cell,I.free,I.freeC,I.pin,I.hok,I.len⟩
theorem Inv.unwish (I:Inv (X.wish E) pins σ H s):Inv X pins σ H s:=⟨I.ok.unwish,I.os,I.bare,I.base,I.loc,I.cell,I.free,I.freeC,I.pin,I.hok,I.len⟩
theorem SP.unwish {D:Ends} {f:Flow} {s':Shared} (h:SP (X.wish E) pins D f s'):SP X pins D f s':=by
 cases f with
 |next=>obtain⟨σ',H',I,q⟩:=h;exact⟨σ',H',I.unwish,q⟩
 |brk=>obtain⟨σ',H',I,q⟩:=h;exact⟨σ',H',I.unwish,q⟩
 |cont=>obtain⟨σ',H',I,q⟩:=h;exact⟨σ',H',I.unwish,q⟩
 |ret u=>obtain⟨v,σ',H',I,r,q⟩:=h;exact⟨v,σ',H',I.unwish,r,q⟩
theorem PSs.nox {st:List Stmt} {t:TS} (h:PSs X.nox st t):PSs X st t:=fun pins s σ H D I hw=>
 wpAny_mono (h pins s σ H D (I.wish _) hw) (fun _ _ q=>q.unwish) fun _ _ z=>False.elim z
end
section
variable {X:Cx} {st:Stmt} {rest:List Stmt} {t u:TS} {e:Expr} {te:TE} {pos:Pos}
noncomputable def zy:TS:=fun D σ H=>D.nx σ H
noncomputable def D9 (t u:TS):TS:=fun D σ H=>t {D with nx:=u D} σ H
theorem aR:PSs X [] zy:=fun _ _ σ H _ I h=>wpAny_execs_nil ⟨σ,H,I,h⟩
theorem au (h1:PS X st t) (h2:PSs X rest u):PSs X (st::rest) (D9 t u):=by
 intro pins s σ H D I h
 refine wpAny_execs_cons (eJ (h1 pins s σ H {D with nx:=u D} I h) fun f s1 q=> ?_)
 cases f with
 |next=>
  obtain⟨σ',H',I',q⟩:=q
  exact h2 pins s1 σ' H' D I' q
 |ret v=>exact q
 |brk=>exact q
 |cont=>exact q
theorem ay (h1:PS X st t):PSs X [st] t:=by
 intro pins s σ H D I h
 refine wpAny_execs_cons (eJ (h1 pins s σ H D I h) fun f s1 q=> ?_)
 cases f with
 |next=>exact wpAny_execs_nil q
 |ret v=>exact q
 |brk=>exact q
 |cont=>exact q
theorem Inv.quiet {pins:List (Addr×Obj)} {σ:St} {H:Hp} {s:Shared} (I:Inv X pins σ H s):interactive X.env=false:=by simp[interactive,I.ok.kind]
noncomputable def zc (te:TE):TS:=fun D σ H=>te σ H fun _ H1=>D.nx σ H1
theorem gQ (he:PE X e te) (hs:swapsWith e none pos.line X.env=pure false:=by rfl):PS X (.Expr e pos) (zc te):=by
 intro pins s σ H D I h
 exact wpAny_Expr_any (eJ (he pins s σ H _ I h) fun v s1 ⟨x,H1,I1,r1,q1⟩=>⟨σ,H1,I1,q1⟩) I.quiet hs
noncomputable def Dn (te:TE):TS:=fun D σ H=>te σ H D.rt
theorem bh (he:PE X e te):PS X (.Return (some e) pos) (Dn te):=by
 intro pins s σ H D I h
 exact wpAny_Return_some (eJ (he pins s σ H _ I h) fun v s1 ⟨x,H1,I1,r1,q1⟩=>⟨x,σ,H1,I1,r1,q1⟩)
noncomputable def D1 (c:TT) (t u:TS):TS:=fun D σ H=>c σ H fun b H1=>if b=true then t D σ H1 else u D σ H1
theorem bO {c:Expr} {a b:List Stmt} {tc:TT} (hc:PT X c tc) (ha:PSs X a t) (hb:PSs X b u):PS X (.If c a b pos) (D1 tc t u):=by
 intro pins s σ H D I h
 refine wpAny_If (eJ (hc pins s σ H _ I h) fun d s1 ⟨H1,I1,q1⟩=> ?_)
 cases d with
 |true=>exact ha pins s1 σ H1 D I1 q1
 |false=>exact hb pins s1 σ H1 D I1 q1
noncomputable def DR:TS:=fun _ _ _=>False
theorem fD:PS X st DR:=fun _ _ _ _ _ _ h=>h.elim
end
noncomputable abbrev TG:=V→St→Hp→(St→Hp→Prop)→Prop
noncomputable abbrev A5:=List V→St→Hp→(St→Hp→Prop)→Prop
noncomputable def PG (X:Cx) (target:Expr) (t:TG):Prop:=
 ∀(pins:List (Addr×Obj)) (s:Shared) (σ:St) (H:Hp) (v:V) (u:Value) (Q:St→Hp→Prop),Inv X pins σ H s→RelV v u→t v σ H Q→
  wpAny (model X.prog X.w) X.A (assign target X.env u) (fun _ s'=>∃σ' H',Inv X pins σ' H' s'∧Q σ' H') X.xe s
noncomputable def GH (X:Cx) (ts:List Expr) (t:A5):Prop:=
 ∀(pins:List (Addr×Obj)) (s:Shared) (σ:St) (H:Hp) (vs:List V) (us:List Value) (Q:St→Hp→Prop),Inv X pins σ H s→Vals vs us→t vs σ H Q→
  wpAny (model X.prog X.w) X.A (assignInOrder ((assignEach ts X.env).map (·.2)) us) (fun _ s'=>∃σ' H',Inv X pins σ' H' s'∧Q σ' H') X.xe s
section
variable {X:Cx} {pos:Pos}
noncomputable def tD (i:Nat):TG:=fun v σ H Q=>Q (σ.set i (some v)) H
theorem bw {i:Nat} {x:Str} (hN:X.N.Nodup) (hi:X.N[i]? =some x) (hx:GD X.env.scope x) (hf:X.fn x=true∨X.env.scope.names.lookup x=some .local:=by first|exact .inl rfl|exact .inr rfl|assumption):PG X (.Name x pos) (tD i):=by
 intro pins s σ H v u Q I r h
 exact wpAny_assign_Name (oj I hN hi hx r (fun s' I'=>⟨_,H,I',h⟩) hf)
noncomputable def Fi:A5:=fun vs σ H Q=>vs=[]∧Q σ H
noncomputable def CM (t:TG) (u:A5):A5:=fun vs σ H Q=>∃v r,vs=v::r∧t v σ H fun σ' H'=>u r σ' H' Q
theorem ke:GH X [] Fi:=by
 intro pins s σ H vs us Q I r h
 obtain⟨e,h⟩:=h
 subst e
 cases r
 exact assignInOrder_nil ⟨σ,H,I,h⟩
theorem di {e:Expr} {es:List Expr} {t:TG} {u:A5} (h1:PG X e t) (h2:GH X es u)
  (hs:(assignEach (e::es) X.env).map (·.2)=assign e X.env::(assignEach es X.env).map (·.2):=by rfl):GH X (e::es) (CM t u):=by
 intro pins s σ H vs us Q I r h
 obtain⟨v,vr,e1,h⟩:=h
 subst e1
 cases r with
 |cons r rr=>
  rw[hs]
  refine assignInOrder_cons (eJ (h1 pins s σ H _ _ _ I r h) fun _ s1 ⟨σ1,H1,I1,q1⟩=> ?_)
  exact h2 pins s1 σ1 H1 _ _ Q I1 rr q1
noncomputable def Gw (K:PySem.W.Frag) (n:Nat) (t:A5):TG:=fun v σ H Q=>∃a xs,v= .ref a∧SqT K H a xs∧xs.length=n∧t xs σ H Q
theorem mw {es:List Expr} {k:Nat} {t:A5} {n:Nat} (hc:X.calm=true) (h:GH X es t)
  (hn:(assignEach es X.env).length=n:=by rfl) (hst:(assignEach es X.env).findIdx? (·.1)=none:=by rfl):PG X (.Tuple es k pos) (Gw X.K n t):=by
 intro pins s σ H v u Q I r hw
 obtain⟨a,xs,e1,hq,hl,hw⟩:=hw
 subst e1
 cases r
 obtain⟨its,rv,ht,hz⟩:=I.tuple hq
 refine assign_Tuple_tuple (I.ok.hd hc) ht (by simp[hn,←hl,rv.length]) hst fun h' hx=> ?_
 have I1:Inv X pins σ H {s with heap:=h'}:=I.kept (t':=s.toks) fun b o e=>hx b o (Nat.ne_of_lt (Heap.lt_size e)) e
 exact h pins _ σ H xs _ Q I1 (by simpa using rv) hw
noncomputable def zo (te:TE) (g:TG):TS:=fun D σ H=>te σ H fun x H1=>g x σ H1 D.nx
theorem sR {tg e:Expr} {te:TE} {g:TG} (he:PE X e te) (hg:PG X tg g) (hs:swapsWithSole [tg] e pos.line X.env=pure false:=by rfl) (hw:swappedStores [tg] e X.env=pure none:=by rfl)
  (h1:(assignEach [tg] X.env).map (·.2)=[assign tg X.env]:=by rfl):PS X (.Assign [tg] e pos) (zo te g):=by
 intro pins s σ H D I h
 refine wpAny_Assign_stores (eJ (he pins s σ H _ I h) fun v s1 ⟨x,H1,I1,r1,q1⟩=> ?_) hs hw
 rw[h1]
 exact eJ (hg pins s1 σ H1 x v _ I1 r1 q1) fun _ s2 q=>q
theorem aW {i:Nat} {x:Str} {e:Expr} {te:TE} {pos':Pos} (hN:X.N.Nodup) (hi:X.N[i]? =some x) (hx:GD X.env.scope x) (he:PE X e te) (hs:swapsWith e (some (.Name x pos')) pos.line X.env=pure false:=by rfl) (hf:X.fn x=true∨X.env.scope.names.lookup x=some .local:=by first|exact .inl rfl|exact .inr rfl|assumption):
  PS X (.Assign [.Name x pos'] e pos) (zo te (tD i)):=by
 intro pins s σ H D I h
 refine wpAny_Assign_Name (eJ (he pins s σ H _ I h) fun v s1 ⟨y,H1,I1,r1,q1⟩=> ?_) hs
 exact oj I1 hN hi hx r1 (fun s2 I2=>⟨_,H1,I2,q1⟩) hf
end
section
variable {X:Cx} {pos:Pos}
end
structure It where
 go:Nat→Hp→Prop
 yld:Nat→Hp→V→Hp→Prop
 stop:Nat→Hp→Prop
noncomputable def lY (X:Cx) (pins:List (Addr×Obj)) (H:Hp) (b:Addr):Prop:=
 H b=none∧b≠X.env.locals∧b∉X.fs∧(b∈X.ex∨X.s₀.heap.objs.size≤b)∧(∀x c,X.env.cells.lookup x=some c→c≠b)∧∀p∈X.pn++pins,p.1≠b
theorem Inv.fpOk {X:Cx} {pins:List (Addr×Obj)} {σ:St} {H H':Hp} {s:Shared} {b:Addr} (I:Inv X pins σ H s) (hb:s.heap.objs.size≤b) (hn:H' b=none):lY X pins H' b:=by
 refine⟨hn,Nat.ne_of_gt (Nat.lt_of_lt_of_le I.lt hb),I.nofs hb,.inr (Nat.le_trans I.sz hb),fun x c e z=> ?_,fun p hp z=> ?_⟩
 ·obtain⟨v,q⟩:=I.cell x c e
  exact absurd (Nat.lt_of_lt_of_le q.lt (by rw[z];exact hb)) (Nat.lt_irrefl _)
 ·exact absurd (Nat.lt_of_lt_of_le (Heap.lt_size (I.pin p hp).1) (by rw[z];exact hb)) (Nat.lt_irrefl _)
structure Turn (P:Program) (w:World) (K:PySem.W.Frag) (tg:Expr) (J:It) (fp:List Addr) (it:Addr) (tn:Nat→Heap→Prop):Prop where
 mem:it∈fp
 obj:∀i h,tn i h→∀b∈fp,∃o,h.get? b=some o∧∀v,o.data≠ .cell v
 keep:∀i h h',tn i h→(∀b∈fp,∀o,h.get? b=some o→h'.get? b=some o)→tn i h'
 item:∀(X:Cx),X.prog=P→X.w=w→X.K=K→X.calm=true→∀(i:Nat) (pins:List (Addr×Obj)) (s:Shared) (σ:St) (H:Hp) (E:Value→Shared→Prop),Inv X pins σ H s→(∀b∈fp,lY X pins H b)→tn i s.heap→J.go i H→
  wpAny (model P w) X.A (pyNext (.ref it)) (fun r s1=>∃u,r=some u∧
   wpAny (model P w) X.A (letOwnedTupleGo tg (.ref it) u) (fun _ s2=>∃x H',Inv X pins σ H' s2∧RelV x u∧J.yld i H x H'∧tn (i+1) s2.heap∧∀b∈fp,H' b=none) E s1) E s
 done:∀(X:Cx),X.prog=P→X.w=w→X.K=K→X.calm=true→∀(i:Nat) (pins:List (Addr×Obj)) (s:Shared) (σ:St) (H:Hp) (E:Value→Shared→Prop),Inv X pins σ H s→(∀b∈fp,lY X pins H b)→tn i s.heap→J.stop i H→
  wpAny (model P w) X.A (pyNext (.ref it)) (fun r s1=>r=none∧Inv X pins σ H s1) E s
 self:∀(A:Around) (i:Nat) (s:Shared) (Q:Value→Shared→Prop) (E:Value→Shared→Prop),tn i s.heap→Q (.ref it) s→wpAny (model P w) A (pyIter (.ref it)) Q E s
noncomputable abbrev TI:=St→Hp→(It→Hp→Prop)→Prop
noncomputable def HJ (X:Cx) (pins:List (Addr×Obj)) (σ:St) (tg:Expr) (R:It→Hp→Prop) (itv:Value) (s2:Shared):Prop:=
 ∃(it:Addr) (fp:List Addr) (tn:Nat→Heap→Prop) (J:It) (H':Hp),itv= .ref it∧Inv X pins σ H' s2∧Turn X.prog X.w X.K tg J fp it tn∧tn 0 s2.heap∧(∀b∈fp,lY X pins H' b)∧R J H'
noncomputable def PI (X:Cx) (tg iter:Expr) (wi:TI):Prop:=
 ∀(pins:List (Addr×Obj)) (s:Shared) (σ:St) (H:Hp) (R:It→Hp→Prop),Inv X pins σ H s→wi σ H R→
  wpAny (model X.prog X.w) X.A (eval iter X.env) (fun v s1=>wpAny (model X.prog X.w) X.A (pyIter v) (HJ X pins σ tg R) X.xe s1) X.xe s
theorem AB {M:Model} {A:Around} {E:Value→Shared→Prop} {s:Shared} {tg:Expr} {it:Addr} {u:Value} {o:Obj} {n:String} {vs:Array Value} {Q:Unit→Shared→Prop} (ho:s.heap.get? it=some o) (hc:o.cls= .type n) (hd:o.data= .fields vs)
  (hn:["enumerate","zip","dict_itemiterator","dict_reverseitemiterator","odict_iterator","itertools.zip_longest","itertools.pairwise"].contains n=false) (hQ:Q () s):wpAny M A (letOwnedTupleGo tg (.ref it) u) Q E s:=by
 unfold letOwnedTupleGo
 cases tg<;>first
  |exact wpAny_pure hQ
  |(cases u<;>first
    |exact wpAny_pure hQ
    |(refine wpAny_bind (wpAny_load ho ?_)
      rw[hc,hd]
      show wpAny M A (if(["enumerate","zip","dict_itemiterator","dict_reverseitemiterator","odict_iterator","itertools.zip_longest","itertools.pairwise"].contains n&&vs[0]? ==some (rawInt _))=true then _ else _) Q E s
      rw[if_neg (by intro h;rw[hn,Bool.false_and] at h;cases h)]
      exact wpAny_pure hQ))
noncomputable def GQ (K:PySem.W.Frag) (a:Addr):It:=
 ⟨fun i H=>∃xs x,SqL K H a xs∧xs[i]? =some x,fun i H x H'=>H'=H∧∀xs,SqL K H a xs→xs[i]? =some x,fun i H=>∃xs,SqL K H a xs∧xs.length≤i⟩
noncomputable def Hl (K:PySem.W.Frag) (a:Addr):It:=
 ⟨fun i H=>∃xs x,SqT K H a xs∧xs[i]? =some x,fun i H x H'=>H'=H∧∀xs,SqT K H a xs→xs[i]? =some x,fun i H=>∃xs,SqT K H a xs∧xs.length≤i⟩
noncomputable def GN (lo:Int) (n:Nat):It:=⟨fun i _=>i<n,fun i H x H'=>H'=H∧x= .int (lo+i),fun i _=>n≤i⟩
theorem xM {P:Program} {w:World} {K:PySem.W.Frag} {tg:Expr} (a it:Addr):Turn P w K tg (GQ K a) [it] it (fun i h=>h.IsListIter it a i) where
 mem:=by simp
 obj:=fun i h st b hb=>by
  have e:b=it:=by simpa using hb
  subst e
  obtain⟨o,e,c,d⟩:=st
  exact⟨o,e,fun v z=>by rw[d] at z;cases z⟩
 keep:=fun i h h' st k=>st.at fun o e=>k it (by simp) o e
 item:=by
  intro X hP hw hK hc i pins s σ H E I hf st hg
  subst hP hw hK
  obtain⟨xs,x,hq,hx⟩:=hg
  obtain⟨its,rv,p,hz⟩:=I.list hq
  obtain⟨u,hu,ru⟩:=rv.get hx
  obtain⟨f0,f1,f2,f3,f4,f5⟩:=hf it (by simp)
  refine wpAny_pyNext_list_item st p.isList (x:=u) (by simpa using hu) fun h' st' sb=> ?_
  have I1:Inv X pins σ H {s with heap:=h'}:=I.turned (t':=s.toks) (fun b o hb e=>(sb.2 b hb).trans e) f0 f1 f3 f4 f5
  obtain⟨o,e,c,d⟩:=id st'
  exact⟨u,rfl,AB (s:={s with heap:=h'}) e c d (by decide) ⟨x,H,I1,ru,⟨rfl,fun ys hy=>by rw[I.list_inj hy hq];exact hx⟩,st',fun b hb=>(hf b hb).1⟩⟩
 done:=by
  intro X hP hw hK hc i pins s σ H E I hf st hg
  subst hP hw hK
  obtain⟨xs,hq,hx⟩:=hg
  obtain⟨its,rv,p,hz⟩:=I.list hq
  obtain⟨f0,f1,f2,f3,f4,f5⟩:=hf it (by simp)
  have hl:=rv.length
  exact wpAny_pyNext_list_end (I.ok.hd hc) st p.isList (by simp;omega) fun h' eb=>⟨rfl,I.turned (t':=s.toks) (fun b o hb e=>eb b o hb e) f0 f1 f3 f4 f5⟩
 self:=fun _ _ _ _ _ st h=>wpAny_pyIter_listiter st h
theorem uN {P:Program} {w:World} {K:PySem.W.Frag} {tg:Expr} (a it:Addr):Turn P w K tg (Hl K a) [it] it (fun i h=>h.IsTupleIter it a i) where
 mem:=by simp
 obj:=fun i h st b hb=>by
  have e:b=it:=by simpa using hb
  subst e
  obtain⟨o,e,c,d⟩:=st
  exact⟨o,e,fun v z=>by rw[d] at z;cases z⟩
 keep:=fun i h h' st k=>st.at fun o e=>k it (by simp) o e
 item:=by
  intro X hP hw hK hc i pins s σ H E I hf st hg
  subst hP hw hK
  obtain⟨xs,x,hq,hx⟩:=hg
  obtain⟨its,rv,p,hz⟩:=I.tuple hq
  obtain⟨u,hu,ru⟩:=rv.get hx
  obtain⟨f0,f1,f2,f3,f4,f5⟩:=hf it (by simp)
  refine wpAny_pyNext_tuple_item st (show s.heap.IsTuple a its.toArray from p) (x:=u) (by simpa using hu) fun h' st' sb=> ?_
  have I1:Inv X pins σ H {s with heap:=h'}:=I.turned (t':=s.toks) (fun b o hb e=>(sb.2 b hb).trans e) f0 f1 f3 f4 f5
  obtain⟨o,e,c,d⟩:=id st'
  exact⟨u,rfl,AB (s:={s with heap:=h'}) e c d (by decide) ⟨x,H,I1,ru,⟨rfl,fun ys hy=>by rw[I.tuple_inj hy hq];exact hx⟩,st',fun b hb=>(hf b hb).1⟩⟩
 done:=by
  intro X hP hw hK hc i pins s σ H E I hf st hg
  subst hP hw hK
  obtain⟨xs,hq,hx⟩:=hg
  obtain⟨its,rv,p,hz⟩:=I.tuple hq
  obtain⟨f0,f1,f2,f3,f4,f5⟩:=hf it (by simp)
  have hl:=rv.length
  exact wpAny_pyNext_tuple_end (I.ok.hd hc) st (show s.heap.IsTuple a its.toArray from p) (by simp;omega) fun h' eb=>⟨rfl,I.turned (t':=s.toks) (fun b o hb e=>eb b o hb e) f0 f1 f3 f4 f5⟩
 self:=fun _ _ _ _ _ st h=>wpAny_pyIter_tupleiter st h
theorem uO {P:Program} {w:World} {K:PySem.W.Frag} {tg:Expr} (it:Addr) (lo:Int) (n:Nat):Turn P w K tg (GN lo n) [it] it (fun i h=>IsRangeIter h it (lo+(i:Nat)*1) ((n:Int) - (i:Nat)) 1) where
 mem:=by simp
 obj:=fun i h st b hb=>by
  have e:b=it:=by simpa using hb
  subst e
  exact⟨_,st,fun v z=>by
   have z':Data.fields _=Data.cell v:=z
   cases z'⟩
 keep:=fun i h h' st k=>k it (by simp) _ st
 item:=by
  intro X hP hw hK hc i pins s σ H E I hf st hg
  subst hP hw hK
  obtain⟨f0,f1,f2,f3,f4,f5⟩:=hf it (by simp)
  have W:=Walks.range (prog:=X.prog) (w:=X.w) (I.ok.hd hc) it lo 1 n
  refine W.item i s _ _ hg st fun v h' tk hv st' kk=> ?_
  obtain⟨t,rfl⟩:=hv
  have I1:Inv X pins σ H {s with heap:=h',toks:=tk}:=I.turned (fun b o hb e=>kk b o (by simpa using hb) e) f0 f1 f3 f4 f5
  refine⟨_,rfl,AB (s:={s with heap:=h',toks:=tk}) (n:= "range_iterator") st' rfl rfl (by decide) ⟨.int (lo+i),H,I1,⟨t,?_⟩,⟨rfl,rfl⟩,st',fun b hb=>(hf b hb).1⟩⟩
  rw[Int.mul_one]
 done:=by
  intro X hP hw hK hc i pins s σ H E I hf st hg
  subst hP hw hK
  obtain⟨f0,f1,f2,f3,f4,f5⟩:=hf it (by simp)
  exact wpAny_pyNext_range_end (I.ok.hd hc) st (by have:n≤i:=hg;omega) fun h' eb=>⟨rfl,I.turned (t':=s.toks) (fun b o hb e=>eb b o hb e) f0 f1 f3 f4 f5⟩
 self:=fun _ _ _ _ _ st h=>wpAny_pyIter_rangeiter st h
end L2
namespace L2
open PySem PySem.Spec PyProof.Rows
section
variable {X:Cx} {tg:Expr}
theorem AJ {pins:List (Addr×Obj)} {σ:St} {H:Hp} {s:Shared} {R:It→Hp→Prop} {E:Value→Shared→Prop} {lo hi:Int} {t u v:Tok} {tk:Nat} (I:Inv X pins σ H s) (h1: -(2^62)≤lo) (h2:lo<2^62) (h3: -(2^62)≤hi) (h4:hi<2^62)
  (q:R (GN lo (hi - lo).toNat) H):wpAny (model X.prog X.w) X.A (pyIter (.ref s.heap.objs.size)) (HJ X pins σ tg R) E {s with heap:=s.heap.push {cls:= .type "range",data:= .fields #[.int lo t,.int hi u,.int 1 v]},toks:=tk}:=by
 refine wpAny_pyIter_range (IsRange.new ..) (small_one h1 h2 h3 h4) ?_
 have I1:Inv X pins σ H {s with heap:=s.heap.push {cls:= .type "range",data:= .fields #[.int lo t,.int hi u,.int 1 v]},toks:=tk}:=I.kept fun b o e=>Heap.get?_push_of_some _ e
 refine⟨(s.heap.push {cls:= .type "range",data:= .fields #[.int lo t,.int hi u,.int 1 v]}).objs.size,[(s.heap.push {cls:= .type "range",data:= .fields #[.int lo t,.int hi u,.int 1 v]}).objs.size],_,_,H,rfl,
  I1.kept (t':=tk) fun b o e=>Heap.get?_push_of_some _ e,uO _ lo (hi - lo).toNat,?_,fun b hb=> ?_,q⟩
 ·have e1:lo+((0:Nat):Int)*1=lo:=by simp
  have e2:(((hi - lo).toNat:Nat):Int) - ((0:Nat):Int)=Builtin.Range.rangeSize lo hi 1:=by rw[rangeSize_one];split<;>omega
  show IsRangeIter _ _ (lo+((0:Nat):Int)*1) ((((hi - lo).toNat:Nat):Int) - ((0:Nat):Int)) 1
  rw[e1,e2]
  exact Heap.get?_push_size _ rfl
 ·have e:b=(s.heap.push {cls:= .type "range",data:= .fields #[.int lo t,.int hi u,.int 1 v]}).objs.size:=by simpa using hb
  subst e
  exact I1.fpOk (Nat.le_refl _) (I1.hok.fresh (Nat.le_refl _))
noncomputable def Dc (ta:TA):TI:=fun σ H R=>ta σ H fun vs H1=>∃j:Int,vs=[.int j]∧ -(2^62)≤j∧j<2^62∧R (GN 0 j.toNat) H1
theorem cS {a:Expr} {ta:TA} {p pos:Pos} (hg:Gl X "range") (hm:X.mg "range"=none) (ha:PA X [a] ta) (hs:starEach [a] X.env=[(false,eval a X.env)]:=by rfl):PI X tg (.Call (.Name "range" p) [a] [] pos) (Dc ta):=by
 intro pins s σ H R I h
 refine Call_ (mq I hg hm boot_range (PyProof.Rows.callWith_type1 (eJ (ha pos pins s σ H _ I h) fun us s1 ⟨vs,H1,I1,r1,q1⟩=> ?_) hs rfl))
 obtain⟨j,e,q1,q2,q⟩:=q1
 subst e
 cases r1 with
 |cons r rr=>
  cases rr
  obtain⟨t,rfl⟩:=r
  exact call_range_1 (AJ I1 (by omega) (by omega) q1 q2 (by simpa using q))
noncomputable def FY (wi:TI) (g:TG) (tb:TS):TS:=fun D σ H=>wi σ H fun J H1=>∃W:Nat→Nat→St→Hp→Prop,(∃m,W 0 m σ H1)∧∀i m σ H,W i m σ H→
 (J.stop i H∧D.nx σ H)∨(J.go i H∧∃N:St→Hp→Prop,(∀σ' H',N σ' H'→∃m',m'<m∧W (i+1) m' σ' H')∧∀x H',J.yld i H x H'→g x σ H' fun σ2 H2=>tb {D with nx:=N,ct:=N,bk:=D.nx} σ2 H2)
noncomputable def nX (fp:List Addr) (h:Heap):List (Addr×Obj):=fp.filterMap fun b=>(h.get? b).map fun o=>(b,o)
theorem jq {fp:List Addr} {h:Heap} {b:Addr} {o:Obj} (hb:b∈fp) (e:h.get? b=some o):(b,o)∈nX fp h:=List.mem_filterMap.mpr ⟨b,hb,by rw[e];rfl⟩
theorem xV {fp:List Addr} {h:Heap} {p:Addr×Obj} (hp:p∈nX fp h):p.1∈fp∧h.get? p.1=some p.2:=by
 obtain⟨b,hb,e⟩:=List.mem_filterMap.mp hp
 cases q:h.get? b with
 |none=>rw[q] at e;cases e
 |some o=>
  rw[q] at e
  have e':(b,o)=p:=Option.some.inj e
  subst e'
  exact⟨hb,q⟩
theorem Inv.pinned {pins:List (Addr×Obj)} {σ:St} {H:Hp} {s:Shared} {fp:List Addr} (I:Inv X pins σ H s) (hf:∀b∈fp,lY X pins H b) (ho:∀b∈fp,∃o,s.heap.get? b=some o∧∀v,o.data≠ .cell v):Inv X (pins++nX fp s.heap) σ H s:=
 I.pins_of fun p hp=>(List.mem_append.mp hp).elim (fun z=>I.pin p (List.mem_append_right _ z)) fun z=>by
  obtain⟨hb,e⟩:=xV z
  obtain⟨f0,f1,f2,_⟩:=hf p.1 hb
  obtain⟨o,e',d⟩:=ho p.1 hb
  rw[e] at e';cases e'
  exact⟨e,f0,f1,f2,d⟩
theorem Inv.unpinned {pins pl:List (Addr×Obj)} {σ:St} {H:Hp} {s:Shared} (I:Inv X (pins++pl) σ H s):Inv X pins σ H s:=I.pins_of fun p hp=>I.pin p (List.mem_append_right _ (List.mem_append_left _ hp))
theorem gO {iter:Expr} {body:List Stmt} {wi:TI} {g:TG} {tb:TS} {pos:Pos} (hp:PassesOwn (model X.prog X.w) X.A X.env X.xe) (hc:X.calm=true) (hi:PI X tg iter wi) (hg:PG X tg g) (hb:PSs X body tb)
  (hs:∀x,foldedSetIterable iter X.env x=pure x:=by intro _;rfl):PS X (.For tg iter body [] pos) (FY wi g tb):=by
 intro pins s σ H D I h
 refine wpAny_For (eJ (hi pins s σ H _ I h) fun v s1 h1=>eJ h1 fun itv s2 h2=> ?_) hs
 obtain⟨it,fp,tn,J,H2,e,I2,T,st2,f2,W,⟨m0,w0⟩,turn⟩:=h2
 subst e
 have stat:∀{H':Hp},(∀b∈fp,H' b=none)→∀b∈fp,lY X pins H' b:=fun hn b hb=>⟨hn b hb,(f2 b hb).2⟩
 refine codeAny_forLoop_any (fun n s'=>∃i σ' H',Inv X pins σ' H' s'∧tn i s'.heap∧(∀b∈fp,H' b=none)∧W i n σ' H') ?_ m0 ⟨0,σ,H2,I2,st2,fun b hb=>(f2 b hb).1,w0⟩
 rintro n s3 ⟨i,σ3,H3,I3,st3,fr3,w3⟩
 rcases turn i n σ3 H3 w3 with⟨stop,qn⟩|⟨go,N,hN,step⟩
 ·refine wpAny_passesOwn hp (eJ (T.done X rfl rfl rfl hc i pins s3 σ3 H3 X.xe I3 (stat fr3) st3 stop) fun r s4 ⟨hr,I4⟩=> ?_)
  subst hr
  exact wpAny_execs_nil ⟨σ3,H3,I4,qn⟩
 ·refine wpAny_passesOwn hp (eJ (T.item X rfl rfl rfl hc i pins s3 σ3 H3 X.xe I3 (stat fr3) st3 go) fun r s4 ⟨u,hr,h4⟩=> ?_)
  subst hr
  refine wpAny_passesOwn hp (eJ h4 fun _ s5 ⟨x,H5,I5,r5,y5,st5,fr5⟩=> ?_)
  have I5':=I5.pinned (stat fr5) (T.obj _ _ st5)
  refine wpAny_passesOwn hp (eJ (hg _ s5 σ3 H5 x u _ I5' r5 (step x H5 y5)) fun _ s6 ⟨σ6,H6,I6,q6⟩=> ?_)
  refine wpAny_passesOwn hp (eJ (hb _ s6 σ6 H6 _ I6 q6) fun f s7 q7=> ?_)
  have again:∀{σ7:St} {H7:Hp},Inv X (pins++nX fp s5.heap) σ7 H7 s7→N σ7 H7→∃m,m<n∧∃i σ' H',Inv X pins σ' H' s7∧tn i s7.heap∧(∀b∈fp,H' b=none)∧W i m σ' H':=fun{σ7 H7} I7 n7=>by
   obtain⟨m',hm,w7⟩:=hN σ7 H7 n7
   refine⟨m',hm,i+1,σ7,H7,I7.unpinned,T.keep _ _ _ st5 fun b hb o e=>(I7.pin (b,o) (List.mem_append_right _ (List.mem_append_right _ (jq hb e)))).1,fun b hb=> ?_,w7⟩
   obtain⟨o,e,d⟩:=T.obj _ _ st5 b hb
   exact(I7.pin (b,o) (List.mem_append_right _ (List.mem_append_right _ (jq hb e)))).2.1
  cases f with
  |next=>obtain⟨σ7,H7,I7,n7⟩:=q7;exact again I7 n7
  |cont=>obtain⟨σ7,H7,I7,n7⟩:=q7;exact again I7 n7
  |brk=>obtain⟨σ7,H7,I7,q7⟩:=q7;exact⟨σ7,H7,I7.unpinned,q7⟩
  |ret v=>obtain⟨x7,σ7,H7,I7,r7,q7⟩:=q7;exact⟨x7,σ7,H7,I7.unpinned,r7,q7⟩
end
end L2
namespace L2
open PySem PySem.Spec PyProof.Rows
noncomputable abbrev R2:=V→V→Hp→VK→Prop
noncomputable def OpR (X:Cx) (f:Value→Value→Sem Value) (r:R2):Prop:=
 ∀(pins:List (Addr×Obj)) (s:Shared) (σ:St) (H:Hp) (x y:V) (v u:Value) (Q:VK),Inv X pins σ H s→RelV x v→RelV y u→r x y H Q→
  wpAny (model X.prog X.w) X.A (f v u) (EP X pins σ Q) X.xe s
noncomputable def G2 (X:Cx) (f:Value→Sem Value) (r:V→Hp→VK→Prop):Prop:=
 ∀(pins:List (Addr×Obj)) (s:Shared) (σ:St) (H:Hp) (x:V) (v:Value) (Q:VK),Inv X pins σ H s→RelV x v→r x H Q→
  wpAny (model X.prog X.w) X.A (f v) (EP X pins σ Q) X.xe s
noncomputable def CallR (X:Cx) (f:Value) (r:List V→Hp→VK→Prop):Prop:=
 ∀(pins:List (Addr×Obj)) (s:Shared) (σ:St) (H:Hp) (xs:List V) (us:List Value) (Q:VK),Inv X pins σ H s→Vals xs us→r xs H Q→
  wpAny (model X.prog X.w) X.A (call f us) (EP X pins σ Q) X.xe s
noncomputable def Fa (r:R2) (ta tb:TE):TE:=fun σ H Q=>ta σ H fun x H1=>tb σ H1 fun y H2=>r x y H2 Q
noncomputable def Hg (r:V→Hp→VK→Prop) (ta:TE):TE:=fun σ H Q=>ta σ H fun x H1=>r x H1 Q
noncomputable def rI (C:Int→Int→Prop) (g:Int→Int→V):R2:=fun x y H Q=>∃i j,x= .int i∧y= .int j∧C i j∧Q (g i j) H
noncomputable def uJ (g:Int→Int→V):R2:=fun x y H Q=>∃i j,x= .int i∧y= .int j∧Q (g i j) H
noncomputable def rU (g:Int→V):V→Hp→VK→Prop:=fun x H Q=>∃i,x= .int i∧Q (g i) H
section
variable {X:Cx} {a b c:Expr} {ta tb tc:TE} {pos:Pos}
theorem DL (ha:PE X a ta) (hb:PE X b tb) {pins:List (Addr×Obj)} {s:Shared} {σ:St} {H:Hp} {R:V→V→Hp→Prop} (I:Inv X pins σ H s)
  (h:ta σ H fun x H1=>tb σ H1 fun y H2=>R x y H2) {Q:Value→Shared→Prop} {f:Value→Value→Sem Value}
  (hf:∀v u s2 x y H2,Inv X pins σ H2 s2→RelV x v→RelV y u→R x y H2→wpAny (model X.prog X.w) X.A (f v u) Q X.xe s2):
  wpAny (model X.prog X.w) X.A (eval a X.env) (fun v s₁=>wpAny (model X.prog X.w) X.A (eval b X.env) (fun u s₂=>wpAny (model X.prog X.w) X.A (f v u) Q X.xe s₂) X.xe s₁) X.xe s:=by
 refine eJ (ha pins s σ H _ I h) fun v s1 ⟨x,H1,I1,r1,q1⟩=> ?_
 refine eJ (hb pins s1 σ H1 _ I1 q1) fun u s2 ⟨y,H2,I2,r2,q2⟩=> ?_
 exact hf v u s2 x y H2 I2 r1 r2 q2
theorem aB {op:Operator} {r:R2} (ho:OpR X (binaryOp op) r) (ha:PE X a ta) (hb:PE X b tb):PE X (.BinOp a op b pos) (Fa r ta tb):=by
 intro pins s σ H Q I h
 exact wpAny_BinOp (DL ha hb I h fun v u s2 x y H2 I2 rx ry q=>ho pins s2 σ H2 x y v u Q I2 rx ry q)
theorem mM {op:UnaryOp} {r:V→Hp→VK→Prop} (ho:G2 X (unaryOp op) r) (ha:PE X a ta):PE X (.UnaryOp op a pos) (Hg r ta):=by
 intro pins s σ H Q I h
 exact UnaryOp_ (eJ (ha pins s σ H _ I h) fun v s1 ⟨x,H1,I1,r1,q1⟩=>ho pins s1 σ H1 x v Q I1 r1 q1)
theorem GJ {f:Value→Value→Sem Value} {C:Int→Int→Prop} {g:Int→Int→Int}
  (rule:∀(i j:Int) (t u:Tok) (s:Shared) (Q:Value→Shared→Prop) (E:Value→Shared→Prop),C i j→Q (.int (g i j) s.toks) {s with toks:=s.toks+1}→wpAny (model X.prog X.w) X.A (f (.int i t) (.int j u)) Q E s):
  OpR X f (rI C fun i j=> .int (g i j)):=by
 intro pins s σ H x y v u Q I rx ry h
 obtain⟨i,j,rfl,rfl,hc,q⟩:=h
 obtain⟨t,rfl⟩:=rx
 obtain⟨t',rfl⟩:=ry
 exact rule i j t t' s _ _ hc ⟨.int (g i j),H,I.tok _,⟨_,rfl⟩,q⟩
theorem F9 {f:Value→Value→Sem Value} {g:Int→Int→Int}
  (rule:∀(i j:Int) (t u:Tok) (s:Shared) (Q:Value→Shared→Prop) (E:Value→Shared→Prop),Q (.int (g i j) s.toks) {s with toks:=s.toks+1}→wpAny (model X.prog X.w) X.A (f (.int i t) (.int j u)) Q E s):
  OpR X f (uJ fun i j=> .int (g i j)):=by
 intro pins s σ H x y v u Q I rx ry h
 obtain⟨i,j,rfl,rfl,q⟩:=h
 obtain⟨t,rfl⟩:=rx
 obtain⟨t',rfl⟩:=ry
 exact rule i j t t' s _ _ ⟨.int (g i j),H,I.tok _,⟨_,rfl⟩,q⟩
theorem BN {f:Value→Value→Sem Value} {g:Int→Int→Bool}
  (rule:∀(i j:Int) (t u:Tok) (s:Shared) (Q:Value→Shared→Prop) (E:Value→Shared→Prop),Q (.bool (g i j)) s→wpAny (model X.prog X.w) X.A (f (.int i t) (.int j u)) Q E s):
  OpR X f (uJ fun i j=> .bl (g i j)):=by
 intro pins s σ H x y v u Q I rx ry h
 obtain⟨i,j,rfl,rfl,q⟩:=h
 obtain⟨t,rfl⟩:=rx
 obtain⟨t',rfl⟩:=ry
 exact rule i j t t' s _ _ ⟨.bl (g i j),H,I,rfl,q⟩
noncomputable def Eo (i j:Int):Prop:=0≤j∧j≤1000000∧i.natAbs<2^64
noncomputable def CMul (i j:Int):Prop:=(-(2^64)<i∧i<2^64)∨(-(2^64)<j∧j<2^64)
theorem CMul.ok {i j:Int} (h:CMul i j):IntMulOk i j:=by
 rcases h with⟨h1,h2⟩|⟨h1,h2⟩
 ·exact .of_left (intBits_le_64 h1 h2)
 ·exact .of_right (intBits_le_64 h1 h2)
theorem Ex:OpR X (binaryOp .Add) (uJ fun i j=> .int (i+j)):=F9 fun _ _ _ _ _ _ _ q=>add_int q
theorem jh:OpR X (binaryOp .Sub) (uJ fun i j=> .int (i - j)):=F9 fun _ _ _ _ _ _ _ q=>sub_int q
theorem EK:OpR X (binaryOp .Mult) (rI CMul fun i j=> .int (i*j)):=GJ fun _ _ _ _ _ _ _ hc q=>mul_int q hc.ok
theorem bQ:OpR X (binaryOp .Mod) (rI (fun _ j=>0<j) fun i j=> .int (i % j)):=GJ fun i j _ _ _ _ _ hc q=>by
 have h1:(0:Int)<j:=hc
 exact mod_int' (by omega) (by rw[Int.fmod_eq_emod_of_nonneg i (by omega)];exact q)
theorem iR:OpR X (binaryOp .Pow) (rI Eo fun i j=> .int (i^j.toNat)):=GJ fun _ _ _ _ _ _ _ hc q=>pow_int_small hc.1 hc.2.1 hc.2.2 q
theorem HZ {f:Value→Sem Value} {g:Int→Int}
  (rule:∀(i:Int) (t:Tok) (s:Shared) (Q:Value→Shared→Prop) (E:Value→Shared→Prop),Q (.int (g i) s.toks) {s with toks:=s.toks+1}→wpAny (model X.prog X.w) X.A (f (.int i t)) Q E s):
  G2 X f (rU fun i=> .int (g i)):=by
 intro pins s σ H x v Q I rx h
 obtain⟨i,rfl,q⟩:=h
 obtain⟨t,rfl⟩:=rx
 exact rule i t s _ _ ⟨.int (g i),H,I.tok _,⟨_,rfl⟩,q⟩
theorem jS:G2 X (unaryOp .USub) (rU fun i=> .int (-i)):=HZ fun _ _ _ _ _ q=>neg_int q
end
noncomputable def BI:V→V→Bool
 | .non,.non=>true| .non,.int _=>true| .int _,.non=>true| .non,.bl _=>true| .bl _,.non=>true| .non,.str _=>true| .str _,.non=>true
 | .int _,.int _=>true| .bl _,.bl _=>true| .str _,.str _=>true| .byt _,.byt _=>true
 | .int _,.str _=>true| .str _,.int _=>true| .bl _,.str _=>true| .str _,.bl _=>true
 |_,_=>false
noncomputable def HG:R2:=fun x y H Q=>BI x y=true∧Q (.bl (decide (x=y))) H
noncomputable def HL:R2:=fun x y H Q=>BI x y=true∧Q (.bl (!decide (x=y))) H
theorem wJ {i j:Int}:decide (V.int i=V.int j)=(i==j):=by
 rw[Bool.eq_iff_iff]
 simp
theorem Ac {i j:Bool}:decide (V.bl i=V.bl j)=(i==j):=by
 rw[Bool.eq_iff_iff]
 simp
theorem wB {i j:Str}:decide (V.str i=V.str j)=(i==j):=by
 rw[Bool.eq_iff_iff]
 simp
theorem wC {i j:Array UInt8}:decide (V.byt i=V.byt j)=(i.toList==j.toList):=by
 rw[Bool.eq_iff_iff]
 cases i
 cases j
 simp
section
variable {X:Cx} {a b c:Expr} {ta tb tc:TE} {pos:Pos}
theorem cw {pins:List (Addr×Obj)} {σ:St} {H:Hp} {s:Shared} {Q:VK} {k k':Bool} (I:Inv X pins σ H s) (q:Q (.bl k) H) (e:k=k'):EP X pins σ Q (.bool k') s:=by
 subst e
 exact⟨.bl k,H,I,rfl,q⟩
theorem Ah:OpR X (compareOp .Eq) HG:=by
 intro pins s σ H x y v u Q I rx ry h
 obtain⟨hs,q⟩:=h
 cases x with
 |non=>
  cases rx
  cases y with
  |non=>cases ry;exact PySem.EqNone.eq_none_none (cw I q (by simp))
  |bl j=>cases ry;exact PySem.EqNone.eq_none_bool (cw I q (by simp))
  |int j=>obtain⟨t',rfl⟩:=ry;exact PySem.EqNone.eq_none_int (cw I q (by simp))
  |str j=>obtain⟨t',rfl⟩:=ry;exact PySem.EqNone.eq_none_str (cw I q (by simp))
  |_=>exact absurd (show false=true from hs) Bool.false_ne_true
 |bl i=>
  cases rx
  cases y with
  |non=>cases ry;exact PySem.EqNone.eq_bool_none (cw I q (by simp))
  |bl j=>cases ry;exact eq_bool (cw I q Ac)
  |str j=>obtain⟨t',rfl⟩:=ry;exact PySem.EqMixed.eq_bool_str (cw I q (by simp))
  |_=>exact absurd (show false=true from hs) Bool.false_ne_true
 |int i=>
  obtain⟨t,rfl⟩:=rx
  cases y with
  |non=>cases ry;exact PySem.EqNone.eq_int_none (cw I q (by simp))
  |int j=>obtain⟨t',rfl⟩:=ry;exact eq_int (cw I q wJ)
  |str j=>obtain⟨t',rfl⟩:=ry;exact PySem.EqMixed.eq_int_str (cw I q (by simp))
  |_=>exact absurd (show false=true from hs) Bool.false_ne_true
 |str i=>
  obtain⟨t,rfl⟩:=rx
  cases y with
  |non=>cases ry;exact PySem.EqNone.eq_str_none (cw I q (by simp))
  |bl j=>cases ry;exact PySem.EqMixed.eq_str_bool (cw I q (by simp))
  |int j=>obtain⟨t',rfl⟩:=ry;exact PySem.EqMixed.eq_str_int (cw I q (by simp))
  |str j=>obtain⟨t',rfl⟩:=ry;exact eq_str (cw I q wB)
  |_=>exact absurd (show false=true from hs) Bool.false_ne_true
 |byt i=>
  obtain⟨t,rfl⟩:=rx
  cases y with
  |byt j=>obtain⟨t',rfl⟩:=ry;exact PySem.W.eq_bytes (cw I q wC)
  |_=>exact absurd (show false=true from hs) Bool.false_ne_true
 |_=>cases y<;>exact absurd (show false=true from hs) Bool.false_ne_true
theorem Fy:OpR X (compareOp .NotEq) HL:=by
 intro pins s σ H x y v u Q I rx ry h
 obtain⟨hs,q⟩:=h
 cases x with
 |non=>
  cases rx
  cases y with
  |non=>cases ry;exact PySem.EqNone.ne_none_none (cw I q (by simp))
  |bl j=>cases ry;exact PySem.EqNone.ne_none_bool (cw I q (by simp))
  |int j=>obtain⟨t',rfl⟩:=ry;exact PySem.EqNone.ne_none_int (cw I q (by simp))
  |str j=>obtain⟨t',rfl⟩:=ry;exact PySem.EqNone.ne_none_str (cw I q (by simp))
  |_=>exact absurd (show false=true from hs) Bool.false_ne_true
 |bl i=>
  cases rx
  cases y with
  |non=>cases ry;exact PySem.EqNone.ne_bool_none (cw I q (by simp))
  |bl j=>cases ry;exact ne_bool (cw I q (congrArg not Ac))
  |str j=>obtain⟨t',rfl⟩:=ry;exact PySem.EqMixed.ne_bool_str (cw I q (by simp))
  |_=>exact absurd (show false=true from hs) Bool.false_ne_true
 |int i=>
  obtain⟨t,rfl⟩:=rx
  cases y with
  |non=>cases ry;exact PySem.EqNone.ne_int_none (cw I q (by simp))
  |int j=>obtain⟨t',rfl⟩:=ry;exact ne_int (cw I q (congrArg not wJ))
  |str j=>obtain⟨t',rfl⟩:=ry;exact PySem.EqMixed.ne_int_str (cw I q (by simp))
  |_=>exact absurd (show false=true from hs) Bool.false_ne_true
 |str i=>
  obtain⟨t,rfl⟩:=rx
  cases y with
  |non=>cases ry;exact PySem.EqNone.ne_str_none (cw I q (by simp))
  |bl j=>cases ry;exact PySem.EqMixed.ne_str_bool (cw I q (by simp))
  |int j=>obtain⟨t',rfl⟩:=ry;exact PySem.EqMixed.ne_str_int (cw I q (by simp))
  |str j=>obtain⟨t',rfl⟩:=ry;exact ne_str (cw I q (congrArg not wB))
  |_=>exact absurd (show false=true from hs) Bool.false_ne_true
 |byt i=>
  obtain⟨t,rfl⟩:=rx
  cases y with
  |byt j=>obtain⟨t',rfl⟩:=ry;exact PySem.W.ne_bytes (cw I q (congrArg not wC))
  |_=>exact absurd (show false=true from hs) Bool.false_ne_true
 |_=>cases y<;>exact absurd (show false=true from hs) Bool.false_ne_true
theorem hX:OpR X (compareOp .Lt) (uJ fun i j=> .bl (decide (i<j))):=BN fun _ _ _ _ _ _ _ q=>lt_int q
theorem mZ:OpR X (compareOp .LtE) (uJ fun i j=> .bl (decide (i≤j))):=BN fun _ _ _ _ _ _ _ q=>le_int q
theorem iJ:OpR X (compareOp .Gt) (uJ fun i j=> .bl (decide (j<i))):=BN fun _ _ _ _ _ _ _ q=>gt_int q
theorem wH:OpR X (compareOp .GtE) (uJ fun i j=> .bl (decide (j≤i))):=BN fun _ _ _ _ _ _ _ q=>ge_int q
theorem ox:OpR X (compareOp .Is) (fun x y H Q=>y= .non∧Q (.bl (decide (x= .non))) H):=by
 intro pins s σ H x y v u Q I rx ry h
 obtain⟨rfl,q⟩:=h
 cases ry
 refine is_none_gen (cw I q ?_)
 cases x<;>first
  |(cases rx;rfl)
  |(obtain⟨t,rfl⟩:=rx;rfl)
theorem Be:OpR X (compareOp .IsNot) (fun x y H Q=>y= .non∧Q (.bl (!decide (x= .non))) H):=by
 intro pins s σ H x y v u Q I rx ry h
 obtain⟨rfl,q⟩:=h
 cases ry
 refine isnot_none_gen (cw I q ?_)
 cases x<;>first
  |(cases rx;rfl)
  |(obtain⟨t,rfl⟩:=rx;rfl)
theorem aL (b:Expr) {op:CmpOp} (h:op≠ .In:=by decide) (h2:op≠ .NotIn:=by decide):behindInMarks op b=false:=by
 have e1:(op==CmpOp.In)=false:=by cases op<;>first|rfl|exact absurd rfl h
 have e2:(op==CmpOp.NotIn)=false:=by cases op<;>first|rfl|exact absurd rfl h2
 cases b<;>simp[behindInMarks,e1,e2]
theorem fY {op:CmpOp} {r:R2} (ho:OpR X (compareOp op) r) (ha:PE X a ta) (hb:PE X b tb) (hm:behindInMarks op b=false):PE X (.Compare a [op] [b] pos) (Fa r ta tb):=by
 intro pins s σ H Q I h
 exact wpAny_Compare1 (DL ha hb I h fun v u s2 x y H2 I2 rx ry q=>ho pins s2 σ H2 x y v u Q I2 rx ry q) hm
noncomputable def wc (t:TE):TT:=fun σ H Q=>t σ H fun x H'=>∃k,x= .bl k∧Q k H'
theorem aI {op:CmpOp} {r:R2} (ho:OpR X (compareOp op) r) (ha:PE X a ta) (hb:PE X b tb) (hm:behindInMarks op b=false):PT X (.Compare a [op] [b] pos) (wc (Fa r ta tb)):=by
 intro pins s σ H Q I h
 refine wpAny_isTrue_Compare1 (eJ (ha pins s σ H _ I h) fun v s1 ⟨x,H1,I1,r1,q1⟩=>eJ (hb pins s1 σ H1 _ I1 q1) fun u s2 ⟨y,H2,I2,r2,q2⟩=>
  eJ (ho pins s2 σ H2 x y v u _ I2 r1 r2 q2) fun c s3 ⟨z,H3,I3,r3,k,e,q3⟩=> ?_) hm
 subst e
 cases r3
 exact wpAny_truthy_bool ⟨H3,I3,q3⟩
noncomputable def uR (r r':R2) (ta tb tc:TE):TE:=fun σ H Q=>ta σ H fun x H1=>tb σ H1 fun y H2=>r x y H2 fun z H3=>∃k,z= .bl k∧
 (if k=true then tc σ H3 fun w' H4=>r' y w' H4 Q else Q (.bl false) H3)
theorem lV {op op':CmpOp} {r r':R2} (ho:OpR X (compareOp op) r) (ho':OpR X (compareOp op') r') (ha:PE X a ta) (hb:PE X b tb) (hc:PE X c tc)
  (hm:lastMarks [op,op'] [b,c]=false:=by with_unfolding_all rfl):PE X (.Compare a [op,op'] [b,c] pos) (uR r r' ta tb tc):=by
 intro pins s σ H Q I h
 refine Compare_chain (eJ (ha pins s σ H _ I h) fun v s1 ⟨x,H1,I1,r1,q1⟩=>chain_link (eJ (hb pins s1 σ H1 _ I1 q1) fun u s2 ⟨y,H2,I2,r2,q2⟩=>
  eJ (ho pins s2 σ H2 x y v u _ I2 r1 r2 q2) fun d s3 ⟨z,H3,I3,r3,k,e,q3⟩=> ?_)) hm
 subst e
 cases r3
 refine wpAny_truthy_bool ?_
 cases k with
 |false=>exact ite_ff ⟨.bl false,H3,I3,rfl,q3⟩
 |true=>exact ite_tt (chain_last (eJ (hc pins s3 σ H3 _ I3 q3) fun w' s4 ⟨z',H4,I4,r4,q4⟩=>ho' pins s4 σ H4 y z' u w' Q I4 r2 r4 q4))
theorem jI {op op':CmpOp} {r r':R2} (ho:OpR X (compareOp op) r) (ho':OpR X (compareOp op') r') (ha:PE X a ta) (hb:PE X b tb) (hc:PE X c tc)
  (hm:lastMarks [op,op'] [b,c]=false:=by with_unfolding_all rfl):PT X (.Compare a [op,op'] [b,c] pos) (wc (uR r r' ta tb tc)):=by
 intro pins s σ H Q I h
 refine isTrue_chain (eJ (ha pins s σ H _ I h) fun v s1 ⟨x,H1,I1,r1,q1⟩=>test_link (eJ (hb pins s1 σ H1 _ I1 q1) fun u s2 ⟨y,H2,I2,r2,q2⟩=>
  eJ (ho pins s2 σ H2 x y v u _ I2 r1 r2 q2) fun d s3 ⟨z,H3,I3,r3,k,e,q3⟩=> ?_)) hm
 subst e
 cases r3
 refine wpAny_truthy_bool ?_
 cases k with
 |false=>
  obtain⟨k',e',q'⟩:=q3
  cases e'
  exact ite_ff ⟨H3,I3,q'⟩
 |true=>
  refine ite_tt (test_last (eJ (hc pins s3 σ H3 _ I3 q3) fun w' s4 ⟨z',H4,I4,r4,q4⟩=>eJ (ho' pins s4 σ H4 y z' u w' _ I4 r2 r4 q4) fun d' s5 ⟨z2,H5,I5,r5,k2,e2,q5⟩=> ?_))
  subst e2
  cases r5
  exact wpAny_truthy_bool ⟨H5,I5,q5⟩
theorem su:(sizeLine:Nat)<2^63:=by rw[sizeLine_eq];decide
theorem jZ {x:V} {us:List Value} (r:Vals [x] us):∃u,us=[u]∧RelV x u:=by
 cases r with
 |cons r1 r2=>cases r2;exact⟨_,rfl,r1⟩
theorem pX {x y:V} {us:List Value} (r:Vals [x,y] us):∃u w',us=[u,w']∧RelV x u∧RelV y w':=by
 cases r with
 |cons r1 r2=>
  cases r2 with
  |cons r3 r4=>cases r4;exact⟨_,_,rfl,r1,r3⟩
theorem iY (hc:X.calm=true):CallR X (.builtin "max") (fun xs H Q=>∃i j,xs=[.int i,.int j]∧Q (.int (if j>i then j else i)) H):=by
 intro pins s σ H xs us Q I r h
 obtain⟨i,j,rfl,q⟩:=h
 obtain⟨u,w',rfl,⟨t,rfl⟩,⟨t',rfl⟩⟩:=pX r
 refine max_two_ints (I.ok.hd hc) fun h' tk k=>⟨_,H,I.kept k,?_,q⟩
 by_cases hj:j>i
 ·rw[if_pos hj,if_pos hj];exact⟨_,rfl⟩
 ·rw[if_neg hj,if_neg hj];exact⟨_,rfl⟩
theorem pR:CallR X (.type "int") (fun xs H Q=>(∃i,xs=[.int i]∧Q (.int i) H)∨∃k,xs=[.bl k]∧Q (.int (if k then 1 else 0)) H):=by
 intro pins s σ H xs us Q I r h
 rcases h with⟨i,rfl,q⟩|⟨k,rfl,q⟩
 ·obtain⟨u,rfl,t,rfl⟩:=jZ r
  exact call_int_int ⟨.int i,H,I,⟨_,rfl⟩,q⟩
 ·obtain⟨u,rfl,r1⟩:=jZ r
  cases r1
  exact call_int_bool ⟨.int (if k then 1 else 0),H,I.tok _,⟨_,rfl⟩,q⟩
noncomputable def Dy (K:PySem.W.Frag) (x:V) (H:Hp) (n:Nat):Prop:=
 match x with
 | .str y=>y.length≤sizeLine∧n=y.length
 | .byt y=>y.size≤sizeLine∧n=y.size
 | .ref p=>(∃xs,SqL K H p xs∧n=xs.length)∨∃xs,SqT K H p xs∧n=xs.length
 |_=>False
theorem bG:CallR X (.builtin "len") (fun xs H Q=>∃x n,xs=[x]∧Dy X.K x H n∧Q (.int n) H):=by
 intro pins s σ H xs us Q I r h
 obtain⟨x,n,rfl,e,q⟩:=h
 obtain⟨u,rfl,rx⟩:=jZ r
 have hl:=su
 have hs:sizeLine=16777216:=sizeLine_eq
 cases x with
 |str y=>
  obtain⟨t,rfl⟩:=rx
  obtain⟨hy,e'⟩:y.length≤sizeLine∧n=y.length:=e
  subst e'
  exact len_str (by omega) ⟨.int _,H,I.tok _,⟨_,rfl⟩,q⟩
 |byt y=>
  obtain⟨t,rfl⟩:=rx
  obtain⟨hy,e'⟩:y.size≤sizeLine∧n=y.size:=e
  subst e'
  exact PySem.W.len_bytes (by omega) ⟨.int _,H,I.tok _,⟨_,rfl⟩,q⟩
 |ref p=>
  cases rx
  have e':(∃xs,SqL X.K H p xs∧n=xs.length)∨∃xs,SqT X.K H p xs∧n=xs.length:=e
  rcases e' with⟨xs,hx,e'⟩|⟨xs,hx,e'⟩
  ·subst e'
   obtain⟨its,r',pl,hz⟩:=I.list hx
   have hlen:=r'.length
   exact Calls.call_len_list pl.isList (by simp only[List.size_toArray];omega) ⟨.int xs.length,H,I.tok _,⟨_,by simp only[List.size_toArray];rw[hlen]⟩,q⟩
  ·subst e'
   obtain⟨its,r',pl,hz⟩:=I.tuple hx
   have hlen:=r'.length
   exact len_tuple pl (by simp only[List.size_toArray];omega) ⟨.int xs.length,H,I.tok _,⟨_,by simp only[List.size_toArray];rw[hlen]⟩,q⟩
 |_=>exact(show False from e).elim
end
end L2
namespace L2
open PySem PySem.Spec PyProof.Rows
structure ObjM (h:Heap) (x dx C:Addr) (mA:Str→Option Value):Prop where
 obj:h.get? x=some (PySem.W.instObj C dx)
 ns:h.Ns1 dx mA
 ne:dx≠x
theorem x8 {h:Heap} {dx:Addr} {mA:Str→Option Value} (n:h.Ns1 dx mA):∃od,h.get? dx=some od∧∀name,PySem.W.lookIn name od=some (mA name):=by
 obtain⟨o,es,ep,ho,hd,hk,_,hm⟩:=n
 refine⟨o,ho,fun name=> ?_⟩
 have e:=hm name
 unfold nsFind findBy at e
 rw[←Array.find?_toList] at e
 unfold PySem.W.lookIn
 rw[hd]
 dsimp only
 split
 ·rename_i y q
  rw[q] at e
  exact congrArg some e
 ·rename_i q
  rw[q] at e
  have a:es.toList.any (·.refKey)=false:=by
   rw[List.any_eq_false]
   intro y hy
   obtain⟨z,t,hkey⟩:=hk y (Array.mem_toList_iff.mp hy)
   simp[DictEntry.refKey,hkey]
  have a':¬es.toList.any (·.refKey)=true:=by rw[a];exact Bool.false_ne_true
  rw[if_neg a']
  exact congrArg some e
section
variable {prog:Program} {w:World} {A:Around} {E:Value→Shared→Prop} {s:Shared} {K:PySem.W.Frag} {x dx C f:Addr} {mA:Str→Option Value} {name:Str} {v:Value}
end
noncomputable def EH (f:Str) (v:V):List (Str×V)→List (Str×V)
 |[]=>[(f,v)]
 |(g,x)::r=>if g=f then(g,v)::r else(g,x)::EH f v r
theorem RelO.some_of {v:V} {o:Option Value} (r:RelO (some v) o):∃u,o=some u∧RelV v u:=by
 cases o with
 |none=>exact(show False from r).elim
 |some u=>exact⟨u,rfl,r⟩
theorem yw {v:V} {u:Value} (r:RelV v u):PySem.W.handedIn u=true:=by
 cases v with
 |non=>cases(show u=Value.none from r);rfl
 |bl b=>cases(show u=Value.bool b from r);rfl
 |int i=>obtain⟨t,e⟩:=(show∃t,u=Value.int i t from r);cases e;rfl
 |str x=>obtain⟨t,e⟩:=(show∃t,u=Value.str x t from r);cases e;rfl
 |byt b=>obtain⟨t,e⟩:=(show∃t,u=Value.bytes b t from r);cases e;rfl
 |flt b=>obtain⟨t,e⟩:=(show∃t,u=Value.float b t from r);cases e;rfl
 |ref a=>cases(show u=Value.ref a from r);rfl
 |ty n=>cases(show u=Value.type n from r);rfl
section
variable {P:Program} {w:World} {H H':Hp} {h h':Heap} {a C dx:Addr} {fs fs':List (Str×V)}
end
structure Cls (K:PySem.W.Frag) (C:Addr):Prop where
 pg:PySem.W.plainGet K C Str.empty=true
 hd:PySem.W.hasDictIn K C=true
 po:PySem.W.plainOver K C=true
 sa:PySem.W.findIn K (.ref C) "__setattr__"=some (some (.builtin "object.__setattr__"))
noncomputable def sS (K:PySem.W.Frag) (C:Addr) (f:Str):Prop:=PySem.W.findIn K (.ref C) f=some none
structure Con (K:PySem.W.Frag) (C:Addr) (f:Str) (v:V) (u:Value):Prop where
 at_:PySem.W.findIn K (.ref C) f=some (some u)
 rel:RelV v u
 get:PySem.W.specialIn K u "__get__"=some none
 cp:PySem.W.copiedNames.contains f=false
structure Meth (K:PySem.W.Frag) (C:Addr) (m:Str) (f:Addr):Prop where
 at_:PySem.W.findIn K (.ref C) m=some (some (.ref f))
 fn:PySem.W.isFn K (.ref f)=true
 kp:PySem.W.keepIn K (.ref f)=true
section
variable {X:Cx} {pins:List (Addr×Obj)} {σ:St} {H:Hp} {s:Shared} {a C dx:Addr} {fs:List (Str×V)} {f:Str} {v:V} {A:Around} {E:Value→Shared→Prop}
theorem Bg {prog:Program} {w:World} {env:Env} {e:Expr} {f:Str} {pos:Pos} {s:Shared} {Q:Value→Shared→Prop} (hb:attributeBase e f env (eval e env)=eval e env)
  (h:wpAny (model prog w) A (eval e env) (fun o s₁=>wpAny (model prog w) A (getAttr o f true) Q E s₁) E s):wpAny (model prog w) A (eval (.Attribute e f pos) env) Q E s:=
 Attribute_any_ h (by rw[arm_eval_Attribute,hb])
end
noncomputable def G5 (K:PySem.W.Frag) (ta:TE) (f:Str):TE:=fun σ H Q=>ta σ H fun x H1=>∃a C dx fs v,x= .ref a∧H1 a=some (.ins C dx fs)∧Cls K C∧sS K C f∧fs.lookup f=some v∧Q v H1
noncomputable def Hx (K:PySem.W.Frag) (ta tv:TE) (f:Str):TS:=fun D σ H=>tv σ H fun y H1=>ta σ H1 fun x H2=>∃a C dx fs,x= .ref a∧H2 a=some (.ins C dx fs)∧Cls K C∧sS K C f∧fs.length<1000∧
 D.nx σ (cU H2 a (.ins C dx (EH f y fs)))
section
variable {X:Cx} {o e value:Expr} {f:Str} {pos pos' tpos:Pos} {ta tv:TE}
end
section
variable {X:Cx} {pins:List (Addr×Obj)} {σ:St} {H:Hp} {s:Shared} {A:Around} {E:Value→Shared→Prop} {Q:Value→Shared→Prop} {c:Value} {b:Bool}
inductive TyOf (K:PySem.W.Frag) (H:Hp):V→Value→Prop where
 |non:TyOf K H .non (.type "NoneType")
 |bl (x:Bool):TyOf K H (.bl x) (.type "bool")
 |int (i:Int):TyOf K H (.int i) (.type "int")
 |str (x:Str):TyOf K H (.str x) (.type "str")
 |flt (x:UInt64):TyOf K H (.flt x) (.type "float")
 |lst {a:Addr} {xs:List V} (e:H a=some (.lst xs)):TyOf K H (.ref a) (.type "list")
 |frz {a:Addr} {o:Obj} {xs:List V} (e:H a=some (.frz o (.lst xs))):TyOf K H (.ref a) (.type "list")
 |tup {a:Addr} {xs:List V} (e:H a=some (.tup xs)):TyOf K H (.ref a) (.type "tuple")
 |dK {a:Addr} {kvs:List (pL×V)} (e:H a=some (.dK kvs)):TyOf K H (.ref a) (.type "dict")
 |dT {a:Addr} {kvs:List (List pL×V)} (e:H a=some (.dT kvs)):TyOf K H (.ref a) (.type "dict")
 |ins {a C dx:Addr} {fs:List (Str×V)} (e:H a=some (.ins C dx fs)) (cl:Cls K C) (ha:PySem.W.findIn K (.ref C) "__class__"=some (some (.builtin "object.__class__")))
   (hn:PySem.W.specialIn K (.builtin "object.__class__") "__get__"=some (some (.builtin "getset_descriptor.__get__"))) (htk:PySem.W.takesIn K (.builtin "object.__class__")=some true)
   (hm:PySem.W.mroIn K C (.type "object")=some true):TyOf K H (.ref a) (.ref C)
end
end L2
namespace L2
open PySem PySem.Spec PyProof.Rows
structure Room (k:Nat) (A:Around):Prop where
 hd:A.handled=none
 dp:A.depth+3*k+5<recursionLimit
 un:A.units+16*k+200<cLine
theorem Room.mono {j k:Nat} {A:Around} (r:Room k A) (h:j≤k):Room j A:=⟨r.hd,by have:=r.dp;omega,by have:=r.un;omega⟩
theorem Room.deeper {k:Nat} {A:Around} (r:Room (k+1) A) (env:Env):Room k (A.deeper env):=
 ⟨r.hd,by have:=r.dp;show A.depth+1+3*k+5<_;omega,by have:=r.un;show A.units+3+16*k+200<_;omega⟩
theorem vA {A:Around} {C:Addr} {us:List Value} {kw:List (Str×Value)}:(A.under (.builtin "type.__call__" ⟨.ref C::us,kw⟩)).depth=A.depth+1:=by
 first|rfl|simp[Around.under,Code.weight,Code.isCreation,Code.isGuard,Code.isCaller,Code.frames,Code.isFrame,guardIds]
theorem vL {A:Around} {C:Addr} {us:List Value} {kw:List (Str×Value)}:(A.under (.builtin "type.__call__" ⟨.ref C::us,kw⟩)).units=A.units+1:=by
 first|rfl|simp[Around.under,Code.cUnits,Code.frames,Code.isFrame]
theorem Room.make {k:Nat} {A:Around} (r:Room (k+1) A) (C:Addr) (us:List Value) (kw:List (Str×Value)):Room k (A.under (.builtin "type.__call__" ⟨.ref C::us,kw⟩)):=
 ⟨r.hd,by have:=r.dp;rw[vA];omega,by have:=r.un;rw[vL];omega⟩
theorem Room.depth {k:Nat} {A:Around} (r:Room k A):A.depth<recursionLimit:=by have:=r.dp;omega
theorem Room.units {k:Nat} {A:Around} (r:Room k A):A.units+64<cLine:=by have:=r.un;omega
noncomputable def vy:TA:=fun _ H Q=>Q [] H
noncomputable def lD (ta:TE) (tr:TA):TA:=fun σ H Q=>ta σ H fun x H1=>tr σ H1 fun xs H2=>Q (x::xs) H2
section
variable {X:Cx} {e:Expr} {es:List Expr} {te:TE} {t:TA} {pos:Pos}
theorem aj:PA X [] vy:=fun _ _ _ _ H Q I h=>Calls.spliced_nil ⟨[],H,I,.nil,h⟩
theorem ac (ha:PE X e te) (hr:PA X es t) (hs:starEach (e::es) X.env=(false,eval e X.env)::starEach es X.env:=by rfl):PA X (e::es) (lD te t):=by
 intro pos pins s σ H Q I h
 rw[hs]
 show wpAny _ _ (spliced ((false,eval e X.env)::backTo pos (starEach es X.env))) _ _ s
 refine Calls.spliced_cons (eJ (ha pins s σ H _ I h) fun u s1 ⟨x,H1,I1,r1,q1⟩=> ?_)
 exact eJ (hr pos pins s1 σ H1 _ I1 q1) fun us s2 ⟨xs,H2,I2,r2,q2⟩=>⟨x::xs,H2,I2,.cons r1 r2,q2⟩
noncomputable def Er (t:TA):TE:=fun σ H Q=>t σ H fun xs H1=>xs.length≤sizeLine∧∀p,H1 p=none→Q (.ref p) (cU H1 p (.tup xs))
noncomputable def Ek (t:TA):TE:=fun σ H Q=>t σ H fun xs H1=>xs.length≤sizeLine∧∀p,H1 p=none→Q (.ref p) (cU H1 p (.lst xs))
theorem aV {x1} (h:PA X es t):PE X (.Tuple es x1 pos) (Er t):=by
 intro pins s σ H Q I hq
 refine wpAny_Tuple_spliced (eJ (h pos pins s σ H _ I hq) fun us s1 ⟨xs,H1,I1,r,z,q⟩=>⟨by rw[←r.length];exact z,?_⟩)
 have hf:H1 s1.heap.objs.size=none:=I1.hok.fresh (Nat.le_refl _)
 refine⟨.ref s1.heap.objs.size,cU H1 s1.heap.objs.size (.tup xs),I1.laid (t':=s1.toks) (fun b u e=>Heap.get?_push_of_some _ e) (Nat.le_refl _) ?_,rfl,q _ hf⟩
 exact⟨z,us,r,⟨_,Heap.get?_push_size _ rfl,rfl,_,rfl⟩⟩
theorem cC (h:PA X es t):PE X (.List es pos) (Ek t):=by
 intro pins s σ H Q I hq
 refine wpAny_List_spliced (eJ (h pos pins s σ H _ I hq) fun us s1 ⟨xs,H1,I1,r,z,q⟩=>⟨by rw[←r.length];exact z,?_⟩)
 have hf:H1 s1.heap.objs.size=none:=I1.hok.fresh (Nat.le_refl _)
 refine⟨.ref s1.heap.objs.size,cU H1 s1.heap.objs.size (.lst xs),I1.laid (t':=s1.toks) (fun b u e=>Heap.get?_push_of_some _ e) (Nat.le_refl _) ?_,rfl,q _ hf⟩
 exact⟨z,us,0,r,Heap.get?_push_size _ rfl⟩
end
noncomputable abbrev Sp:=List V→Hp→VK→XK→Prop
noncomputable abbrev xx:=List Env→Hp→Shared→XK→Value→Shared→Prop
structure Env0 (P:Program) (w:World) (K:PySem.W.Frag) (mg:Str→Option Value) (base:Heap) (A:Around) (outer:List Env) (s:Shared) (H:Hp):Prop where
 frames:A.frames=some outer
 mod:Mod K mg base
 bs:∀b o,base.get? b=some o→s.heap.get? b=some o∧H b=none
 bsz:base.objs.size≤s.heap.objs.size
 funs:s.heap.FunFrames base outer
 frf:∀b∈ul outer,H b=none
 hok:HOk P w H s.heap
 bare:AllBare s.gens
noncomputable def CE (outer:List Env) (P:Program) (w:World) (H:Hp) (s:Shared) (Q:VK) (u:Value) (s':Shared):Prop:=
 ∃v H',s'.os=s.os∧AllBare s'.gens∧Un (ul outer) [] H H' s.heap s'.heap∧HOk P w H' s'.heap∧RelV v u∧Q v H'
noncomputable def CR (CX:xx) (outer:List Env) (P:Program) (w:World) (H:Hp) (s:Shared) (Q:VK) (E:XK) (r:Result) (s':Shared):Prop:=
 match r with
 | .ok (.ret u)=>CE outer P w H s Q u s'
 | .ok _=>False
 | .error e=>CX outer H s E e s'
structure FnOk (P:Program) (w:World) (K:PySem.W.Frag) (mg:Str→Option Value) (base:Heap) (CX:xx) (k:Nat) (f:Addr) (fd:FuncData) (ps:List Str) (sp:Sp):Prop where
 len:∀vs H Q E,sp vs H Q E→vs.length=ps.length
 run:∀(A:Around) (outer:List Env) (s:Shared) (H:Hp) (args:Args) (us:List Value) (vs:List V) (Q:VK) (E:XK),Room k A→Env0 P w K mg base A outer s H→BindsTo s fd args (ps.zip us)→Vals vs us→sp vs H Q E→
  codeAny (model P w) A (.call (.ref f) args) (CR CX outer P w H s Q E) s
theorem FnOk.imp {P:Program} {w:World} {K:PySem.W.Frag} {mg:Str→Option Value} {base:Heap} {CX:xx} {k:Nat} {f:Addr} {fd:FuncData} {ps:List Str} {sp sp':Sp} (F:FnOk P w K mg base CX k f fd ps sp)
  (h:∀vs H Q E,sp' vs H Q E→sp vs H Q E):FnOk P w K mg base CX k f fd ps sp':=
 ⟨fun vs H Q E q=>F.len vs H Q E (h _ _ _ _ q),fun A outer s H args us vs Q E hr he hb hv hs=>F.run A outer s H args us vs Q E hr he hb hv (h _ _ _ _ hs)⟩
theorem Env0.make {P:Program} {w:World} {K:PySem.W.Frag} {mg:Str→Option Value} {base:Heap} {A:Around} {outer:List Env} {s:Shared} {H:Hp} (e:Env0 P w K mg base A outer s H) (C:Addr) (us:List Value) (kw:List (Str×Value)):
  Env0 P w K mg base (A.under (.builtin "type.__call__" ⟨.ref C::us,kw⟩)) outer s H:=⟨by first|exact e.frames|(simpa [Around.under,Code.envs,Code.isFrame,pushEnvs] using e.frames),e.mod,e.bs,e.bsz,e.funs,e.frf,e.hok,e.bare⟩
section
variable {X:Cx} {pins:List (Addr×Obj)} {σ:St} {H:Hp} {s s':Shared}
theorem Inv.env0 (I:Inv X pins σ H s):Env0 X.prog X.w X.K X.mg X.base X.A X.stack s H:=
 ⟨I.ok.frames,I.ok.mod,I.bs,Nat.le_trans I.ok.bsz I.sz,I.stack,I.stkFree,I.hok,I.bare⟩
theorem Inv.after {Q:VK} {u:Value} (I:Inv X pins σ H s) (h:CE X.stack X.prog X.w H s Q u s'):EP X pins σ Q u s':=by
 obtain⟨v,H',os,bare,un,hok,r,q⟩:=h
 obtain⟨hh,g,d,t,os'⟩:=s'
 obtain rfl:os'=s.os:=os
 exact⟨v,H',I.call (h':=hh) (g':=g) (d':=d) (t':=t) (ch:=[]) un hok bare (fun b z=>absurd z (by simp)),r,q⟩
end
noncomputable def pq (sp:Sp) (dvs:List V) (E:XK) (t:TA):TE:=fun σ H Q=>t σ H fun vs H1=>sp (vs++dvs) H1 Q E
noncomputable def Ga (C:Addr) (m:Str) (sp:Sp) (dvs:List V) (E:XK) (ta:TE) (t:TA):TE:=fun σ H Q=>ta σ H fun x H1=>∃a dx fs,x= .ref a∧H1 a=some (.ins C dx fs)∧fs.lookup m=none∧
 t σ H1 fun vs H2=>sp (x::(vs++dvs)) H2 Q E
noncomputable def Fp (C:Addr) (sp:Sp) (dvs:List V) (E:XK) (t:TA):TE:=fun σ H Q=>t σ H fun vs H1=>∀x dx,H1 x=none→H1 dx=none→dx≠x→
 sp (.ref x::(vs++dvs)) (cU (cU H1 dx (.own x)) x (.ins C dx [])) (fun v H2=>v= .non∧Q (.ref x) H2) E
noncomputable def Binds (K:PySem.W.Frag) (fd:FuncData) (ps:List Str) (ds:List Value):Prop:=
 ∀(s:Shared) (us:List Value),K.In s.heap→(us++ds).length=ps.length→BindsTo s fd ⟨us,[]⟩ (ps.zip (us++ds))
theorem Binds.all {K:PySem.W.Frag} {fd:FuncData} {ps:List Str} (h:∀us:List Value,us.length=ps.length→bindArgs fd ⟨us,[]⟩=pure (ps.zip us)):Binds K fd ps []:=fun s us _ hl=>by
 rw[List.append_nil] at hl⊢
 exact .of_eq (h us hl)
noncomputable def k7 (CX:xx) (X:Cx) (E:XK):Prop:=∀(pins:List (Addr×Obj)) (σ:St) (H:Hp) (s:Shared) (e:Value) (s':Shared),Inv X pins σ H s→CX X.stack H s E e s'→X.xe e s'
section
variable {X:Cx} {CX:xx} {k:Nat} {f C:Addr} {fd:FuncData} {ps:List Str} {sp:Sp} {dvs:List V} {ds:List Value} {E:XK} {x m:Str} {p pos apos:Pos} {e o:Expr} {es:List Expr} {ta:TE} {t:TA}
theorem Du {pins:List (Addr×Obj)} {σ:St} {H:Hp} {s:Shared} {Q:VK} {us:List Value} {vs:List V} (F:FnOk X.prog X.w X.K X.mg X.base CX k f fd ps sp) (hr:Room k X.A) (hb:Binds X.K fd ps ds) (hd:Vals dvs ds) (hx:k7 CX X E)
  (I:Inv X pins σ H s) (r:Vals vs us) (h:sp (vs++dvs) H Q E):wpAny (model X.prog X.w) X.A (call (.ref f) us) (EP X pins σ Q) X.xe s:=by
 have r2:Vals (vs++dvs) (us++ds):=r.append hd
 have hl:(us++ds).length=ps.length:=by rw[←r2.length];exact F.len _ _ _ _ h
 refine wpAny_call (codeAny_mono (F.run X.A X.stack s H ⟨us,[]⟩ (us++ds) (vs++dvs) Q E hr I.env0 (hb s us I.kIn hl) r2 h) fun r s' hq=> ?_)
 cases r with
 |error e=>exact hx pins σ H s e s' I hq
 |ok fl=>
  cases fl with
  |ret u=>exact I.after hq
  |next=>exact False.elim hq
  |brk=>exact False.elim hq
  |cont=>exact False.elim hq
theorem wP (F:FnOk X.prog X.w X.K X.mg X.base CX k f fd ps sp) (hr:Room k X.A) (hg:Gl X x) (hm:X.mg x=some (.ref f)) (hk:PySem.W.keepIn X.K (.ref f)=true) (hb:Binds X.K fd ps ds) (hd:Vals dvs ds) (hx:k7 CX X E)
  (ha:PA X (e::es) t) (hdb:(x==("__debug__":Str))=false:=by decide) (he:starEach (e::es) X.env=(false,eval e X.env)::starEach es X.env:=by rfl) (hpl:(backTo pos (starEach es X.env)).any (·.1)=false:=by rfl):
  PE X (.Call (.Name x p) (e::es) [] pos) (pq sp dvs E t):=by
 intro pins s σ H Q I h
 refine wpAny_Call_Name_kw (lW I hg hm ?_ hdb)
 refine PySem.W.callWith_K (h₀:=X.base) I.ok.mod.kin hk (eJ (ha pos pins s σ H _ I h) fun us s1 ⟨vs,H1,I1,r,q⟩=>⟨I1.kIn,?_⟩) he hpl
 exact Du F hr hb hd hx I1 r q
structure Mk (K:PySem.W.Frag) (C f:Addr):Prop where
 makes:PySem.W.makesIn K C=true
 init:PySem.W.findIn K (.ref C) "__init__"=some (some (.ref f))
 fn:PySem.W.isFn K (.ref f)=true
 kp:PySem.W.keepIn K (.ref C)=true
end
section
variable {X:Cx} {CX:xx} {k:Nat} {f C:Addr} {fd:FuncData} {ps ks:List Str} {sp:Sp} {E:XK} {x m:Str} {p pos apos kpos:Pos} {e o:Expr} {es:List Expr} {kws:List Keyword} {te ta:TE} {t tk:TA} {nm:Option Str}
structure KBinds (K:PySem.W.Frag) (fd:FuncData) (ps ks:List Str) (g:List Value→List Value→List Value) (gV:List V→List V→List V):Prop where
 to:∀(s:Shared) (us ws:List Value),K.In s.heap→(g us ws).length=ps.length→BindsTo s fd ⟨us,ks.zip ws⟩ (ps.zip (g us ws))
 rel:∀{vs:List V} {us:List Value} {zs:List V} {ws:List Value},Vals vs us→Vals zs ws→Vals (gV vs zs) (g us ws)
variable {g:List Value→List Value→List Value} {gV:List V→List V→List V}
end
structure FnScope (N P:List Str) (sc:Scope):Prop where
 kind:sc.kind= .function
 co:sc.isCoroutine=false
 gen:sc.isGenerator=false
 nd:N.Nodup
 pre:N.take P.length=P
 par:∀x∈P,sc.names.lookup x=some .local∨sc.names.lookup x=some .cell
 nofree:∀y∈sc.names,y.2≠ .free
theorem qj {kindOf:Str→Option NameKind} {x:Str}:∀{binds:List (Str×Value)} {m:Str→Option Value},(∀v,(x,v)∉binds)→bindL kindOf binds m x=m x
 |[],_,_=>rfl
 |(n,v)::r,m,h=>by
  unfold bindL
  rw[qj fun w hw=>h w (List.mem_cons_of_mem _ hw)]
  split
  ·have:x≠n:=by rintro rfl;exact h v List.mem_cons_self
   simp[this]
  ·rfl
theorem qv {kindOf:Str→Option NameKind} {x:Str}:∀{binds:List (Str×Value)} {m:Str→Option Value},(∀v,(x,v)∉binds)→bindC kindOf binds m x=m x
 |[],_,_=>rfl
 |(n,v)::r,m,h=>by
  unfold bindC
  rw[qv fun w hw=>h w (List.mem_cons_of_mem _ hw)]
  split
  ·rfl
  ·have:x≠n:=by rintro rfl;exact h v List.mem_cons_self
   simp[this]
theorem pQ {kindOf:Str→Option NameKind} {x:Str} {v:Value}:∀{P:List Str} {vs:List Value} {i:Nat} {m:Str→Option Value},P.Nodup→P[i]? =some x→vs[i]? =some v→kindOf x=some .local→
  bindL kindOf (P.zip vs) m x=some v
 |[],_,_,_,_,h,_,_=>by simp at h
 |_::_,[],_,_,_,_,h,_=>by simp at h
 |p::P,w::vs,0,m,nd,h1,h2,hk=>by
  simp at h1 h2;subst h1;subst h2
  show bindL kindOf ((p,w)::P.zip vs) m p=_
  unfold bindL
  rw[qj fun v hv=>(List.nodup_cons.mp nd).1 (List.of_mem_zip hv).1,if_pos hk]
  simp
 |p::P,w::vs,i+1,m,nd,h1,h2,hk=>by
  show bindL kindOf ((p,w)::P.zip vs) m x=_
  unfold bindL
  exact pQ (i:=i) (List.nodup_cons.mp nd).2 (by simpa using h1) (by simpa using h2) hk
theorem pU {kindOf:Str→Option NameKind} {x:Str} {v:Value}:∀{P:List Str} {vs:List Value} {i:Nat} {m:Str→Option Value},P.Nodup→P[i]? =some x→vs[i]? =some v→kindOf x≠some .local→
  bindC kindOf (P.zip vs) m x=some v
 |[],_,_,_,_,h,_,_=>by simp at h
 |_::_,[],_,_,_,_,h,_=>by simp at h
 |p::P,w::vs,0,m,nd,h1,h2,hk=>by
  simp at h1 h2;subst h1;subst h2
  show bindC kindOf ((p,w)::P.zip vs) m p=_
  unfold bindC
  rw[qv fun v hv=>(List.nodup_cons.mp nd).1 (List.of_mem_zip hv).1,if_neg hk]
  simp
 |p::P,w::vs,i+1,m,nd,h1,h2,hk=>by
  show bindC kindOf ((p,w)::P.zip vs) m x=_
  unfold bindC
  exact pU (i:=i) (List.nodup_cons.mp nd).2 (by simpa using h1) (by simpa using h2) hk
noncomputable def start (N:List Str) (vs:List V):St:=vs.map some++List.replicate (N.length - vs.length) none
noncomputable def fJ (CX:xx) (P:Program) (w:World) (K:PySem.W.Frag) (mg:Str→Option Value) (base:Heap) (N:List Str) (qual:Str) (scope:Scope) (f:Addr) (cd:Value) (A:Around) (outer:List Env) (s:Shared) (H:Hp) (E:XK):Cx where
 prog:=P
 w:=w
 K:=K
 mg:=mg
 base:=base
 A:=A.deeper (envOfC qual scope s.heap.objs.size f cd)
 N:=N
 s₀:=s
 H₀:=H
 env:=envOfC qual scope s.heap.objs.size f cd
 outer:=outer
 stack:=envOfC qual scope s.heap.objs.size f cd::outer
 ex:=[]
 calm:=true
 fn:=fun _=>true
 pn:=[]
 xe:=fun e s'=>wpAny (model P w) (A.deeper (envOfC qual scope s.heap.objs.size f cd)) (leaving (envOfC qual scope s.heap.objs.size f cd) e) (fun _ s''=>CX outer H s E e s'') (fun e' s''=>CX outer H s E e' s'') s'
theorem ut {sc:Scope} {n:Nat} {x:Str} (h:sc.names.lookup x=some .cell):∃c,(cellsFrom n sc.names []).lookup x=some c:=by
 have q:=PySem.W.cellsFrom_some sc.names n [] (.inl h)
 exact Option.isSome_iff_exists.mp q
theorem xK {CX:xx} {P:Program} {w:World} {K:PySem.W.Frag} {mg:Str→Option Value} {base:Heap} {N ps:List Str} {qual:Str} {scope:Scope} {f:Addr} {cd:Value} {A:Around} {outer:List Env} {s s1:Shared} {H:Hp} {E:XK} {us:List Value} {vs:List V}
  (S:FnScope N ps scope) (hd:A.handled=none) (e0:Env0 P w K mg base A outer s H) (hl:vs.length=ps.length) (r:Vals vs us)
  (x:InCallC s s.heap.objs.size (bindL (envOfC qual scope s.heap.objs.size f cd).kindOf (ps.zip us) fun _=>none) (cellsFrom (s.heap.objs.size+1) scope.names []) (bindC (envOfC qual scope s.heap.objs.size f cd).kindOf (ps.zip us) fun _=>none) s1):
  Inv (fJ CX P w K mg base N qual scope f cd A outer s H E) [] (start N vs) H s1:=by
 have hpl:ps.length≤N.length:=by have:=congrArg List.length S.pre;rw[List.length_take] at this;omega
 obtain⟨h1,tk,rfl,hk⟩:=x.done
 have noA:∀b:Addr,b∉(fJ CX P w K mg base N qual scope f cd A outer s H E).ex:=fun b z=>absurd (show b∈([]:List Addr) from z) (by simp)
 refine⟨⟨e0.mod,S.kind,rfl,rfl,Nat.le_refl _,fun y z c h1 h2=> ?_,fun y hy=> ?_,fun y c _ h=> ?_,fun _=>hd,Around.frames_deeper e0.frames,.inr ⟨rfl,rfl⟩,fun b z=>absurd z (noA b),e0.bs,e0.bsz,fun b _ _=>noA b,fun b z=>absurd z (noA b),e0.funs,e0.frf⟩,
  rfl,e0.bare,Un.kept hk,⟨_,x.toInCall.ns,fun i y v h1 h2 h3=> ?_⟩,fun y c h=>⟨_,x.cell y c h⟩,e0.hok.fresh (Nat.le_refl _),fun y c h=> ?_,fun p hp=>absurd (show p∈([]:List (Addr×Obj)) from hp) (by simp),e0.hok.kept hk,?_⟩
 ·exact name_of_addr x.apart (PySem.mem_of_lookup h1) (PySem.mem_of_lookup h2)
 ·have hy:scope.names.lookup y=some .cell∨scope.names.lookup y=some .free:=hy
  rcases hy with hy|hy
  ·exact ut hy
  ·exact absurd rfl (S.nofree _ (PySem.mem_of_lookup hy))
 ·exact Nat.le_of_lt (x.above y c (PySem.mem_of_lookup h))
 ·have hi:i<vs.length:=by
   unfold start at h2
   by_cases hi:i<vs.length
   ·exact hi
   ·rw[List.getElem?_append_right (by simpa using hi)] at h2
    rw[List.getElem?_replicate] at h2
    split at h2<;>cases h2
  have ha:vs[i]? =some v:=by
   unfold start at h2
   rw[List.getElem?_append_left (by simpa using hi),List.getElem?_map] at h2
   cases e:vs[i]? with
   |none=>rw[e] at h2;cases h2
   |some a=>rw[e] at h2;cases h2;rfl
  obtain⟨u,hu,rv⟩:=r.get ha
  have hp:ps[i]? =some y:=by
   rw[←S.pre,List.getElem?_take_of_lt (by omega)];exact h1
  have ndP:ps.Nodup:=by rw[←S.pre];exact S.nd.sublist (List.take_sublist _ _)
  refine⟨u,rv,?_⟩
  rcases S.par y (List.mem_of_getElem? hp) with k|k
  ·exact .inl ⟨k,pQ ndP hp hu k⟩
  ·obtain⟨c,e⟩:=ut (n:=s.heap.objs.size+1) k
   refine .inr ⟨.inl k,c,e,?_⟩
   have q:=x.cell y c e
   rw[pU ndP hp hu (by show scope.names.lookup y≠_;rw[k];decide)] at q
   exact q
 ·exact e0.hok.fresh (Nat.le_of_lt (x.above y c (PySem.mem_of_lookup h)))
 ·unfold start
  show _=N.length
  rw[List.length_append,List.length_map,List.length_replicate]
  omega
theorem CO {CX:xx} {P:Program} {w:World} {K:PySem.W.Frag} {mg:Str→Option Value} {base:Heap} {k:Nat} {f:Addr} {name qual:Str} {params:Arguments} {body:List Stmt} {scope:Scope} {dV kV doc pm cdv ct oc:Value} {an od:Option Addr}
  {osl:Array (Option Value)} {N ps:List Str} {sp:Sp} (lk:K.lookup f=some ⟨oc,od,.func (PySem.W.fnOf name qual params body scope dV kV doc pm an cdv ct),osl⟩) (hcd:PySem.W.codeIn K cdv qual=true) (S:FnScope N ps scope)
  (len:∀vs H Q E,sp vs H Q E→vs.length=ps.length)
  (hbody:∀(A:Around) (outer:List Env) (s:Shared) (H:Hp) (vs:List V) (Q:VK) (E:XK),Room k (A.deeper (envOfC qual scope s.heap.objs.size f cdv))→sp vs H Q E→
   ∃t,PSs (fJ CX P w K mg base N qual scope f cdv A outer s H E) body t∧t {nx:=fun _ H'=>Q .non H',rt:=Q} (start N vs) H):
  FnOk P w K mg base CX (k+1) f (PySem.W.fnOf name qual params body scope dV kV doc pm an cdv ct) ps sp:=by
 refine⟨len,fun A outer s H args us vs Q E hr e0 hb r hsp=> ?_⟩
 have hl:=len _ _ _ _ hsp
 have KX:K.In s.heap:=e0.mod.kin.keeps fun b o e=>(e0.bs b o e).1
 have lim:s.heap.NoLimit:=e0.mod.nolimit.keeps fun b o e=>(e0.bs b o e).1
 have hkind:∀y∈ps.zip us,scope.names.lookup y.1=some .local∨(scope.names.lookup y.1=some .cell∧((cellsFrom (s.heap.objs.size+1) scope.names []).lookup y.1).isSome=true):=fun⟨n,v⟩ hy=>by
  rcases S.par n (List.of_mem_zip hy).1 with q|q
  ·exact .inl q
  ·exact .inr ⟨q,PySem.W.cellsFrom_some _ _ _ (.inl q)⟩
 refine codeAny_call_function hr.depth (KX _ _ lk) rfl S.co S.gen rfl (PySem.W.codeRec_of KX hcd) (hb _ _ _ _ ?_)
 refine wpAny_newFunctionEnv_cells S.kind hkind fun env he s1 x=> ?_
 subst he
 refine⟨lim.keeps x.toInCall.keep,codeAny_func ?_⟩
 obtain⟨t,ht,hq⟩:=hbody A outer s H vs Q E (hr.deeper _) hsp
 have I:Inv (fJ CX P w K mg base N qual scope f cdv A outer s H E) [] (start N vs) H s1:=xK S hr.hd e0 hl r x
 refine wpAny_mono (ht [] s1 (start N vs) H _ I hq) (fun fl s' hs=> ?_) fun e s' hs=>hs
 have fin:∀{σ':St} {H':Hp} {v:V} {u:Value},Inv (fJ CX P w K mg base N qual scope f cdv A outer s H E) [] σ' H' s'→RelV v u→Q v H'→CE outer P w H s Q u s':=
  fun{σ' H' v u} J rv q=>⟨v,H',J.os,J.bare,J.base,J.hok,rv,q⟩
 cases fl with
 |ret u=>
  obtain⟨v,σ',H',J,rv,q⟩:=hs
  exact fin J rv q
 |next=>
  obtain⟨σ',H',J,q⟩:=hs
  exact fin (v:=V.non) (u:=Value.none) J rfl q
 |brk=>
  obtain⟨_,_,_,q⟩:=hs
  exact False.elim q
 |cont=>
  obtain⟨_,_,_,q⟩:=hs
  exact False.elim q
end L2
namespace L2
open PySem PySem.Spec PyProof.Rows
section
variable {X:Cx} {x:Str} {p pos:Pos} {e:Expr} {es:List Expr} {t:TA} {id T:String} {r:List V→Hp→VK→Prop}
noncomputable def Ep (r:List V→Hp→VK→Prop) (t:TA):TE:=fun σ H Q=>t σ H fun vs H1=>r vs H1 Q
theorem aJ (hc:CallR X (.builtin id) r) (hg:Gl X x) (hm:X.mg x=none) (hv:bootBuiltins x=some (.builtin id)) (ha:PA X (e::es) t) (hn:x≠ "__name__":=by decide) (hdb:(x==("__debug__":Str))=false:=by decide)
  (he:starEach (e::es) X.env=(false,eval e X.env)::starEach es X.env:=by rfl) (hpl:(backTo pos (starEach es X.env)).any (·.1)=false:=by rfl):PE X (.Call (.Name x p) (e::es) [] pos) (Ep r t):=by
 intro pins s σ H Q I h
 refine wpAny_Call_Name_kw (mq I hg hm hv ?_ hn hdb)
 exact PyProof.Rows.callWith_builtin1 (eJ (ha pos pins s σ H _ I h) fun us s1 ⟨vs,H1,I1,r1,q1⟩=>hc pins s1 σ H1 vs us Q I1 r1 q1) he hpl
theorem dc (hc:CallR X (.type T) r) (hg:Gl X x) (hm:X.mg x=none) (hv:bootBuiltins x=some (.type T)) (ha:PA X (e::es) t) (hn:x≠ "__name__":=by decide) (hdb:(x==("__debug__":Str))=false:=by decide)
  (he:starEach (e::es) X.env=(false,eval e X.env)::starEach es X.env:=by rfl) (hpl:(backTo pos (starEach es X.env)).any (·.1)=false:=by rfl):PE X (.Call (.Name x p) (e::es) [] pos) (Ep r t):=by
 intro pins s σ H Q I h
 refine wpAny_Call_Name_kw (mq I hg hm hv ?_ hn hdb)
 exact PyProof.Rows.callWith_type1 (eJ (ha pos pins s σ H _ I h) fun us s1 ⟨vs,H1,I1,r1,q1⟩=>hc pins s1 σ H1 vs us Q I1 r1 q1) he hpl
end
end L2
namespace HT
open PySem PyProof.Rows
section
open PySem.SeqAt
open PySem.AutoSeq1 (wpAny_loadPart')
open PySem.MeetsSeq PySem.MeetsSeq2 PySem.MeetsSeq3
end
section
variable {prog:Program} {w:World} {A:Around} {E:Value→Shared→Prop} {s:Shared}
theorem cat_tup {t b:Addr} {vs ws:List Value} {Q:Value→Shared→Prop} (ht:IsTup s.heap t vs.toArray) (hb:IsTup s.heap b ws.toArray) (hv:vs≠[])
  (h1:ws=[]→Q (.ref t) s) (h2:ws≠[]→Q (.ref s.heap.objs.size) {s with heap:=s.heap.push {cls:= .type "tuple",data:= .seq (vs++ws).toArray}})
  (hsz:vs.length+ws.length≤sizeLine):wpAny (model prog w) A (binaryOp .Add (.ref t) (.ref b)) Q E s:=by
 obtain⟨⟨cls,dd,data,sl⟩,ho,hc,n,hd⟩:=id ht
 obtain⟨⟨cls2,dd2,data2,sl2⟩,ho2,hc2,n2,hd2⟩:=id hb
 simp only at hc hd hc2 hd2
 subst hc hd hc2 hd2
 have e:vs.toArray++ws.toArray=(vs++ws).toArray:=by simp
 by_cases hw:ws=[]
 ·exact concat_meets ⟨_,ho,rfl⟩ ⟨_,ho2,rfl⟩ noFill_tuple_add seq_tuple_add PySem.F.slot_tuple_add PySem.F.entry_tuple_add (PySem.F.args_tuple_add_2 _ _)
   (tuple_addW1 t b vs.toArray ws.toArray n n2 dd dd2 sl sl2 (by simpa using hv) (by simp[hw])) ⟨ho,ho2,h1 hw⟩
 ·refine concat_meets ⟨_,ho,rfl⟩ ⟨_,ho2,rfl⟩ noFill_tuple_add seq_tuple_add PySem.F.slot_tuple_add PySem.F.entry_tuple_add (PySem.F.args_tuple_add_2 _ _)
   (tuple_addW2 t b vs.toArray ws.toArray n n2 dd dd2 sl sl2 (by simpa using hv) (by simpa using hw) (by rw[List.size_toArray,List.size_toArray];exact hsz)) ⟨ho,ho2,?_⟩
  rw[e]
  exact h2 hw
noncomputable def sIx (n d:Nat):Option Int→Nat
 |none=>d
 |some v=>if v<0 then(v+(n:Int)).toNat else min v.toNat n
theorem sIx_none (n d:Nat):sIx n d none=d:=rfl
theorem sIx_nat (n d k:Nat):sIx n d (some (k:Int))=min k n:=by
 show(if(k:Int)<0 then((k:Int)+(n:Int)).toNat else min (k:Int).toNat n)=min k n
 rw[if_neg (by omega),Int.toNat_natCast]
theorem EE (n d:Nat) (hd:d≤n) (o:Option Int):sIx n d o≤n:=by
 cases o with
 |none=>exact hd
 |some v=>
  show(if v<0 then(v+(n:Int)).toNat else min v.toNat n)≤n
  by_cases hv:v<0
  ·rw[if_pos hv];omega
  ·rw[if_neg hv];exact Nat.min_le_right _ _
theorem wR (v:Int) (n d:Nat):(if v<0 then max (v+(n:Int)) 0 else min v (n:Int))=((sIx n d (some v):Nat):Int):=by
 show(if v<0 then max (v+(n:Int)) 0 else min v (n:Int))=(((if v<0 then(v+(n:Int)).toNat else min v.toNat n):Nat):Int)
 by_cases hv:v<0
 ·simp only[if_pos hv];omega
 ·simp only[if_neg hv];omega
theorem uV (lo hi:Option Int) (n:Nat):Builtin.Slice.sliceAdjust lo hi 1 (n:Int)=(((sIx n 0 lo:Nat):Int),((sIx n n hi:Nat):Int)):=by
 have h1:¬((1:Int)<0):=by omega
 unfold Builtin.Slice.sliceAdjust
 simp only[h1,if_false]
 refine Prod.ext ?_ ?_
 ·cases lo with
  |none=>rfl
  |some v=>exact wR v n 0
 ·cases hi with
  |none=>rfl
  |some v=>exact wR v n n
theorem vf (i j:Nat):Builtin.Slice.slicePlaces (i:Int) (j:Int) 1=j - i:=by
 unfold Builtin.Slice.slicePlaces
 have h1:(1:Int)>0:=by omega
 simp only[h1,if_true,Int.ediv_one]
 split<;>omega
theorem iy {v:Value} {o:Option Int} {Q:Option Int→Shared→Prop} (p:IsPart v o) (h:Q o s):wpAny (model prog w) A (Builtin.Slice.slicePartIndex v) Q E s:=by
 cases p with
 |none=>exact slicePart_none h
 |int i t=>exact slicePart_int h
theorem i7 {sl:Addr} {vl vu:Value} {lo hi:Option Int} {n:Nat} {Q:Int×Int×Nat→Shared→Prop} (hs:s.heap.IsSliceOf sl vl vu .none) (pl:IsPart vl lo) (pu:IsPart vu hi)
  (h:Q (((sIx n 0 lo:Nat):Int),1,sIx n n hi - sIx n 0 lo) s):wpAny (model prog w) A (Builtin.Slice.sliceApplied (.ref sl) (pure (n:Int))) Q E s:=by
 obtain⟨os,hos,hcs,hds⟩:=id hs
 unfold Builtin.Slice.sliceApplied Builtin.Slice.sliceFields
 refine wpAny_bind (wpAny_bind (wpAny_field hos hds (x:=vl) rfl (wpAny_bind (wpAny_field hos hds (x:=vu) rfl (wpAny_bind (wpAny_field hos hds (x:= .none) rfl (wpAny_pure ?_)))))))
 refine wpAny_bind (slicePart_none ?_)
 show wpAny _ _ (if((1:Int)==0)=true then _ else _) _ _ s
 rw[if_neg (by decide)]
 refine wpAny_bind (iy pl (wpAny_bind (iy pu (wpAny_bind (wpAny_pure ?_)))))
 show wpAny _ _ (match Builtin.Slice.sliceAdjust lo hi 1 (n:Int) with|(lo,hi)=>pure (lo,(1:Int),Builtin.Slice.slicePlaces lo hi 1)) _ _ s
 rw[uV lo hi n]
 show wpAny _ _ (pure (((sIx n 0 lo:Nat):Int),(1:Int),Builtin.Slice.slicePlaces ((sIx n 0 lo:Nat):Int) ((sIx n n hi:Nat):Int) 1)) _ _ s
 rw[vf]
 exact wpAny_pure h
theorem zG (xs:Array Value) (i k:Nat):((List.range k).filterMap fun(m:Nat)=>xs[((i:Int)+(m:Int)*1).toNat]?).toArray=((xs.toList.drop i).take k).toArray:=by
 have e:(fun(m:Nat)=>xs[((i:Int)+(m:Int)*1).toNat]?)=fun m=>xs[i+m]? :=by
  funext m
  have:((i:Int)+(m:Int)*1).toNat=i+m:=by omega
  rw[this]
 rw[e]
 have:=pick_run xs i k
 rw[List.filterMap_map] at this
 have e2:((fun x=>xs[x]?)∘fun x=>i+x)=fun m=>xs[i+m]? :=rfl
 rw[e2] at this
 rw[this]
theorem getItem_tuple_cut {t sl:Addr} {items:Array Value} {vl vu:Value} {lo hi:Option Int} {Q:Value→Shared→Prop} (ht:IsTup s.heap t items) (hs:s.heap.IsSliceOf sl vl vu .none) (pl:IsPart vl lo) (pu:IsPart vu hi)
  (hw:¬(sIx items.size 0 lo=0∧sIx items.size items.size hi=items.size))
  (h:Q (.ref s.heap.objs.size) {s with heap:=s.heap.push {cls:= .type "tuple",data:= .seq ((items.toList.drop (sIx items.size 0 lo)).take (sIx items.size items.size hi - sIx items.size 0 lo)).toArray}})
  (hsz:items.size≤sizeLine):wpAny (model prog w) A (getItem (.ref t) (.ref sl)) Q E s:=by
 have htake:sizeOk (.seq ((items.toList.drop (sIx items.size 0 lo)).take (sIx items.size items.size hi - sIx items.size 0 lo)).toArray):=by
  show((items.toList.drop (sIx items.size 0 lo)).take (sIx items.size items.size hi - sIx items.size 0 lo)).toArray.size≤sizeLine
  rw[List.size_toArray,List.length_take,List.length_drop,Array.length_toList]
  omega
 have hj:sIx items.size items.size hi≤items.size:=EE _ _ (Nat.le_refl _) hi
 obtain⟨os,hos,hcs,hds⟩:=id hs
 have hTs:s.TypeIs (.ref sl) "slice":=⟨os,hos,hcs⟩
 unfold getItem
 try with_reducible refine wpAny_holding ?_
 first|refine wpAny_bind (wpAny_pure ?_)|skip
 refine wpAny_bind (wpAny_sequenceKey ht.typeIs (by decide) ?_)
 refine wpAny_bind (wpAny_callSpecial?_slot (name:=Str.ofString "__getitem__") ht.typeIs PyProof.Rows.slot_tuple_getitem
  (wpAny_call_entry PyProof.Rows.slot_tuple_getitem ht.typeIs entry_tuple_getitem ?_ (args_tuple_getitem _ _)))
 show wpAny _ _ (Builtin.Tuple.tupleItemsOf (.ref t)>>=_) _ _ s
 refine wpAny_bind (tupleItemsOf_ ht ?_)
 refine wpAny_bind (wpAny_typeOf hTs ?_)
 rw[if_pos (by decide)]
 refine wpAny_bind (i7 hs pl pu ?_)
 have hno:¬((((sIx items.size 0 lo:Nat):Int)==0&&(1:Int)==1&&(sIx items.size items.size hi - sIx items.size 0 lo)==items.size)=true):=by
  intro q
  rw[Bool.and_eq_true,Bool.and_eq_true] at q
  have q1:((sIx items.size 0 lo:Nat):Int)=0:=eq_of_beq q.1.1
  have q2:sIx items.size items.size hi - sIx items.size 0 lo=items.size:=eq_of_beq q.2
  exact hw ⟨by omega,by omega⟩
 show wpAny _ _ (if(((sIx items.size 0 lo:Nat):Int)==0&&(1:Int)==1&&(sIx items.size items.size hi - sIx items.size 0 lo)==items.size)=true then _ else _) _ _ s
 rw[if_neg hno,zG]
 first
  |exact wpAny_bind (m:=Builtin.Tuple.tupleExact _) (wpAny_newObj_type (wpAny_pure ⟨_,rfl,wpAny_pure h⟩) htake)
  |exact wpAny_bind (m:=Builtin.Tuple.tupleExact _) (wpAny_newObj_type (wpAny_bind (wpAny_pure (wpAny_pure ⟨_,rfl,wpAny_pure h⟩))) htake)
  |exact wpAny_bind (wpAny_bind (m:=Builtin.Tuple.tupleExact _) (wpAny_newObj_type (wpAny_pure (wpAny_pure ⟨_,rfl,wpAny_pure h⟩)) htake))
  |exact wpAny_bind (wpAny_bind (m:=Builtin.Tuple.tupleExact _) (wpAny_newObj_type (wpAny_pure ⟨_,rfl,wpAny_pure h⟩) htake))
end
end HT
namespace L2
open PySem PySem.Spec PyProof.Rows
noncomputable abbrev TO:=St→Hp→(Option Int→Hp→Prop)→Prop
noncomputable def PO (X:Cx) (e:Option Expr) (t:TO):Prop:=
 ∀(pins:List (Addr×Obj)) (s:Shared) (σ:St) (H:Hp) (Q:Option Int→Hp→Prop),Inv X pins σ H s→t σ H Q→
  wpAny (model X.prog X.w) X.A (evalPart e X.env) (fun u s'=>∃o H',Inv X pins σ H' s'∧IsPart u o∧Q o H') X.xe s
noncomputable def wu:TO:=fun _ H Q=>Q none H
noncomputable def yJ (t:TE):TO:=fun σ H Q=>t σ H fun x H1=>∃i,x= .int i∧Q (some i) H1
theorem lf {ns:List Int}:∀{us:List Value},Vals (ns.map V.int) us→IntsAre us ns:=by
 induction ns with
 |nil=>intro us r;rw[List.map_nil] at r;cases r;exact .nil
 |cons n ns ih=>
  intro us r
  rw[List.map_cons] at r
  cases r with
  |cons r1 r2=>
   obtain⟨t,e⟩:=r1
   subst e
   exact .cons n t (ih r2)
section
variable {X:Cx} {e:Expr} {te:TE} {lo hi:Option Expr} {tl th:TO} {pos p2:Pos}
theorem gl:PO X none wu:=by
 intro pins s σ H Q I h
 rw[evalPart_none]
 exact wpAny_pure ⟨none,H,I,.none,h⟩
theorem dI (h:PE X e te):PO X (some e) (yJ te):=by
 intro pins s σ H Q I hw
 rw[evalPart_some]
 refine eJ (h pins s σ H _ I hw) fun u s1 ⟨x,H1,I1,r1,q1⟩=> ?_
 obtain⟨i,rfl,q⟩:=q1
 obtain⟨t,rfl⟩:=r1
 exact⟨some i,H1,I1,.int i t,q⟩
noncomputable def E1 (X:Cx) (r:V→Option Int→Option Int→Hp→VK→Prop):Prop:=
 ∀(pins:List (Addr×Obj)) (s:Shared) (σ:St) (H:Hp) (x:V) (v vl vu:Value) (lo hi:Option Int) (sl:Addr) (Q:VK),Inv X pins σ H s→RelV x v→s.heap.IsSliceOf sl vl vu .none→IsPart vl lo→IsPart vu hi→r x lo hi H Q→
  ∃T id,typeLookup (.type T) "__getitem__"=pure (some (.builtin id))∧s.TypeIs v T∧wpAny (model X.prog X.w) X.A (getItem v (.ref sl)) (EP X pins σ Q) X.xe s
noncomputable def HD (r:V→Option Int→Option Int→Hp→VK→Prop) (te:TE) (tl th:TO):TE:=fun σ H Q=>te σ H fun x H1=>tl σ H1 fun l H2=>th σ H2 fun u H3=>r x l u H3 Q
theorem dU {r:V→Option Int→Option Int→Hp→VK→Prop} (hr:E1 X r) (he:PE X e te) (hl:PO X lo tl) (hu:PO X hi th):PE X (.Subscript e (.Slice lo hi none p2) pos) (HD r te tl th):=by
 intro pins s σ H Q I h
 refine Subscript_ (eJ (he pins s σ H _ I h) fun v s1 ⟨x,H1,I1,r1,q1⟩=> ?_)
 refine wpAny_Slice (eJ (hl pins s1 σ H1 _ I1 q1) fun vl s2 ⟨l,H2,I2,pl,q2⟩=>eJ (hu pins s2 σ H2 _ I2 q2) fun vu s3 ⟨u,H3,I3,pu,q3⟩=> ?_)
 rw[evalPart_none]
 refine wpAny_pure ?_
 have I4:Inv X pins σ H3 {s3 with heap:=s3.heap.push {cls:= .type "slice",data:= .fields #[vl,vu,.none]}}:=I3.kept (t':=s3.toks) fun b ob q=>Heap.get?_push_of_some _ q
 obtain⟨T,id,hT,ht,hg⟩:=hr pins {s3 with heap:=s3.heap.push {cls:= .type "slice",data:= .fields #[vl,vu,.none]}} σ H3 x v vl vu l u s3.heap.objs.size Q I4 r1 (Heap.IsSliceOf.new ..) pl pu q3
 show wpAny (model X.prog X.w) X.A (subscriptTail e (.Slice lo hi none p2) v (.ref s3.heap.objs.size)) (EP X pins σ Q) X.xe {s3 with heap:=s3.heap.push {cls:= .type "slice",data:= .fields #[vl,vu,.none]}}
 exact tail_any (ops:=[.ref s3.heap.objs.size,v]) ht hT hg (by with_unfolding_all rfl)
noncomputable def uk (xs:List V) (lo hi:Option Int):List V:=(xs.drop (HT.sIx xs.length 0 lo)).take (HT.sIx xs.length xs.length hi - HT.sIx xs.length 0 lo)
theorem mT (xs:List V) (lo hi:Option Int):(uk xs lo hi).length≤xs.length:=by
 unfold uk
 rw[List.length_take,List.length_drop]
 omega
noncomputable def Fr (K:PySem.W.Frag):V→Option Int→Option Int→Hp→VK→Prop:=fun x lo hi H Q=>∃a xs,x= .ref a∧SqT K H a xs∧
 ¬(HT.sIx xs.length 0 lo=0∧HT.sIx xs.length xs.length hi=xs.length)∧∀p,H p=none→Q (.ref p) (cU H p (.tup (uk xs lo hi)))
theorem DF:E1 X (Fr X.K):=by
 intro pins s σ H x v vl vu lo hi sl Q I rx hs pl pu h
 obtain⟨a,xs,rfl,hx,hw,q⟩:=h
 cases rx
 obtain⟨its,r,ht,hz⟩:=I.tuple hx
 have hlen:its.toArray.size=xs.length:=by rw[List.size_toArray];exact r.length.symm
 refine⟨"tuple",_,PyProof.Rows.slot_tuple_getitem.lookup,ht.typeIs,?_⟩
 refine HT.getItem_tuple_cut ht hs pl pu (by rw[hlen];exact hw) ?_ (by rw[hlen];exact hz)
 rw[hlen]
 refine⟨.ref s.heap.objs.size,_,I.laid (t':=s.toks) (o:= .tup (uk xs lo hi)) (fun b ob q=>Heap.get?_push_of_some _ q) (Nat.le_refl _) ?_,rfl,q _ (I.hok.fresh (Nat.le_refl _))⟩
 exact⟨Nat.le_trans (mT xs lo hi) hz,_,(r.drop (HT.sIx xs.length 0 lo)).take (HT.sIx xs.length xs.length hi - HT.sIx xs.length 0 lo),IsTup.new _ _⟩
noncomputable def Cy (K:PySem.W.Frag):R2:=fun x y H Q=>∃a b xs ys,x= .ref a∧y= .ref b∧SqT K H a xs∧SqT K H b ys∧xs≠[]∧xs.length+ys.length≤sizeLine∧
 (ys=[]→Q (.ref a) H)∧(ys≠[]→∀p,H p=none→Q (.ref p) (cU H p (.tup (xs++ys))))
theorem Vals.nil_iff {xs:List V} {us:List Value} (r:Vals xs us):us=[]↔xs=[]:=by
 cases r with
 |nil=>simp
 |cons _ _=>simp
theorem Cr:OpR X (binaryOp .Add) (Cy X.K):=by
 intro pins s σ H x y v u Q I rx ry h
 obtain⟨a,b,xs,ys,rfl,rfl,ha,hb,hx,hz,q1,q2⟩:=h
 cases rx
 cases ry
 obtain⟨its,r1,p1,_⟩:=I.tuple ha
 obtain⟨its2,r2,p2,_⟩:=I.tuple hb
 refine HT.cat_tup p1 p2 (fun z=>hx (r1.nil_iff.mp z)) (fun z=>⟨.ref a,H,I,rfl,q1 (r2.nil_iff.mp z)⟩) (fun z=> ?_) (by rw[←r1.length,←r2.length];exact hz)
 refine⟨.ref s.heap.objs.size,_,I.laid (t':=s.toks) (o:= .tup (xs++ys)) (fun b ob q=>Heap.get?_push_of_some _ q) (Nat.le_refl _) ?_,rfl,q2 (fun w=>z (r2.nil_iff.mpr w)) _ (I.hok.fresh (Nat.le_refl _))⟩
 exact⟨by rw[List.length_append];exact hz,_,r1.append r2,IsTup.new _ _⟩
end
end L2
namespace L2
open PySem PySem.Spec PyProof.Rows
noncomputable def Bt (n:Nat) (i:Int):Option Nat:=if 0≤i then(if i<n then some i.toNat else none) else if -(n:Int)≤i then some (i+n).toNat else none
noncomputable def nq {α:Type} (xs:List α) (i:Int):Option α:=(Bt xs.length i).bind fun j=>xs[j]?
theorem Cd {n:Nat} {i:Int} {j:Nat} (h:Bt n i=some j):seqIndex? i n=some j∧j<n∧ -(n:Int)≤i∧i<n:=by
 unfold Bt at h
 by_cases h0:0≤i
 ·rw[if_pos h0] at h
  by_cases h1:i<n
  ·rw[if_pos h1] at h
   have e:i.toNat=j:=Option.some.inj h
   exact⟨by rw[seqIndex_of h0 h1,e],by omega,by omega,h1⟩
  ·rw[if_neg h1] at h;cases h
 ·rw[if_neg h0] at h
  by_cases h1: -(n:Int)≤i
  ·rw[if_pos h1] at h
   have e:(i+n).toNat=j:=Option.some.inj h
   exact⟨by rw[seqIndex_neg (by omega) h1,e],by omega,h1,by omega⟩
  ·rw[if_neg h1] at h;cases h
theorem rg {α:Type} {xs:List α} {i:Int} {v:α} (h:nq xs i=some v):∃j,seqIndex? i xs.length=some j∧xs[j]? =some v∧j<xs.length∧ -(xs.length:Int)≤i∧i<xs.length:=by
 unfold nq at h
 cases e:Bt xs.length i with
 |none=>rw[e] at h;cases h
 |some j=>
  rw[e] at h
  obtain⟨h1,h2,h3,h4⟩:=Cd e
  exact⟨j,h1,h,h2,h3,h4⟩
theorem wS {α:Type} {xs:List α} {j:Nat} {v:α} (h:xs[j]? =some v):nq xs (j:Int)=some v:=by
 have hj:j<xs.length:=(List.getElem?_eq_some_iff.mp h).1
 have e:Bt xs.length (j:Int)=some j:=by
  unfold Bt
  rw[if_pos (by omega),if_pos (by omega)];simp
 unfold nq;rw[e];exact h
theorem An {α:Type} (xs:List α) (v:α):nq (xs++[v]) (-1)=some v:=by
 have hl:(xs++[v]).length=xs.length+1:=by simp
 have e:Bt (xs++[v]).length (-1)=some xs.length:=by
  unfold Bt
  rw[hl,if_neg (by decide),if_pos (by omega)]
  congr 1
  omega
 unfold nq
 rw[e]
 show(xs++[v])[xs.length]? =some v
 simp
noncomputable def qH (b:Expr):Prop:=∀o i,subscripted b false o i=operate [o,i] (getItem o i)
noncomputable def IxR (X:Cx) (r:R2):Prop:=
 ∀(value slice:Expr) (pins:List (Addr×Obj)) (s:Shared) (σ:St) (H:Hp) (x y:V) (v u:Value) (Q:VK),Inv X pins σ H s→RelV x v→RelV y u→r x y H Q→
  subscripted slice false v u=operate [v,u] (getItem v u)→wpAny (model X.prog X.w) X.A (subscriptTail value slice v u) (EP X pins σ Q) X.xe s
noncomputable def Ho (X:Cx) (id:String) (r:V→List V→Hp→VK→Prop):Prop:=
 ∀(pins:List (Addr×Obj)) (s:Shared) (σ:St) (H:Hp) (x:V) (xs:List V) (v:Value) (us:List Value) (Q:VK),Inv X pins σ H s→RelV x v→Vals xs us→r x xs H Q→
  wpAny (model X.prog X.w) X.A (call (.builtin id) (v::us)) (EP X pins σ Q) X.xe s
section
variable {X:Cx} {a b:Expr} {ta tb:TE} {pos:Pos}
theorem IxR.or {r r':R2} (h:IxR X r) (h':IxR X r'):IxR X (fun x y H Q=>r x y H Q∨r' x y H Q):=by
 intro value slice pins s σ H x y v u Q I rx ry q hs
 rcases q with q|q
 ·exact h value slice pins s σ H x y v u Q I rx ry q hs
 ·exact h' value slice pins s σ H x y v u Q I rx ry q hs
theorem bp {r:R2} (hr:IxR X r) (ha:PE X a ta) (hb:PE X b tb) (hs:qH b):PE X (.Subscript a b pos) (Fa r ta tb):=by
 intro pins s σ H Q I h
 exact Subscript_ (DL ha hb I h fun v u s2 x y H2 I2 rx ry q=>hr a b pins s2 σ H2 x y v u Q I2 rx ry q (hs _ _))
noncomputable def F1 (K:PySem.W.Frag):R2:=fun x y H Q=>∃p xs i v,x= .ref p∧y= .int i∧SqL K H p xs∧nq xs i=some v∧Q v H
noncomputable def Fg (K:PySem.W.Frag):R2:=fun x y H Q=>∃p xs i v,x= .ref p∧y= .int i∧SqT K H p xs∧nq xs i=some v∧Q v H
noncomputable def Fz:R2:=fun x y H Q=>∃z i c,x= .str z∧y= .int i∧z.length≤sizeLine∧nq z.cps.toList i=some c∧Q (.str ⟨#[c]⟩) H
theorem BZ:IxR X (F1 X.K):=by
 intro value slice pins s σ H x y v u Q I rx ry h hs
 obtain⟨p,xs,i,z,rfl,rfl,hq,he,q⟩:=h
 cases rx
 obtain⟨t,rfl⟩:=ry
 obtain⟨its,r,pl,hz⟩:=I.list hq
 obtain⟨j,h1,h2,h3,h4,h5⟩:=rg he
 obtain⟨w,ew,rw'⟩:=r.get h2
 have hl:=r.length
 have hn:=su
 have fin:EP X pins σ Q w s:=⟨z,H,I,rw',q⟩
 by_cases h0:0≤i
 ·have hj:i.toNat=j:=by
   rw[seqIndex_of h0 h5] at h1
   exact Option.some.inj h1
  exact item_listR pl.isList h0 (by omega) (by rw[hj];simpa using ew) fin hs
 ·have hj:(i+(its.toArray.size:Int)).toNat=j:=by
   rw[seqIndex_neg (by omega) h4] at h1
   rw[List.size_toArray,←hl]
   exact Option.some.inj h1
  exact subscriptTail_builtinR (x:=w) pl.isList.typeIs slot_list_getitem.lookup
   (wpAny_getItem_list_neg (Q:=fun r s'=>r=w∧EP X pins σ Q r s') pl.isList (by omega) (by rw[List.size_toArray]<;>omega) (by omega) (by rw[hj];simpa using ew) ⟨rfl,fin⟩) hs
theorem EC:IxR X (Fg X.K):=by
 intro value slice pins s σ H x y v u Q I rx ry h hs
 obtain⟨p,xs,i,z,rfl,rfl,hq,he,q⟩:=h
 cases rx
 obtain⟨t,rfl⟩:=ry
 obtain⟨its,r,pl,hz⟩:=I.tuple hq
 obtain⟨j,h1,h2,h3,h4,h5⟩:=rg he
 obtain⟨w,ew,rw'⟩:=r.get h2
 have hl:=r.length
 have hn:=su
 have fin:EP X pins σ Q w s:=⟨z,H,I,rw',q⟩
 exact subscriptTail_builtinR (x:=w) pl.typeIs slot_tuple_getitem.lookup
  (getItem_tuple (j:=j) (Q:=fun r s'=>r=w∧EP X pins σ Q r s') pl (by omega) (by omega) (by rw[List.size_toArray,←hl];exact h1) (by simpa using ew) ⟨rfl,fin⟩) hs
theorem Dl:IxR X Fz:=by
 intro value slice pins s σ H x y v u Q I rx ry h hs
 obtain⟨z,i,c,rfl,rfl,hz,he,q⟩:=h
 obtain⟨t,rfl⟩:=rx
 obtain⟨t',rfl⟩:=ry
 obtain⟨j,h1,h2,h3,h4,h5⟩:=rg he
 have hl:z.cps.toList.length=z.length:=by simp[Str.length]
 rw[hl] at h1 h4 h5
 have hn:=su
 exact tail_any (typeIs_str s z t) slot_str_getitem.lookup (getItem_str (c:=c) (by
  have e1:decide (i< -(2^63:Int))=false:=decide_eq_false (by omega)
  have e2:decide (i≥2^63)=false:=decide_eq_false (by omega)
  rw[e1,e2,Bool.or_false]) (by rw[h1];simpa using h2) ⟨.str ⟨#[c]⟩,H,I.tok _,⟨_,rfl⟩,q⟩) hs
noncomputable def Ha (K:PySem.W.Frag):R2:=fun x y H Q=>F1 K x y H Q∨Fg K x y H Q∨Fz x y H Q
theorem aM:IxR X (Ha X.K):=BZ.or (EC.or Dl)
theorem sW (lo hi:Option Int) (n:Nat):(sliceBounds lo hi none n).1=((HT.sIx n 0 lo:Nat):Int)∧(sliceBounds lo hi none n).2.1=((HT.sIx n n hi:Nat):Int)∧(sliceBounds lo hi none n).2.2=1:=by
 refine⟨?_,?_,rfl⟩
 ·cases lo with
  |none=>simp[sliceBounds,HT.sIx]
  |some i=>
   simp only[sliceBounds,HT.sIx,Option.getD_none,show(1:Int)>0 by decide,if_true]
   by_cases h:i<0
   ·simp only[h,if_true]<;>omega
   ·simp only[h,if_false]<;>omega
 ·cases hi with
  |none=>simp[sliceBounds,HT.sIx]
  |some i=>
   simp only[sliceBounds,HT.sIx,Option.getD_none,show(1:Int)>0 by decide,if_true]
   by_cases h:i<0
   ·simp only[h,if_true]<;>omega
   ·simp only[h,if_false]<;>omega
theorem pH (its:List Value) (lo hi:Option Int):slicePick its.toArray lo hi none=((its.drop (HT.sIx its.length 0 lo)).take (HT.sIx its.length its.length hi - HT.sIx its.length 0 lo)).toArray:=by
 obtain⟨h1,h2,h3⟩:=sW lo hi its.toArray.size
 unfold slicePick
 rw[h1,h2,h3]
 simp only[sliceRange_one,pick_run,List.size_toArray]<;>rfl
noncomputable def Gq (K:PySem.W.Frag):V→Option Int→Option Int→Hp→VK→Prop:=fun x lo hi H Q=>∃a xs,x= .ref a∧SqL K H a xs∧∀p,H p=none→Q (.ref p) (cU H p (.lst (uk xs lo hi)))
theorem BW:E1 X (Gq X.K):=by
 intro pins s σ H x v vl vu lo hi sl Q I rx hs pl pu h
 obtain⟨a,xs,rfl,hx,q⟩:=h
 cases rx
 obtain⟨its,r,ht,hz⟩:=I.list hx
 have hlen:=r.length
 refine⟨"list",_,slot_list_getitem.lookup,ht.isList.typeIs,?_⟩
 refine wpAny_getItem_list_slice ht.isList hs pl pu .none (by simp) ?_ (by rw[List.size_toArray]<;>omega)
 rw[pH,←hlen]
 refine⟨.ref s.heap.objs.size,_,I.laid (t':=s.toks) (o:= .lst (uk xs lo hi)) (fun b ob q=>Heap.get?_push_of_some _ q) (Nat.le_refl _) ?_,rfl,q _ (I.hok.fresh (Nat.le_refl _))⟩
 exact⟨Nat.le_trans (mT xs lo hi) hz,_,0,(r.drop (HT.sIx xs.length 0 lo)).take (HT.sIx xs.length xs.length hi - HT.sIx xs.length 0 lo),Heap.get?_push_size _ rfl⟩
theorem CallR.or {f:Value} {r r':List V→Hp→VK→Prop} (h:CallR X f r) (h':CallR X f r'):CallR X f (fun xs H Q=>r xs H Q∨r' xs H Q):=by
 intro pins s σ H xs us Q I rs q
 rcases q with q|q
 ·exact h pins s σ H xs us Q I rs q
 ·exact h' pins s σ H xs us Q I rs q
theorem rd:CallR X (.type "list") (fun xs H Q=>∃p ys,xs=[.ref p]∧(SqL X.K H p ys∨SqT X.K H p ys)∧∀l,H l=none→Q (.ref l) (cU H l (.lst ys))):=by
 intro pins s σ H xs us Q I r h
 obtain⟨p,ys,rfl,hq,q⟩:=h
 obtain⟨u,rfl,rx⟩:=jZ r
 cases rx
 have fin:∀(its:List Value),Vals ys its→ys.length≤sizeLine→∀(h':Heap) (c':Nat),(∀b o',s.heap.get? b=some o'→h'.get? b=some o')→
   h'.get? s.heap.objs.size=some {cls:= .type "list",dict:=none,data:= .seq its.toArray c',slots:= #[]}→EP X pins σ Q (.ref s.heap.objs.size) {s with heap:=h'}:=fun its r' hz h' c' kp e=>
  ⟨.ref s.heap.objs.size,_,I.laid (t':=s.toks) kp (Nat.le_refl _) (show ObjOk X.prog X.w _ h' _ (.lst ys) from⟨hz,its,c',r',e⟩),rfl,q _ (I.hok.fresh (Nat.le_refl _))⟩
 rcases hq with hq|hq
 ·obtain⟨its,r',pl,hz⟩:=I.list hq
  have hlen:=r'.length
  obtain⟨o,ho,hc,n,hd⟩:=pl.isList
  exact call_list_seq p (.inl rfl) ho hc hd (fun h' c' kp e=>fin its r' hz h' c' kp e) (by simp only[List.size_toArray]<;>omega)
 ·obtain⟨its,r',pl,hz⟩:=I.tuple hq
  have hlen:=r'.length
  obtain⟨o,ho,hc,n,hd⟩:=pl
  exact call_list_seq p (.inr rfl) ho hc hd (fun h' c' kp e=>fin its r' hz h' c' kp e) (by simp only[List.size_toArray]<;>omega)
theorem cL:CallR X (.type "tuple") (fun xs H Q=>∃p ys,xs=[.ref p]∧((SqL X.K H p ys∧∀l,H l=none→Q (.ref l) (cU H l (.tup ys)))∨(SqT X.K H p ys∧Q (.ref p) H))):=by
 intro pins s σ H xs us Q I r h
 obtain⟨p,ys,rfl,h⟩:=h
 obtain⟨u,rfl,rx⟩:=jZ r
 cases rx
 rcases h with⟨hq,q⟩|⟨hq,q⟩
 ·obtain⟨its,r',pl,hz⟩:=I.list hq
  have hlen:=r'.length
  refine call_tuple_list pl.isList (fun h' kp=> ?_) (by simp only[List.size_toArray]<;>omega)
  have I1:Inv X pins σ H {s with heap:=h'}:=I.kept (t':=s.toks) kp
  have I2:Inv X pins σ (cU H h'.objs.size (.tup ys)) {s with heap:=h'.push {cls:= .type "tuple",data:= .seq its.toArray}}:=
   I1.laid (t':=s.toks) (fun b o e=>Heap.get?_push_of_some _ e) (Nat.le_refl _) (show ObjOk X.prog X.w _ _ _ (.tup ys) from⟨hz,its,r',IsTup.new _ _⟩)
  exact⟨.ref h'.objs.size,_,I2,rfl,q _ (I1.hok.fresh (Nat.le_refl _))⟩
 ·obtain⟨its,r',pl,hz⟩:=I.tuple hq
  exact call_tuple_same pl ⟨.ref p,H,I,rfl,q⟩
noncomputable def GT (K:PySem.W.Frag) (T:String) (x:V) (H:Hp):Prop:=match x with
 | .str _=>T= "str"
 | .int _=>T= "int"
 | .ref p=>(T= "list"∧∃xs,SqL K H p xs)∨(T= "tuple"∧∃o,K.lookup p=some o∧o.cls= .type "tuple"∧o.dict=none)∨
   (T= "dict"∧((∃kvs,H p=some (.dK kvs))∨∃kvs,H p=some (.dT kvs)))∨(T= "set"∧∃S n,H p=some (.set S n))
 |_=>False
theorem D7 {pins:List (Addr×Obj)} {σ:St} {H:Hp} {s:Shared} {T:String} {x:V} {v:Value} (I:Inv X pins σ H s) (r:RelV x v) (ty:GT X.K T x H):
  s.TypeIs v T∧∀a,v= .ref a→∃ob,s.heap.get? a=some ob∧ob.dict=none:=by
 cases x with
 |str z=>
  obtain⟨t,rfl⟩:=r
  cases(show T= "str" from ty)
  exact⟨typeIs_str s z t,fun _ e=>nomatch e⟩
 |int i=>
  obtain⟨t,rfl⟩:=r
  cases(show T= "int" from ty)
  exact⟨typeIs_int s i t,fun _ e=>nomatch e⟩
 |ref p=>
  cases r
  rcases ty with⟨rfl,xs,hq⟩|⟨rfl,o,hk,hc,hd⟩|⟨rfl,hk⟩|⟨rfl,S,n,hk⟩
  ·obtain⟨its,_,pl,_⟩:=I.list hq
   refine⟨pl.isList.typeIs,fun a e=> ?_⟩
   cases e
   obtain⟨o,n,e,c,hd,_⟩:=pl
   exact⟨o,e,hd⟩
  ·refine⟨⟨o,I.kIn p o hk,hc⟩,fun a e=> ?_⟩
   cases e
   exact⟨o,I.kIn _ o hk,hd⟩
  ·have z:∃o,s.heap.get? p=some o∧o.ExactDict:=by
    rcases hk with⟨kvs,hk⟩|⟨kvs,hk⟩
    ·obtain⟨_,_,_,_,o,_,_,e,ex,_⟩:=I.hok p _ hk
     exact⟨o,e,ex⟩
    ·obtain⟨_,_,_,_,o,_,_,e,ex,_⟩:=I.hok p _ hk
     exact⟨o,e,ex⟩
   obtain⟨o,e,ex⟩:=z
   refine⟨⟨o,e,ex.1⟩,fun a e2=> ?_⟩
   cases e2
   exact⟨o,e,ex.2.1⟩
  ·obtain⟨o,_,_,_,e,ex,_⟩:=I.hok p _ hk
   refine⟨⟨o,e,ex.1⟩,fun a e2=> ?_⟩
   cases e2
   exact⟨o,e,ex.2.1⟩
 |_=>exact False.elim ty
noncomputable def Hk (K:PySem.W.Frag) (T:String) (r:V→List V→Hp→VK→Prop) (to:TE) (t:TA):TE:=fun σ H Q=>to σ H fun x H1=>GT K T x H1∧t σ H1 fun xs H2=>r x xs H2 Q
variable {o e:Expr} {es:List Expr} {to:TE} {t:TA} {name:Str} {apos cpos:Pos} {T id:String} {r:V→List V→Hp→VK→Prop}
theorem oP (pa:PlainAttrs T) (slot:Slot T name id) (hty:typeOf (.builtin id)=pure (.type "method_descriptor")) (hm:Ho X id r) (ho:PE X o to) (ha:PA X (e::es) t)
  (hbase:attributeBase o name X.env (eval o X.env)=eval o X.env:=by rfl)
  (hfew:((backTo cpos (starEach (e::es) X.env)).all (fun x=> !x.1)&&(backToKw cpos (keywordEach [] X.env)).all (fun x=>x.1.isSome)
   &&decide ((e::es).length+([]:List Keyword).length+(if([]:List Keyword).isEmpty then 0 else 1)<30))=true:=by rfl)
  (hline:(apos.endLine==cpos.line)=true:=by rfl) (hs:starEach (e::es) X.env=(false,eval e X.env)::starEach es X.env:=by rfl) (hplain:(backTo cpos (starEach es X.env)).any (·.1)=false:=by rfl):
  PE X (.Call (.Attribute o name apos) (e::es) [] cpos) (Hk X.K T r to t):=by
 intro pins s σ H Q I h
 refine wpAny_Call_method_late hbase hfew hline rfl (eJ (ho pins s σ H _ I h) fun v s1 ⟨x,H1,I1,r1,ty,q1⟩=> ?_)
 obtain⟨h1,h2⟩:=D7 I1 r1 ty
 refine⟨T,id,pa,slot,hty,h1,h2,?_⟩
 have hA:=ha cpos pins s1 σ H1 _ I1 q1
 rw[hs] at hA⊢
 refine Calls.callWith_builtin (by show(false||(backTo cpos (starEach es X.env)).any (·.1))=false;rw[hplain]<;>rfl) (Calls.evalArgs_plain ?_)
 exact eJ hA fun us s2 ⟨vs,H2,I2,r2,q2⟩=>hm pins s2 σ H2 x vs v us Q I2 r1 r2 q2
end
end L2
namespace L2
open PySem PySem.Spec PyProof.Rows
noncomputable def HV (X:Cx) (id:String) (r:V→List V→Hp→VK→Prop):Prop:=
 ∀(pins:List (Addr×Obj)) (s:Shared) (σ:St) (H:Hp) (x:V) (xs:List V) (v:Value) (us:List Value) (Q:VK),Inv X pins σ H s→RelV x v→Vals xs us→r x xs H Q→
  wpAny (model X.prog X.w) X.A (call (.builtin id) (v::us)) (EP X pins σ Q) X.xe s
theorem Vals.one:∀{x:V} {us:List Value},Vals [x] us→∃u,us=[u]∧RelV x u
 |_,_,.cons r .nil=>⟨_,rfl,r⟩
theorem Vals.rep {xs:List V} {us:List Value} (h:Vals xs us):∀k:Nat,Vals (List.replicate k xs).flatten (List.replicate k us).flatten
 |0=> .nil
 |k+1=>by
  rw[List.replicate_succ,List.replicate_succ,List.flatten_cons,List.flatten_cons]
  exact Vals.append h (Vals.rep h k)
theorem mf (its:List Value):∀(k:Nat) (acc:List Value),
  List.foldl (fun x1 x2=>x1++x2) acc.toArray (List.replicate k its.toArray)=(acc++(List.replicate k its).flatten).toArray
 |0,acc=>by simp
 |k+1,acc=>by
  have e:acc.toArray++its.toArray=(acc++its).toArray:=by simp
  have e2:(acc++its)++(List.replicate k its).flatten=acc++(List.replicate (k+1) its).flatten:=by
   rw[List.replicate_succ,List.flatten_cons,List.append_assoc]
  rw[←e2,←mf its k (acc++its),←e,List.replicate_succ,List.foldl_cons]
section
variable {X:Cx} {pins:List (Addr×Obj)} {σ:St} {H:Hp} {s:Shared} {l b:Addr} {xs ys zs:List V}
theorem Inv.lset {its its':List Value} {n:Nat} {f:Array Value→Array Value} {t':Nat} (I:Inv X pins σ H s) (hH:H l=some (.lst xs))
  (e:s.heap.get? l=some {cls:= .type "list",data:= .seq its.toArray n}) (hf:f its.toArray=its'.toArray) (hv:Vals ys its') (hz:ys.length≤sizeLine):
  Inv X pins σ (cU H l (.lst ys)) {s with heap:=s.heap.update l (Obj.mapSeq f),toks:=t'}:=by
 have q:=PySem.IsL.update e f
 rw[hf] at q
 refine I.write (x:=l) (e:=l) (by rw[hH];exact trivial) (.inl rfl) (fun b' u hb hu=>(Heap.get?_update_other s.heap (Obj.mapSeq f) (Ne.symm hb)).trans hu) ⟨_,q⟩ ?_
 exact⟨hz,its',_,hv,q⟩
theorem Inv.lnew {its:List Value} {t':Nat} (I:Inv X pins σ H s) (hv:Vals ys its) (hz:ys.length≤sizeLine):
  Inv X pins σ (cU H s.heap.objs.size (.lst ys)) {s with heap:=s.heap.push {cls:= .type "list",data:= .seq its.toArray},toks:=t'}:=
 I.laid (fun _ _ q=>Heap.get?_push_of_some _ q) (Nat.le_refl _) ⟨hz,its,0,hv,Heap.get?_push_size _ rfl⟩
theorem Inv.fresh (I:Inv X pins σ H s):H s.heap.objs.size=none:=I.hok.fresh (Nat.le_refl _)
theorem Inv.lstM (I:Inv X pins σ H s) (hH:H l=some (.lst xs)):xs.length≤sizeLine∧∃(its:List Value) (n:Nat),Vals xs its∧xs.length=its.length∧s.heap.get? l=some {cls:= .type "list",data:= .seq its.toArray n}:=by
 obtain⟨z,its,n,r,e⟩:=I.hok l _ hH
 exact⟨z,its,n,r,r.length,e⟩
theorem yT {n:Nat} (h:n≤sizeLine):Builtin.List.listTooLong n=false:=by
 unfold Builtin.List.listTooLong
 exact decide_eq_false (by omega)
end
section
variable {X:Cx}
noncomputable def xl:V→List V→Hp→VK→Prop:=fun x vs H Q=>∃l xs y,x= .ref l∧vs=[y]∧H l=some (.lst xs)∧xs.length<sizeLine∧Q .non (cU H l (.lst (xs++[y])))
theorem ij:HV X "list.append" xl:=by
 intro pins s σ H x vs v us Q I rx rv h
 obtain⟨l,xs,y,rfl,rfl,hH,hz,q⟩:=h
 cases rx
 obtain⟨u,rfl,ru⟩:=rv.one
 obtain⟨z,its,n,r,hl,e⟩:=I.lstM hH
 refine call_meets F.slot_list_append ⟨_,e,rfl⟩ F.entry_list_append (F.args_list_append_2 _ _) (PySem.list_append l its.toArray n u (by rw[List.size_toArray];omega)) ⟨e,?_⟩
 refine⟨.non,_,I.lset (its':=its++[u]) hH e (by simp) (r.append (.cons ru .nil)) ?_,rfl,q⟩
 rw[List.length_append,List.length_singleton]
 omega
theorem vZ {α:Type} (xs:List α) (k:Nat):(List.replicate k xs).flatten.length=k*xs.length:=by
 induction k with
 |zero=>simp
 |succ k ih=>rw[List.replicate_succ,List.flatten_cons,List.length_append,ih,Nat.succ_mul,Nat.add_comm]
end
section
variable {prog:Program} {w:World} {A:Around} {E:Value→Shared→Prop} {s:Shared}
set_option maxRecDepth 100000 in
end
section
variable {X:Cx}
end
end L2
namespace Att
open PySem PySem.W PySem.Calls PyProof.Rows
theorem nz {P:Params} {h:Heap}:∀(ns:List Int) (vs:List Value),WellAll P h vs (ns.map WData.int)→IntsAre vs ns:=by
 intro ns
 induction ns with
 |nil=>
  intro vs w
  rw[List.map_nil] at w
  cases w
  exact .nil
 |cons n ns ih=>
  intro vs w
  rw[List.map_cons] at w
  cases w with
  |cons a b=>
   cases a
   exact .cons _ _ (ih _ b)
theorem xP {l:OpenLaw} {n:Nat} (hn:l.most=some n) {P:Params} {h:Heap} {args:List WData} {vals:List Value}
  (hpre:l.row.toRowW.claim.pre args=true) (hwl:WellAll P h vals args):
  ∃a vs ns,vals=[Value.ref a]∧args=[WData.list (ns.map WData.int)]∧h.get? a=some {cls:= .type "list",data:= .seq vs.toArray}∧IntsAre vs ns∧ns.length≤n:=by
 have hsh:WShape.hasAll [] args [.list .int]=true:=(pre_splitW hpre).1
 have hc:l.pre.holds [] {args:=args}=true:=(pre_splitW hpre).2
 obtain⟨d,r,rfl,h1,h2⟩:=hasAllW_cons hsh
 obtain rfl:=hasAllW_nil h2
 obtain⟨xs,rfl,h3⟩:=hasW_list h1
 obtain⟨ns,rfl⟩:=items_int h3
 have hlen:ns.length≤n:=by
  unfold OpenLaw.pre at hc
  have h4:(WTm.not (.lt (.lit (.int (n:Int))) (.len (.arg 0)))).holds [] {args:=[.list (ns.map .int)]}=true:=by
   have h4:=(holds_andW hc).1
   rw[hn] at h4
   exact h4
  have h5:=condW_of h4 (w_not (w_lt w_lit (w_len_list (w_arg rfl))))
  rw[List.length_map] at h5
  refine Nat.le_of_not_lt fun q=> ?_
  have q':(n:Int)<((ns.length:Nat):Int):=by omega
  first
   |(rw[decide_eq_true q'] at h5;exact absurd h5 (by decide))
   |(simp at h5;omega)
 cases hwl with
 |cons w1 w2=>
  cases w2
  cases w1 with
  |list ho hall=>exact⟨_,_,ns,rfl,rfl,ho,nz ns _ hall,hlen⟩
theorem xU (l:OpenLaw) (args:List WData):l.row.toRowW.claim.post args (.bool true) args=true:=
 postW_of (r:=l.row.toRowW) (X:=(true==true))
  (show WShape.has [] (.bool true) .bool=true by first|rfl|decide|simp[WShape.has,WShape.arms,WShape.armsAll])
  (show(WTm.eq .res (.lit (.bool true))).value [] {args:=args,res:=some (.bool true),after:=args}=some (.bool (true==true)) from w_eq_bool (w_res rfl) w_lit) rfl
theorem attach_call {l:OpenLaw} {n:Nat} {q:Program} {loose:List Str} {XP:(Str→Option Value)→Heap→Prop} {YP:World→Heap→Prop} {d:DefRec}
  (hn:l.most=some n) (hdf:d.params.defaults=[])
  (call:∀(w:World) (s₀ s₁:Shared) (mg mb:Str→Option Value) (fa:Addr) (o:Obj) (pm cd doc:Value) (a:Addr) (vs:List Value) (ns:List Int),
   Ground q loose [] XP w s₀ mg mb s₁.heap→YP w s₁.heap→
   s₁.heap.get? fa=some o→o.data= .func (docDef d.name d.params d.body d.scope pm cd doc)→s₁.heap.CodeRec cd d.name→mg d.name=some (.ref fa)→
   s₁.heap.get? a=some {cls:= .type "list",data:= .seq vs.toArray}→IntsAre vs ns→ns.length≤n→s₁.gens= #[]→
   codeAny (model l.prog w) callerA (.call (.ref fa) ⟨[.ref a],[]⟩) (fun r s'=>r= .ok (.ret (.bool true))∧OldK s₁.heap s'.heap∧s'.os=s₁.os∧AllBare s'.gens) s₁):
  WalkO q loose XP YP l.row.toRowW d [] (fun f vs=>PySem.call f vs):=by
 intro w s₀ s₁ mg mb G Y fa o pm cd doc dV kV ho hd hcd hD hmg hg args vals as hpre hlay hrd hwl hlo
 obtain rfl:dV= .none:=Dflts.none hD hdf
 obtain rfl:kV= .none:=Dflts.noKw hD
 obtain⟨a,vs,ns,rfl,rfl,hobj,hints,hlen⟩:=xP hn hpre hwl
 refine enter_call (codeAny_mono (call w s₀ s₁ mg mb fa o pm cd doc a vs ns G Y ho (fd_plain hd) hcd hmg hobj hints hlen hg) fun r s' hq=> ?_)
 obtain⟨rfl,h2,h3,h4⟩:=hq
 exact⟨.inl ⟨.bool true,.bool true,[],rfl,fun _=>rfl,.bool true,xU l _,fun _=>⟨List.Pairwise.nil,fun _ hm=>(nomatch hm)⟩⟩,h2,h3,h4⟩
section
variable {prog:Program} {w:World} {A:Around} {E:Value→Shared→Prop} {s:Shared} {K:Frag}
end
end Att
namespace L2
open PySem PySem.Spec PyProof.Rows
theorem ki:∀{vs:List Value} {ns:List Int},IntsAre vs ns→Vals (ns.map V.int) vs
 |_,_,.nil=> .nil
 |_,_,.cons n t h=> .cons ⟨t,rfl⟩ (ki h)
noncomputable def FK (H:Hp):Prop:=∀b,H b=none∨∃o xs,H b=some (.frz o (.lst xs))
theorem zL {P:Program} {w:World} {K:PySem.W.Frag} {mg mb:Str→Option Value} {CX:xx} {k:Nat} {fa a:Addr} {fd:FuncData} {x:Str} {sp:Sp} {s₁:Shared} {vs:List Value} {ns:List Int}
  (KX:K.In s₁.heap) (hns:s₁.heap.Ns mainGlobals mg) (hb:s₁.heap.Ns builtinsNs mb) (hbb:∀x:Str,x≠ "__name__"→mb x=bootBuiltins x) (hlim:s₁.heap.NoLimit) (hg:s₁.gens= #[])
  (ha:s₁.heap.get? a=some {cls:= .type "list",data:= .seq vs.toArray}) (hi:IntsAre vs ns) (hl:ns.length≤sizeLine) (hr:Room k callerA)
  (F:∀base:Heap,K.In base→base.Ns mainGlobals mg→FnOk P w K mg base CX k fa fd [x] sp) (hbind:∀(s:Shared) (u:Value),BindsTo s fd ⟨[u],[]⟩ [(x,u)])
  (hsp:∀H:Hp,FK H→SqL K H a (ns.map V.int)→sp [.ref a] H (fun v _=>v= .bl true) fun _ _ _=>False)
  (hCX:∀H e s',CX [] H s₁ (fun _ _ _=>False) e s'→False):
  codeAny (model P w) callerA (.call (.ref fa) ⟨[.ref a],[]⟩) (fun r s'=>r= .ok (.ret (.bool true))∧OldK s₁.heap s'.heap∧s'.os=s₁.os∧AllBare s'.gens) s₁:=by
 have rv:=ki hi
 have lenV:=hi.length
 have core:∀H:Hp,FK H→SqL K H a (ns.map V.int)→HOk P w H s₁.heap→(∀b,H b≠none→b=a)→(H a≠none→K.lookup a=none)→
   codeAny (model P w) callerA (.call (.ref fa) ⟨[.ref a],[]⟩) (fun r s'=>r= .ok (.ret (.bool true))∧OldK s₁.heap s'.heap∧s'.os=s₁.os∧AllBare s'.gens) s₁:=by
  intro H hO hS hok hA hK
  have base_of:∀{b:Addr} {o:Obj},s₁.heap.get? b=some o→H b=none→(sZ s₁.heap H).get? b=some o:=fun e n=>Ai e n
  have noA:∀{b:Addr} {o:Obj} {es:Array DictEntry} {ep:Nat},s₁.heap.get? b=some o→o.data= .dict es ep→H b=none:=fun{b o es ep} e d=>by
   cases q:H b with
   |none=>rfl
   |some u=>
    have e':b=a:=hA b (by rw[q];simp)
    subst e'
    rw[ha] at e;cases e
    have d':Data.seq vs.toArray _=Data.dict es ep:=d
    cases d'
  have nsK:∀{b:Addr} {m:Str→Option Value},s₁.heap.Ns b m→(sZ s₁.heap H).Ns b m:=fun{b m} ⟨o,es,ep,e,d,r⟩=>⟨o,es,ep,base_of e (noA e d),d,r⟩
  have hKb:K.In (sZ s₁.heap H):=fun b o e=>base_of (KX b o e) (by
   cases q:H b with
   |none=>rfl
   |some u=>
    have e':b=a:=hA b (by rw[q];simp)
    subst e'
    rw[hK (by rw[q];simp)] at e;cases e)
  have hM:Mod K mg (sZ s₁.heap H):=⟨hKb,nsK hns,⟨mb,nsK hb,hbb⟩,let⟨mc,h1,h2⟩:=hlim;⟨mc,nsK h1,h2⟩⟩
  have e0:Env0 P w K mg (sZ s₁.heap H) callerA [] s₁ H:=⟨rfl,hM,fun b o e=>Bo e,Nat.le_of_eq (xI _ _),trivial,fun b hb=>absurd (show b∈([]:List Addr) from hb) (by simp),hok,.of_eq hg⟩
  refine codeAny_mono ((F _ hKb (nsK hns)).run callerA [] s₁ H ⟨[.ref a],[]⟩ [.ref a] [.ref a] _ _ hr e0 (hbind s₁ (.ref a)) (.cons rfl .nil) (hsp H hO hS)) fun r s' h=> ?_
  cases r with
  |error e=>exact(hCX H e s' h).elim
  |ok fl=>
   cases fl with
   |next=>exact False.elim h
   |brk=>exact False.elim h
   |cont=>exact False.elim h
   |ret u=>
    obtain⟨v,H',os,bare,un,hok',r',q⟩:=h
    have q':v= .bl true:=q
    subst q'
    obtain rfl:u=Value.bool true:=r'
    refine⟨rfl,OldK.of_keep fun b o e=> ?_,os,bare⟩
    cases q:H b with
    |none=>exact un.keep b o e q (by intro z;exact absurd (show b∈([]:List Addr) from z) (by simp)) (by simp)
    |some u=>
     rcases hO b with z|⟨ob,xs,z⟩
     ·rw[q] at z;cases z
     ·have z2:=un.frzs b ob _ z
      obtain⟨e1,_⟩:=hok b _ z
      obtain⟨e2,_⟩:=hok' b _ z2
      rw[e] at e1;cases e1
      exact e2
 cases hk:K.lookup a with
 |some o=>
  have e:=KX a o hk
  rw[ha] at e
  cases e
  refine core (fun _=>none) (fun _=> .inl rfl) (.inr ⟨_,vs.toArray,_,hk,rfl,rfl,rfl,by rw[List.size_toArray,lenV];exact hl,by simpa using rv⟩) (fun b u z=>by have z':(none:Option HO)=some u:=z;cases z') (fun b z=>absurd rfl z) fun z=>absurd rfl z
 |none=>
  refine core (fun b=>if b=a then some (.frz {cls:= .type "list",data:= .seq vs.toArray} (.lst (ns.map V.int))) else none) (fun b=> ?_) (.inl (.inr ⟨{cls:= .type "list",data:= .seq vs.toArray},if_pos rfl⟩)) (fun b u z=> ?_) (fun b z=> ?_) fun _=>hk
  ·by_cases hb:b=a
   ·exact .inr ⟨_,_,if_pos hb⟩
   ·exact .inl (if_neg hb)
  ·by_cases hb:b=a
   ·have z':=(if_pos hb).symm.trans z
    cases z'
    subst hb
    exact⟨ha,by rw[List.length_map];exact hl,vs,_,rv,ha⟩
   ·have z':=(if_neg hb).symm.trans z
    cases z'
  ·by_cases hb:b=a
   ·exact hb
   ·exact absurd (if_neg hb) z
end L2
namespace L2
open PySem PySem.Spec PyProof.Rows
end L2
namespace L2
open PySem PySem.Spec PyProof.Rows
noncomputable def fW (s:Stmt) (j:Nat):Stmt:=match s with
 | .ClassDef _ _ _ body _ _ _ _ _ _ _=>body.getD j (.Pass ⟨0,0,0,0⟩)
 |_=> .Pass ⟨0,0,0,0⟩
noncomputable def bN (s:Stmt):Arguments:=match s with
 | .FunctionDef _ a _ _ _ _ _ _ _ _=>a
 |_=>{posonlyargs:=[],args:=[],vararg:=none,kwonlyargs:=[],kw_defaults:=[],kwarg:=none,defaults:=[]}
noncomputable def ax (s:Stmt):List Stmt:=match s with
 | .FunctionDef _ _ b _ _ _ _ _ _ _=>b
 |_=>[]
noncomputable def aw (s:Stmt):Scope:=match s with
 | .FunctionDef _ _ _ _ _ _ sc _ _ _=>sc
 |_=>{kind:= .function,names:=[],isGenerator:=false,isCoroutine:=false}
noncomputable abbrev gX:xx:=fun _ _ _ _ _ _=>False
noncomputable abbrev E0:XK:=fun _ _ _=>False
theorem Fd {X:Cx}:k7 gX X E0:=fun _ _ _ _ _ _ _ h=>h.elim
structure Fun (K:PySem.W.Frag) (x qual:Str) (st:Stmt) (f:Addr) (fd:FuncData):Prop where
 ex:∃(oc:Value) (od:Option Addr) (kV doc pm:Value) (an:Option Addr) (cdv ct:Value) (osl:Array (Option Value)),
  fd=PySem.W.fnOf x qual (bN st) (ax st) (aw st) .none kV doc pm an cdv ct∧K.lookup f=some ⟨oc,od,.func fd,osl⟩∧PySem.W.codeIn K cdv qual=true
 kp:PySem.W.keepIn K (.ref f)=true
section
variable {P:Program} {w:World} {K:PySem.W.Frag} {mg:Str→Option Value} {base:Heap}
theorem Fun.ok {x qual:Str} {st:Stmt} {f:Addr} {fd:FuncData} {N ps:List Str} {k:Nat} {sp:Sp} (F:Fun K x qual st f fd) (S:FnScope N ps (aw st)) (len:∀vs H Q E,sp vs H Q E→vs.length=ps.length)
  (hbody:∀(cdv:Value) (A:Around) (outer:List Env) (s:Shared) (H:Hp) (vs:List V) (Q:VK) (E:XK),Room k (A.deeper (envOfC qual (aw st) s.heap.objs.size f cdv))→sp vs H Q E→
   ∃t,PSs (fJ gX P w K mg base N qual (aw st) f cdv A outer s H E).nox (ax st) t∧t {nx:=fun _ H'=>Q .non H',rt:=Q} (start N vs) H):FnOk P w K mg base gX (k+1) f fd ps sp:=by
 obtain⟨oc,od,kV,doc,pm,an,cdv,ct,osl,rfl,lk,hcd⟩:=F.ex
 refine CO lk hcd S len fun A outer s H vs Q E hr hsp=> ?_
 obtain⟨t,h,q⟩:=hbody cdv A outer s H vs Q E hr hsp
 exact⟨t,h.nox,q⟩
theorem Fun.binds {x qual:Str} {st:Stmt} {f:Addr} {fd:FuncData} {ps:List Str} (F:Fun K x qual st f fd)
  (h:∀(kV doc pm:Value) (an:Option Addr) (cdv ct:Value) (us:List Value),us.length=ps.length→bindArgs (PySem.W.fnOf x qual (bN st) (ax st) (aw st) .none kV doc pm an cdv ct) ⟨us,[]⟩=pure (ps.zip us)):Binds K fd ps []:=by
 obtain⟨oc,od,kV,doc,pm,an,cdv,ct,osl,rfl,lk,hcd⟩:=F.ex
 exact .all (h kV doc pm an cdv ct)
theorem cI {x qual:Str} {st:Stmt} {f:Addr} {oc:Value} {od an:Option Addr} {osl:Array (Option Value)} {kV doc pm cdv ct:Value} (l:K.lookup f=some ⟨oc,od,.func (PySem.W.fnOf x qual (bN st) (ax st) (aw st) .none kV doc pm an cdv ct),osl⟩)
  (c:PySem.W.codeIn K cdv qual=true) (k:PySem.W.keepIn K (.ref f)=true):Fun K x qual st f (PySem.W.fnOf x qual (bN st) (ax st) (aw st) .none kV doc pm an cdv ct):=⟨⟨oc,od,kV,doc,pm,an,cdv,ct,osl,rfl,l,c⟩,k⟩
end
section
variable {X:Cx}
theorem pv (i:Nat) {x:Str} {pos:Pos} (hN:X.N[i]? =some x:=by rfl) (hv:He X.env.scope x:=by first|exact Or.inl rfl|exact Or.inr (Or.inl rfl)|exact Or.inr (Or.inr rfl)) (hd:(x==("__debug__":Str))=false:=by decide)
  (hcd:(x==("__classdict__":Str))=false:=by decide):PE X (.Name x pos) (rB i):=ES hN hv hd hcd
end
noncomputable def Same (H H':Hp):Prop:=∀b o,H b=some o→H' b=some o
theorem Same.refl (H:Hp):Same H H:=fun _ _ h=>h
theorem Same.trans {H H1 H2:Hp} (a:Same H H1) (b:Same H1 H2):Same H H2:=fun c o h=>b c o (a c o h)
theorem Same.free {H H':Hp} (e:Same H H') {l:Addr} (h:H' l=Option.none):H l=Option.none:=by
 cases q:H l with
 |none=>rfl
 |some o=>
  rw[e l o q] at h
  cases h
end L2
set_option maxHeartbeats 4000000
namespace L2
open PySem PySem.Spec PyProof.Rows
section
variable {X:Cx} {pins:List (Addr×Obj)} {σ:St} {H:Hp} {s:Shared} {h':Heap}
theorem Inv.turnedLaid {p:Addr} {o:HO} {t':Nat} {ch:List Addr} (I:Inv X pins σ H s) (hf:∀b∈ch,lY X pins H b)
  (k:∀b u,b∉ch→s.heap.get? b=some u→h'.get? b=some u) (hp:s.heap.objs.size≤p)
  (new:ObjOk X.prog X.w (cU H p o) h' p o):Inv X pins σ (cU H p o) {s with heap:=h',toks:=t'}:=by
 have hn:H p=none:=I.hok.fresh hp
 have nch:∀b u,H b=some u→b∉ch:=fun b u e z=>by rw[(hf b z).1] at e;cases e
 have nep:∀b u,s.heap.get? b=some u→b≠p:=fun b u e=>Nat.ne_of_lt (Nat.lt_of_lt_of_le (Heap.lt_size e) hp)
 refine I.step (g':=s.gens) (d':=s.drawn) (ch:=ch) (fun b hb=> ?_) (fun b u _ _ hc e _=>k b u hc e) (fun b u _ _ hc e _=>⟨u.slots,k b u hc e⟩)
  (fun b u _ e n=>by rw[aK (nep b u e)];exact n) (fun b u hc e=>⟨u,k b u hc e⟩) (fun b xs e=>by rw[aK (cY e hn)];exact e)
  (fun b u xs e=>by rw[aK (cY e hn)];exact e) (fun b ps e=>⟨#[],by rw[aK (cY e hn),e];simp⟩) (fun m hm=> ?_) (fun b u e=> ?_) I.bare
 ·obtain⟨_,h2,_,h4,h5,h6⟩:=hf b hb
  exact⟨h4,h2,h5,h6⟩
 ·obtain⟨ob,es,ep,ho,r⟩:=hm
  exact⟨ob,es,ep,k _ ob (fun z=>(hf _ z).2.1 rfl) ho,r⟩
 ·by_cases hb:b=p
  ·subst hb
   rw[bj] at e
   cases e
   exact new
  ·rw[aK hb] at e
   refine(I.hok b u e).stay (fun c v hc q=>k c v ?_ q) (fun c q=>by rw[aK (cY q hn)];exact q) fun c xs q=>by rw[aK (cY q hn)];exact q
   rcases hc with z|z
   ·rw[z];exact nch b u e
   ·exact nch c _ z
end
noncomputable def G9 (K:PySem.W.Frag) (a:Addr):It:=
 ⟨fun i H=>∃xs x,SqL K H a xs∧xs[i]? =some x,
  fun i H v H'=>∃p x,H p=none∧v= .ref p∧(∀xs,SqL K H a xs→xs[i]? =some x)∧H'=cU H p (.tup [.int i,x]),
  fun i H=>∃xs,SqL K H a xs∧xs.length≤i⟩
theorem xz {P:Program} {w:World} {K:PySem.W.Frag} {elts:List Expr} {kk} {tp:Pos} (a e it:Addr) (hne:e≠it):
  Turn P w K (.Tuple elts kk tp) (G9 K a) [e,it] e (fun i h=>(∃old,IsEnum h e it i old)∧h.IsListIter it a i) where
 mem:=by simp
 obj:=fun i h st b hb=>by
  obtain⟨⟨old,he⟩,o,ho,_,d⟩:=st
  rcases List.mem_cons.mp hb with z|hb
  ·subst z
   exact⟨_,he,fun v z=>by cases(show Data.fields _=Data.cell v from z)⟩
  ·have z:b=it:=by simpa using hb
   subst z
   exact⟨o,ho,fun v z=>by rw[d] at z;cases z⟩
 keep:=fun i h h' st k=>by
  obtain⟨⟨old,he⟩,hit⟩:=st
  exact⟨⟨old,k e (by simp) _ he⟩,hit.at fun o q=>k it (by simp) o q⟩
 item:=by
  intro X hP hw hK hc i pins s σ H E I hf st hg
  subst hP hw hK
  obtain⟨⟨old,he⟩,hit⟩:=st
  obtain⟨xs,x,hq,hx⟩:=hg
  obtain⟨its,rv,p,hz⟩:=I.list hq
  obtain⟨u,hu,ru⟩:=rv.get hx
  refine wpAny_pyNext_enum_item he hit p.isList (x:=u) (by simpa using hu) hne fun h1 ho hit1 hT hsz hk=>⟨_,rfl,?_⟩
  refine wpAny_letOwnedTupleGo_enum (s:={s with heap:=h1,toks:=s.toks+1}) ho fun h2 he2 hs2=> ?_
  have hel:e<s.heap.objs.size:=Heap.lt_size he
  have hil:it<s.heap.objs.size:=by obtain⟨_,z,_⟩:=hit;exact Heap.lt_size z
  have hn:H s.heap.objs.size=none:=I.hok.fresh (Nat.le_refl _)
  have kk:∀b o,b∉[e,it]→s.heap.get? b=some o→h2.get? b=some o:=fun b o hb q=>by
   have h3:b≠e:=fun z=>hb (by simp[z])
   have h4:b≠it:=fun z=>hb (by simp[z])
   exact(hs2.2 b h3).trans (hk b o h3 h4 q)
  have hT2:h2.get? s.heap.objs.size=some {cls:= .type "tuple",data:= .seq #[.int i s.toks,u]}:=(hs2.2 _ (Nat.ne_of_gt hel)).trans hT
  have I2:Inv X pins σ (cU H s.heap.objs.size (.tup [.int i,x])) {s with heap:=h2,toks:=s.toks+1}:=
   I.turnedLaid (ch:=[e,it]) hf kk (Nat.le_refl _) ⟨by show 2≤sizeLine;decide,[.int i s.toks,u],.cons ⟨_,rfl⟩ (.cons ru .nil),⟨_,hT2,rfl,_,rfl⟩⟩
  refine⟨.ref s.heap.objs.size,_,I2,rfl,⟨_,x,hn,rfl,fun ys hy=>by rw[I.list_inj hy hq];exact hx,rfl⟩,⟨⟨u,he2⟩,hit1.at fun o q=>(hs2.2 it hne.symm).trans q⟩,fun b hb=> ?_⟩
  have hb2:b≠s.heap.objs.size:=by
   rcases List.mem_cons.mp hb with z|hb
   ·rw[z];exact Nat.ne_of_lt hel
   ·rw[show b=it by simpa using hb];exact Nat.ne_of_lt hil
  rw[aK hb2]
  exact(hf b hb).1
 done:=by
  intro X hP hw hK hc i pins s σ H E I hf st hg
  subst hP hw hK
  obtain⟨⟨old,he⟩,hit⟩:=st
  obtain⟨xs,hq,hx⟩:=hg
  obtain⟨its,rv,p,hz⟩:=I.list hq
  obtain⟨f0,f1,f2,f3,f4,f5⟩:=hf it (by simp)
  have hl:=rv.length
  exact wpAny_pyNext_enum_end (I.ok.hd hc) he hit p.isList (by simp;omega) fun h1 eb=>⟨rfl,I.turned (t':=s.toks) (fun b o hb q=>eb b o hb q) f0 f1 f3 f4 f5⟩
 self:=fun _ _ _ _ _ st h=>by
  obtain⟨⟨old,he⟩,_⟩:=st
  exact wpAny_pyIter_enum he h
mutual
inductive DV (K:PySem.W.Frag) (H:Hp):V→PyData→Prop
 |non:DV K H .non .none
 |bl (b:Bool):DV K H (.bl b) (.bool b)
 |int (i:Int):DV K H (.int i) (.int i)
 |str (x:Str):DV K H (.str x) (.str x)
 |tup {a:Addr} {xs:List V} {ds:List PyData}:SqT K H a xs→DVs K H xs ds→DV K H (.ref a) (.tuple ds)
 |lst {a:Addr} {xs:List V} {ds:List PyData}:SqL K H a xs→DVs K H xs ds→DV K H (.ref a) (.list ds)
inductive DVs (K:PySem.W.Frag) (H:Hp):List V→List PyData→Prop
 |nil:DVs K H [] []
 |cons {v:V} {vs:List V} {d:PyData} {ds:List PyData}:DV K H v d→DVs K H vs ds→DVs K H (v::vs) (d::ds)
end
section
variable {X:Cx} {pins:List (Addr×Obj)} {σ:St} {H:Hp} {s:Shared}
mutual
theorem DV.reads (I:Inv X pins σ H s):∀{v:V} {d:PyData} {u:Value},DV X.K H v d→RelV v u→∃as,Reads s.heap u d as
 |_,_,_,.non,r=>by cases r;exact⟨_,.none⟩
 |_,_,_,.bl b,r=>by cases r;exact⟨_,.bool b⟩
 |_,_,_,.int i,r=>by obtain⟨t,rfl⟩:=r;exact⟨_,.int i t⟩
 |_,_,_,.str x,r=>by obtain⟨t,rfl⟩:=r;exact⟨_,.str x t⟩
 |_,_,_,.tup h hs,r=>by
  cases r
  obtain⟨its,rv,⟨o,e,c,n,d⟩,_⟩:=I.tuple h
  obtain⟨as,q⟩:=DVs.reads I hs rv
  exact⟨_,.tuple e c d (by simpa using q)⟩
 |_,_,_,.lst h hs,r=>by
  cases r
  obtain⟨its,rv,⟨o,n,e,c,_,d⟩,_⟩:=I.list h
  obtain⟨as,q⟩:=DVs.reads I hs rv
  exact⟨_,.list e c d (by simpa using q)⟩
theorem DVs.reads (I:Inv X pins σ H s):∀{vs:List V} {ds:List PyData} {us:List Value},DVs X.K H vs ds→Vals vs us→∃as,ReadsAll s.heap us ds as
 |_,_,_,.nil,r=>by cases r;exact⟨_,.nil⟩
 |_,_,_,.cons h hs,r=>by
  cases r with
  |cons r1 r2=>
   obtain⟨as,q⟩:=DV.reads I h r1
   obtain⟨bs,q2⟩:=DVs.reads I hs r2
   exact⟨_,.cons q q2⟩
end
end
noncomputable def Ab (K:PySem.W.Frag) (neg:Bool):R2:=fun x y H Q=>∃dx dy,DV K H x dx∧DV K H y dy∧dx.canLay0=true∧dy.canLay0=true∧dx.depth≤64∧Q (.bl (if neg then !PyData.eqv dx dy else PyData.eqv dx dy)) H
section
variable {X:Cx}
theorem cA (hu:X.A.units+64<cLine):OpR X (compareOp .Eq) (Ab X.K false):=by
 intro pins s σ H x y v u Q I rx ry h
 obtain⟨dx,dy,h1,h2,l1,l2,hd,q⟩:=h
 obtain⟨as,r1⟩:=h1.reads I rx
 obtain⟨bs,r2⟩:=h2.reads I ry
 exact PySem.SeqAt.compareEq_reads r1 r2 l1 l2 (by omega) ⟨.bl _,H,I,rfl,q⟩
theorem lb (hu:X.A.units+64<cLine):OpR X (compareOp .NotEq) (Ab X.K true):=by
 intro pins s σ H x y v u Q I rx ry h
 obtain⟨dx,dy,h1,h2,l1,l2,hd,q⟩:=h
 obtain⟨as,r1⟩:=h1.reads I rx
 obtain⟨bs,r2⟩:=h2.reads I ry
 exact PySem.SeqAt.compareNe_reads r1 r2 l1 l2 (by omega) ⟨.bl _,H,I,rfl,q⟩
theorem bT:OpR X (binaryOp .FloorDiv) (rI (fun _ j=>0<j∧j.natAbs.log2<9000) fun i j=> .int (i/j)):=GJ fun i j _ _ _ _ _ hc q=>by
 have h1:(0:Int)<j:=hc.1
 exact floordiv_int (by omega) (by rw[Int.fdiv_eq_ediv_of_nonneg i (by omega)];exact q) (.inl (PyProof.noPylong_of_log2 hc.2))
end
end L2
namespace L2
open PySem PySem.Spec PyProof.Rows
noncomputable def iA (env:Env):List (Str×NameKind)→List (Str×Addr)→List (Str×Addr)
 |[],acc=>acc
 |(n,k)::r,acc=>if(k==NameKind.free)=true then(match env.cells.lookup n with|some c=>iA env r ((n,c)::acc)|none=>iA env r acc) else iA env r acc
theorem kX {env:Env} {f:Str×NameKind→List (Str×Addr)→Sem (ForInStep (List (Str×Addr)))}
  (h1:∀n k acc,(k==NameKind.free)=false→f (n,k) acc=pure (.yield acc)) (h2:∀n c acc,env.cells.lookup n=some c→f (n,.free) acc=pure (.yield ((n,c)::acc))):
  ∀(names:List (Str×NameKind)) (acc:List (Str×Addr)),(∀y∈names,y.2= .free→∃c,env.cells.lookup y.1=some c)→forIn names acc f=pure (iA env names acc)
 |[],acc,_=>rfl
 |(n,k)::r,acc,h=>by
  have hr:∀y∈r,y.2= .free→∃c,env.cells.lookup y.1=some c:=fun y hy=>h y (List.mem_cons_of_mem _ hy)
  rw[List.forIn_cons]
  cases hk:(k==NameKind.free) with
  |false=>
   rw[h1 n k acc hk,pure_bind]
   show forIn r acc f=_
   rw[kX h1 h2 r acc hr]
   simp only[iA,hk,Bool.false_eq_true,if_false]
  |true=>
   have e:k= .free:=by simpa using hk
   subst e
   obtain⟨c,hc⟩:=h _ List.mem_cons_self rfl
   rw[h2 n c acc hc,pure_bind]
   show forIn r ((n,c)::acc) f=_
   rw[kX h1 h2 r _ hr]
   have hc':env.cells.lookup n=some c:=hc
   simp only[iA,hk,if_true,hc']
theorem pd {env:Env} {scope:Scope} (h:∀y∈scope.names,y.2= .free→∃c,env.cells.lookup y.1=some c):closureFor scope env=pure (iA env scope.names []):=by
 simp only[closureFor]
 rw[kX (env:=env) (fun n k acc hk=>by simp only[hk,Bool.false_eq_true,if_false]) (fun n c acc hc=>by simp only[beq_self_eq_true,if_true,cellOf,hc,pure_bind]) scope.names [] h,pure_bind]
theorem g8 {env:Env}:∀(names:List (Str×NameKind)) (acc:List (Str×Addr)),(∀x c,acc.lookup x=some c→env.cells.lookup x=some c)→∀x c,(iA env names acc).lookup x=some c→env.cells.lookup x=some c
 |[],_,h,x,c,e=>h x c e
 |(n,k)::r,acc,h,x,c,e=>by
  unfold iA at e
  split at e
  ·split at e
   ·rename_i c' hc'
    refine g8 r _ (fun y d q=> ?_) x c e
    rw[List.lookup_cons] at q
    split at q
    ·rename_i hy
     cases q
     rw[eq_of_beq hy]
     exact hc'
    ·exact h y d q
   ·exact g8 r acc h x c e
  ·exact g8 r acc h x c e
theorem kj {env:Env}:∀(names:List (Str×NameKind)) (acc:List (Str×Addr)) (x:Str),(acc.lookup x).isSome=true→((iA env names acc).lookup x).isSome=true
 |[],_,_,h=>h
 |(n,k)::r,acc,x,h=>by
  unfold iA
  split
  ·split
   ·refine kj r _ x ?_
    rw[List.lookup_cons]
    split
    ·rfl
    ·exact h
   ·exact kj r acc x h
  ·exact kj r acc x h
theorem lz {env:Env}:∀(names:List (Str×NameKind)) (acc:List (Str×Addr)) (x:Str) (c:Addr),(x,NameKind.free)∈names→env.cells.lookup x=some c→((iA env names acc).lookup x).isSome=true
 |[],_,_,_,h,_=>by cases h
 |(n,k)::r,acc,x,c,h,hc=>by
  rcases List.mem_cons.mp h with z|h
  ·cases z
   simp only[iA,beq_self_eq_true,if_true,hc]
   exact kj r _ _ (by simp[List.lookup_cons])
  ·unfold iA
   split
   ·split
    ·exact lz r _ x c h hc
    ·exact lz r acc x c h hc
   ·exact lz r acc x c h hc
theorem tM {env:Env} {names:List (Str×NameKind)} {x:Str} {c:Addr} (h:(x,NameKind.free)∈names) (hc:env.cells.lookup x=some c):(iA env names []).lookup x=some c:=by
 have q:=lz names [] x c h hc
 cases e:(iA env names []).lookup x with
 |none=>rw[e] at q;cases q
 |some d=>
  have z:=g8 names [] (fun y d q=>by cases q) x d e
  rw[hc] at z
  exact z.symm
theorem uB {env:Env} {scope:Scope} {x:Str} {k:NameKind} (h:(relabel scope env).names.lookup x=some k):∃k0,(x,k0)∈scope.names∧(k=k0∨(k0= .free∧k= .cell)):=by
 obtain⟨⟨n,k0⟩,hm,e⟩:=List.mem_map.mp (PySem.mem_of_lookup h)
 simp only at e
 split at e
 ·rename_i hc
  cases e
  have hk:(k0==NameKind.free)=true:=by
   rw[Bool.and_eq_true,Bool.and_eq_true] at hc
   exact hc.1.1
  exact⟨k0,hm,.inr ⟨by simpa using hk,rfl⟩⟩
 ·cases e
  exact⟨_,hm,.inl rfl⟩
theorem jo {env:Env}:∀{names:List (Str×NameKind)} {x:Str},names.lookup x=some .free→
  (names.map fun(n,k)=>if(k==NameKind.free&&env.scope.kind== .function&&env.kindOf n==some .cell) then(n,NameKind.cell) else(n,k)).lookup x=some .cell∨
  (names.map fun(n,k)=>if(k==NameKind.free&&env.scope.kind== .function&&env.kindOf n==some .cell) then(n,NameKind.cell) else(n,k)).lookup x=some .free
 |[],_,h=>by cases h
 |(n,k)::r,x,h=>by
  rw[List.lookup_cons] at h
  rw[List.map_cons]
  dsimp only
  by_cases hc:(k==NameKind.free&&env.scope.kind== .function&&env.kindOf n==some .cell)=true
  ·rw[if_pos hc,List.lookup_cons]
   cases hx:x==n with
   |true=>exact .inl rfl
   |false=>rw[hx] at h;exact jo h
  ·rw[if_neg hc,List.lookup_cons]
   cases hx:x==n with
   |true=>rw[hx] at h;exact .inr h
   |false=>rw[hx] at h;exact jo h
noncomputable def gC (own:List Str) (fv:List (Str×Nat)):List Str:=own++fv.map (·.1)
noncomputable def l7 (own:List Str) (fv:List (Str×Nat)) (σ:St):St:=own.map (fun _=>none)++fv.map fun p=>(σ[p.2]?).join
noncomputable def FvOk (X:Cx) (scope:Scope):List (Str×Nat)→Prop
 |[]=>True
 |p::r=>(X.N[p.2]? =some p.1∧scope.names.lookup p.1=some .free∧(X.env.scope.names.lookup p.1=some .cell∨X.env.scope.names.lookup p.1=some .free))∧FvOk X scope r
theorem FvOk.mem {X:Cx} {scope:Scope}:∀{fv:List (Str×Nat)},FvOk X scope fv→∀p∈fv,X.N[p.2]? =some p.1∧scope.names.lookup p.1=some .free∧(X.env.scope.names.lookup p.1=some .cell∨X.env.scope.names.lookup p.1=some .free)
 |[],_,p,hp=>by cases hp
 |q::r,h,p,hp=>by
  rcases List.mem_cons.mp hp with z|hp
  ·rw[z];exact h.1
  ·exact h.2.mem p hp
noncomputable def eX (X:Cx) (s:Shared) (H:Hp) (scope:Scope) (C:Addr) (N:List Str) (fp:List Addr):Cx:=
 {X with N:=N,s₀:=s,H₀:=H,env:=compEnvC scope (iA X.env scope.names []) C X.env,outer:=X.stack,stack:=X.stack,ex:=fp,fn:=fun x=>((iA X.env scope.names []).lookup x).isNone,pn:=[],xe:=fun _ _=>False}
section
variable {X:Cx} {pins:List (Addr×Obj)} {σ:St} {H:Hp} {s:Shared}
theorem wT {scope:Scope} {C:Addr} {N:List Str} {fp:List Addr} (I:Inv X pins σ H s) (hkind:scope.kind= .function) (hcell:∀y∈scope.names,y.2≠ .cell)
  (hfr:∀y∈scope.names,y.2= .free→∃c,X.env.cells.lookup y.1=some c) (hC:s.heap.objs.size≤C) (hf:∀b∈fp,lY X pins H b) (hfl:∀b∈fp,b<s.heap.objs.size):(eX X s H scope C N fp).Ok where
 mod:=I.ok.mod
 kind:=hkind
 glob:=I.ok.glob
 blt:=I.ok.blt
 above:=hC
 inj:=fun x y c h1 h2=>I.ok.inj x y c (g8 _ _ (fun _ _ q=>by cases q) x c h1) (g8 _ _ (fun _ _ q=>by cases q) y c h2)
 has:=fun x hx=>by
  have hx':∃k,(relabel scope X.env).names.lookup x=some k∧(k= .cell∨k= .free):=by
   rcases hx with z|z
   ·exact⟨_,z,.inl rfl⟩
   ·exact⟨_,z,.inr rfl⟩
  obtain⟨k,hk,hk2⟩:=hx'
  obtain⟨k0,hm,hk0⟩:=uB hk
  have e:k0= .free:=by
   rcases hk0 with z|⟨z,_⟩
   ·subst z
    rcases hk2 with z|z
    ·exact absurd z (hcell _ hm)
    ·exact z
   ·exact z
  subst e
  obtain⟨c,hc⟩:=hfr _ hm rfl
  exact⟨c,tM hm hc⟩
 cab:=fun x c h1 h2=>by
  have h1':((iA X.env scope.names []).lookup x).isNone=true:=h1
  have h2':(iA X.env scope.names []).lookup x=some c:=h2
  rw[h2'] at h1'
  cases h1'
 hd:=I.ok.hd
 frames:=I.ok.frames
 stk:= .inl rfl
 exf:=fun b hb=>⟨Nat.ne_of_lt (Nat.lt_of_lt_of_le (hfl b hb) hC),fun x c e=>(hf b hb).2.2.2.2.1 x c (g8 _ _ (fun _ _ q=>by cases q) x c e)⟩
 bs:=I.bs
 bsz:=Nat.le_trans I.ok.bsz I.sz
 noex:=fun b o e hb=>by
  rcases(hf b hb).2.2.2.1 with z|z
  ·exact I.ok.noex b o e z
  ·exact absurd (Nat.lt_of_lt_of_le (Heap.lt_size e) (Nat.le_trans I.ok.bsz z)) (Nat.lt_irrefl _)
 exfs:=fun b hb hs=>by
  rcases List.mem_cons.mp (I.stkSub b hs) with z|z
  ·exact(hf b hb).2.1 z
  ·exact(hf b hb).2.2.1 z
 funs:=I.stack
 frf:=I.stkFree
theorem zX {scope:Scope} {C D:Addr} {own:List Str} {fv:List (Str×Nat)} {fp:List Addr} {h1:Heap} {t1:Nat} {m:Str→Option Value} (I:Inv X pins σ H s) (hkind:scope.kind= .function) (hcell:∀y∈scope.names,y.2≠ .cell)
  (hfr:∀y∈scope.names,y.2= .free→∃c,X.env.cells.lookup y.1=some c) (hfv:FvOk X scope fv) (hD:s.heap.objs.size≤D) (hCD:C≠D) (hC:s.heap.objs.size≤C) (hf:∀b∈fp,lY X pins H b) (hfl:∀b∈fp,b<s.heap.objs.size)
  (hns:h1.Ns C m) (hk:∀b o,s.heap.get? b=some o→h1.get? b=some o) (hd:∃n,h1.get? D=some {cls:= .type "list",data:= .seq #[] n}):
  Inv (eX X s H scope C (gC own fv) fp) [] (l7 own fv σ) (cU H D (.lst [])) {s with heap:=h1,toks:=t1}:=by
 have hn:H D=none:=I.hok.fresh hD
 obtain⟨n,hd⟩:=hd
 have hcl:∀x c,(iA X.env scope.names []).lookup x=some c→X.env.cells.lookup x=some c:=fun x c e=>g8 _ _ (fun _ _ q=>by cases q) x c e
 have hcs:∀x c,X.env.cells.lookup x=some c→c<s.heap.objs.size:=fun x c e=>by
  obtain⟨v,o,z,_⟩:=I.cell x c e
  exact Heap.lt_size z
 refine⟨wT I hkind hcell hfr hC hf hfl,rfl,I.bare,Un.laid hk hD hn,⟨m,hns,fun i x v e1 e2 e3=> ?_⟩,fun x c e=> ?_,?_,fun x c e=> ?_,fun p hp=>absurd (show p∈([]:List (Addr×Obj)) from hp) (by simp),?_,?_⟩
 ·
  have e1':(own++fv.map (·.1))[i]? =some x:=e1
  have e2':(own.map (fun _=>(none:Option V))++fv.map fun p=>(σ[p.2]?).join)[i]? =some (some v):=e2
  have hi:own.length≤i:=by
   by_cases hi:i<own.length
   ·rw[List.getElem?_append_left (by simpa using hi),List.getElem?_map] at e2'
    cases q:own[i]? with
    |none=>rw[q] at e2';cases e2'
    |some _=>rw[q] at e2';cases e2'
   ·omega
  rw[List.getElem?_append_right hi,List.getElem?_map] at e1'
  rw[List.getElem?_append_right (by simpa using hi),List.getElem?_map,List.length_map] at e2'
  cases q:fv[i - own.length]? with
  |none=>rw[q] at e1';cases e1'
  |some p=>
   rw[q] at e1' e2'
   have ex:p.1=x:=Option.some.inj e1'
   subst ex
   have ev:(σ[p.2]?).join=some v:=Option.some.inj e2'
   obtain⟨g1,g2,g3⟩:=hfv.mem p (List.mem_of_getElem? q)
   have ev2:σ[p.2]? =some (some v):=by
    cases z:σ[p.2]? with
    |none=>rw[z] at ev;cases ev
    |some y=>rw[z] at ev;exact congrArg some ev
   obtain⟨m0,_,hl⟩:=I.loc
   obtain⟨u,r,l⟩:=hl p.2 p.1 v g1 ev2 (.inr g3)
   refine⟨u,r,?_⟩
   have l2:∃c,X.env.cells.lookup p.1=some c∧s.heap.IsCell c (some u):=by
    rcases l with⟨k,_⟩|⟨_,c,e,z⟩
    ·have k':X.env.scope.names.lookup p.1=some .local:=k
     rcases g3 with z|z
     ·rw[z] at k';cases k'
     ·rw[z] at k';cases k'
    ·exact⟨c,e,z⟩
   obtain⟨c,e,o,ho,hdc⟩:=l2
   refine .inr ⟨?_,c,tM (PySem.mem_of_lookup g2) e,o,hk c o ho,hdc⟩
   exact jo g2
 ·obtain⟨v,o,ho,hdc⟩:=I.cell x c (hcl x c e)
  exact⟨v,o,hk c o ho,hdc⟩
 ·show cU H D (.lst []) C=none
  rw[aK hCD]
  exact I.hok.fresh hC
 ·show cU H D (.lst []) c=none
  have z:=hcs x c (hcl x c e)
  rw[aK (Nat.ne_of_lt (Nat.lt_of_lt_of_le z hD))]
  exact I.freeC x c (hcl x c e)
 ·exact I.hok.laid hk hD ⟨by show 0≤sizeLine;exact Nat.zero_le _,[],n,.nil,hd⟩
 ·show(own.map (fun _=>(none:Option V))++fv.map fun p=>(σ[p.2]?).join).length=(own++fv.map (·.1)).length
  simp
end
noncomputable def zD (X:Cx) (ifs:List Expr) (t:TT):Prop:=
 ∀(pins:List (Addr×Obj)) (s:Shared) (σ:St) (H:Hp) (Q:Bool→Hp→Prop),Inv X pins σ H s→t σ H Q→
  wpAny (model X.prog X.w) X.A (forIn ifs true fun c r=>if r=true then do let ok←isTrue c X.env (eval c X.env);pure (ForInStep.yield ok) else pure (ForInStep.yield r)) (TP X pins σ Q) X.xe s
noncomputable def Ct:TT:=fun _ H Q=>Q true H
theorem eQ {X:Cx}:zD X [] Ct:=fun _ _ _ H _ I h=>wpAny_tests_nil ⟨H,I,h⟩
theorem jN {X:Cx} {c:Expr} {tc:TT} (h:PT X c tc):zD X [c] tc:=fun pins s σ H Q I hw=>wpAny_tests_one (h pins s σ H Q I hw)
noncomputable def CV (J:It) (D:Addr) (σc:St) (g:TG) (tc:TT) (te:TE) (H1:Hp) (Fin:Hp→Prop):Prop:=
 ∃W:Nat→Nat→St→Hp→Prop,(∃m,W 0 m σc (cU H1 D (.lst [])))∧∀i m σ H,W i m σ H→
  (J.stop i H∧Fin H)∨(J.go i H∧∃N:St→Hp→Prop,(∀σ' H',N σ' H'→∃m',m'<m∧W (i+1) m' σ' H')∧
   ∀x H',J.yld i H x H'→g x σ H' fun σ2 H2=>tc σ2 H2 fun b H3=>if b=true then te σ2 H3 fun y H4=>∃ys,H4 D=some (.lst ys)∧ys.length<sizeLine∧N σ2 (cU H4 D (.lst (ys++[y]))) else N σ2 H3)
section
variable {prog:Program} {w:World} {A:Around} {s:Shared}
theorem yp {elt tg iter:Expr} {ifs:List Expr} {scope:Scope} {pos:Pos} {it acc:Value} {env:Env} {R:Result→Shared→Prop} (I:Nat→Shared→Prop)
  (turn:∀n s,I n s→wpAny (model prog w) A (pyNext it) (fun r s1=>match r with
   |none=>R (.ok .next) s1
   |some v=>wpAny (model prog w) A (letOwnedTupleGo tg it v) (fun _ s2=>wpAny (model prog w) A (assign tg env v) (fun _ s3=>
     wpAny (model prog w) A (forIn ifs true fun c r=>if r=true then do let ok←isTrue c env (eval c env);pure (ForInStep.yield ok) else pure (ForInStep.yield r)) (fun ok s4=>
      if ok=true then wpAny (model prog w) A (eval elt env) (fun x s5=>
       wpAny (model prog w) A (call (.builtin "list.append") [acc,x]) (fun _ s6=>∃m,m<n∧I m s6) (fun _ _=>False) s5) (fun _ _=>False) s4
      else∃m,m<n∧I m s4) (fun _ _=>False) s3) (fun _ _=>False) s2) (fun _ _=>False) s1) (fun _ _=>False) s)
  (n:Nat) (h:I n s):codeAny (model prog w) A (.compLoop (.ListComp elt [⟨tg,iter,ifs,0⟩] scope pos) 0 it acc env) R s:=by
 refine codeAny_loop rfl I (fun n s hI=> ?_) n h
 show wpAny _ A (Sem.onRaise (compTurn (.ListComp elt [⟨tg,iter,ifs,0⟩] scope pos) 0 it acc env) (fun x=>do noteFrame x env;theTreesLotGoes x)) _ _ s
 refine wpAny_noted ?_
 rw[compTurn_list]
 have no:∀{α:Type} {t:Sem α} {Q Q':α→Shared→Prop} {E:Value→Shared→Prop} {s:Shared},wpAny (model prog w) A t Q (fun _ _=>False) s→(∀a s',Q a s'→Q' a s')→wpAny (model prog w) A t Q' E s:=
  fun h1 h2=>wpAny_mono h1 h2 fun _ _ z=>False.elim z
 refine wpAny_bind (wpAny_standAt (wpAny_bind (no (turn n s hI) fun r s1 h1=> ?_)))
 cases r with
 |none=>exact wpAny_pure h1
 |some v=>
  refine wpAny_bind (no h1 fun _ s2 h2=>wpAny_bind (no h2 fun _ s3 h3=>wpAny_bind (no h3 fun ok s4 h4=> ?_)))
  cases ok with
  |false=>exact wpAny_pure ⟨rfl,h4⟩
  |true=>exact wpAny_bind (wpAny_bind (no h4 fun x s5 h5=>wpAny_bind (no h5 fun _ s6 h6=>wpAny_pure (wpAny_pure ⟨rfl,h6⟩))))
end
section
variable {X:Cx} {pins:List (Addr×Obj)} {σ:St} {H:Hp} {s:Shared}
theorem ot {elt tg iter:Expr} {ifs:List Expr} {scope:Scope} {pos:Pos} {own:List Str} {fv:List (Str×Nat)} {g:TG} {tc:TT} {te:TE} {E:Value→Shared→Prop} {it:Addr} {fp:List Addr} {tn:Nat→Heap→Prop} {J:It} {Fin:Addr→Hp→Prop}
  {RR:Value→Addr→Result→Shared→Prop} (I:Inv X pins σ H s) (hc:X.calm=true) (hkind:scope.kind= .function) (hcell:∀y∈scope.names,y.2≠ .cell) (hfr:∀y∈scope.names,y.2= .free→∃c,X.env.cells.lookup y.1=some c) (hfv:FvOk X scope fv)
  (T:Turn X.prog X.w X.K tg J fp it tn) (st:tn 0 s.heap) (hf:∀b∈fp,lY X pins H b)
  (hg:∀C,PG (eX X s H scope C (gC own fv) fp) tg g) (ht:∀C,zD (eX X s H scope C (gC own fv) fp) ifs tc) (he:∀C,PE (eX X s H scope C (gC own fv) fp) elt te)
  (hR:∀D,H D=none→CV J D (l7 own fv σ) g tc te H (Fin D))
  (hRR:∀D C H' s',Inv X pins σ H' s'→Fin D H'→(∃m,s'.heap.Ns C m)→s.heap.objs.size≤C→H' C=none→RR (.ref D) C (.ok .next) s'):
  wpAny (model X.prog X.w) X.A (newList []) (fun acc s3=>wpAny (model X.prog X.w) X.A (newFunctionEnv scope X.env.globals (iA X.env scope.names []) [] X.env.qual none .none (some X.env)) (fun cenv s4=>
   codeAny (model X.prog X.w) X.A (.compStart (.ListComp elt [⟨tg,iter,ifs,0⟩] scope pos) 0 (.ref it) acc {cenv with scope:=relabel scope X.env}) (RR acc cenv.locals) s4) E s3) E s:=by
 refine wpAny_newObj_type (wpAny_newFunctionEnv hcell (by intro y hy;simp at hy) (fun h1 hns hsb=> ?_) hkind)
 dsimp only at hns hsb⊢
 generalize hH2:s.heap.push {cls:= .type "list",dict:=none,data:= .seq ([]:List Value).toArray}=h2 at hns hsb⊢
 have hz:h2.objs.size=s.heap.objs.size+1:=by rw[←hH2,Heap.size_push]
 have hDC:s.heap.objs.size≠h2.objs.size:=by rw[hz];exact Nat.ne_of_lt (Nat.lt_succ_self _)
 have hC:s.heap.objs.size≤h2.objs.size:=by rw[hz];exact Nat.le_succ _
 have kp:∀b o,s.heap.get? b=some o→h1.get? b=some o:=fun b o e=>by
  have hb:b≠h2.objs.size:=Nat.ne_of_lt (Nat.lt_of_lt_of_le (Heap.lt_size e) hC)
  exact(hsb.2 b hb).trans (Heap.get?_push_of_some _ (hH2▸Heap.get?_push_of_some _ e))
 have hd:∃n,h1.get? s.heap.objs.size=some {cls:= .type "list",data:= .seq #[] n}:=⟨0,(hsb.2 _ hDC).trans (Heap.get?_push_of_some _ (hH2▸Heap.get?_push_size _ rfl))⟩
 have hfl:∀b∈fp,b<s.heap.objs.size:=fun b hb=>by
  obtain⟨o,e,_⟩:=T.obj 0 _ st b hb
  exact Heap.lt_size e
 have hn:H s.heap.objs.size=none:=I.hok.fresh (Nat.le_refl _)
 obtain⟨W,⟨m0,w0⟩,turn⟩:=hR s.heap.objs.size hn
 have fpX:∀{pl:List (Addr×Obj)} {H':Hp},(∀b∈fp,H' b=none)→(∀p∈pl,p.1∉fp)→∀b∈fp,lY (eX X s H scope h2.objs.size (gC own fv) fp) pl H' b:=fun{pl H'} hn' hpl b hb=>by
  have ok:=wT (N:=gC own fv) I hkind hcell hfr hC hf hfl
  exact⟨hn' b hb,(ok.exf b hb).1,ok.exfs b hb,.inl hb,(ok.exf b hb).2,fun p hp=>by
   have hp':p∈([]:List (Addr×Obj))++pl:=hp
   intro z
   exact hpl p (by simpa using hp') (by rw[z];exact hb)⟩
 have loop:∀s4:Shared,s4={s with heap:=h1,toks:=s.toks+([]:List (Str×Value)).length}→
   codeAny (model X.prog X.w) X.A (.compLoop (.ListComp elt [⟨tg,iter,ifs,0⟩] scope pos) 0 (.ref it) (.ref s.heap.objs.size) (compEnvC scope (iA X.env scope.names []) h2.objs.size X.env)) (RR (.ref s.heap.objs.size) h2.objs.size) s4:=by
  rintro s4 rfl
  have I0:Inv (eX X s H scope h2.objs.size (gC own fv) fp) [] (l7 own fv σ) (cU H s.heap.objs.size (.lst [])) {s with heap:=h1,toks:=s.toks+([]:List (Str×Value)).length}:=
   zX I hkind hcell hfr hfv (Nat.le_refl _) hDC.symm hC hf hfl hns kp hd
  have st0:tn 0 h1:=T.keep 0 _ _ st fun b _ o e=>kp b o e
  have fr0:∀b∈fp,(cU H s.heap.objs.size (.lst [])) b=none:=fun b hb=>by
   rw[aK (Nat.ne_of_lt (hfl b hb))]
   exact(hf b hb).1
  refine yp (fun n s'=>∃i σ' H',Inv (eX X s H scope h2.objs.size (gC own fv) fp) [] σ' H' s'∧tn i s'.heap∧(∀b∈fp,H' b=none)∧W i n σ' H') ?_ m0 ⟨0,_,_,I0,st0,fr0,w0⟩
  rintro n s5 ⟨i,σ5,H5,I5,st5,fr5,w5⟩
  rcases turn i n σ5 H5 w5 with⟨stop,fin⟩|⟨go,N,hN,step⟩
  ·refine eJ (T.done (eX X s H scope h2.objs.size (gC own fv) fp) rfl rfl rfl hc i [] s5 σ5 H5 (fun _ _=>False) I5 (fpX fr5 (by simp)) st5 stop) fun r s6 ⟨hr,I6⟩=> ?_
   subst hr
   obtain⟨mm,hm,_⟩:=I6.loc
   refine hRR _ _ H5 s6 ?_ fin ⟨mm,hm⟩ hC I6.free
   exact I.call' (ch:=fp) I6.os I6.base I6.hok I6.bare fun b hb=>⟨(hf b hb).2.2.2.1,(hf b hb).2.1,(hf b hb).2.2.2.2.1,(hf b hb).2.2.2.2.2⟩
  ·refine eJ (T.item (eX X s H scope h2.objs.size (gC own fv) fp) rfl rfl rfl hc i [] s5 σ5 H5 (fun _ _=>False) I5 (fpX fr5 (by simp)) st5 go) fun r s6 ⟨u,hr,h6⟩=> ?_
   subst hr
   refine eJ h6 fun _ s7 ⟨x,H7,I7,r7,y7,st7,fr7⟩=> ?_
   have I7':=I7.pinned (fp:=fp) (fpX fr7 (by simp)) (T.obj _ _ st7)
   have back:∀{σ8:St} {H8:Hp} {s8:Shared},Inv (eX X s H scope h2.objs.size (gC own fv) fp) ([]++nX fp s7.heap) σ8 H8 s8→N σ8 H8→∃m,m<n∧∃i σ' H',Inv (eX X s H scope h2.objs.size (gC own fv) fp) [] σ' H' s8∧tn i s8.heap∧(∀b∈fp,H' b=none)∧W i m σ' H':=fun{σ8 H8 s8} I8 n8=>by
    obtain⟨m',hm,w8⟩:=hN σ8 H8 n8
    refine⟨m',hm,i+1,σ8,H8,I8.unpinned,T.keep _ _ _ st7 fun b hb o e=>(I8.pin (b,o) (List.mem_append_right _ (List.mem_append_right _ (jq hb e)))).1,fun b hb=> ?_,w8⟩
    obtain⟨o,e,d⟩:=T.obj _ _ st7 b hb
    exact(I8.pin (b,o) (List.mem_append_right _ (List.mem_append_right _ (jq hb e)))).2.1
   refine eJ (hg _ _ s7 σ5 H7 x u _ I7' r7 (step x H7 y7)) fun _ s8 ⟨σ8,H8,I8,q8⟩=> ?_
   refine eJ (ht _ _ s8 σ8 H8 _ I8 q8) fun ok s9 ⟨H9,I9,q9⟩=> ?_
   cases ok with
   |false=>
    rw[if_neg Bool.false_ne_true] at q9⊢
    exact back I9 q9
   |true=>
    rw[if_pos rfl] at q9⊢
    refine eJ (he _ _ s9 σ8 H9 _ I9 q9) fun y s10 ⟨v10,H10,I10,r10,ys,hy,hl,q10⟩=> ?_
    refine eJ (ij _ s10 σ8 H10 (.ref s.heap.objs.size) [v10] (.ref s.heap.objs.size) [y] (fun _ H11=>N σ8 H11) I10 rfl (.cons r10 .nil) ⟨_,ys,v10,rfl,rfl,hy,hl,q10⟩) fun _ s11 ⟨v11,H11,I11,_,q11⟩=> ?_
    exact back I11 q11
 exact codeAny_compStart_list (loop _ rfl) (T.self _ 0 _ _ _ (T.keep 0 _ _ st fun b _ o e=>kp b o e) (loop _ rfl))
noncomputable def v8 (own:List Str) (fv:List (Str×Nat)) (wi:TI) (g:TG) (tc:TT) (te:TE):TE:=fun σ H Q=>wi σ H fun J H1=>∀D,H1 D=none→CV J D (l7 own fv σ) g tc te H1 fun H'=>Q (.ref D) H'
theorem nO {scope:Scope} (ok:X.Ok) (h:∀y∈scope.names,y.2= .free→(X.env.scope.names.lookup y.1=some .cell∨X.env.scope.names.lookup y.1=some .free)):∀y∈scope.names,y.2= .free→∃c,X.env.cells.lookup y.1=some c:=
 fun y hy e=>ok.has y.1 (h y hy e)
theorem C8 {scope sc:Scope} (h:(scope.names.all fun y=> !(y.2==NameKind.free)||(sc.names.lookup y.1==some NameKind.cell)||(sc.names.lookup y.1==some NameKind.free))=true):
  ∀y∈scope.names,y.2= .free→(sc.names.lookup y.1=some .cell∨sc.names.lookup y.1=some .free):=fun y hy e=>by
 have q:=List.all_eq_true.mp h y hy
 rw[e] at q
 simpa using q
theorem fG {elt tg iter:Expr} {ifs:List Expr} {scope:Scope} {pos:Pos} (own:List Str) (fv:List (Str×Nat)) {wi:TI} {g:TG} {tc:TT} {te:TE} (hc:X.calm=true) (hi:PI X tg iter wi)
  (hg:∀s H C fp,PG (eX X s H scope C (gC own fv) fp) tg g) (ht:∀s H C fp,zD (eX X s H scope C (gC own fv) fp) ifs tc) (he:∀s H C fp,PE (eX X s H scope C (gC own fv) fp) elt te) (hfv:FvOk X scope fv)
  (hfr0:(scope.names.all fun y=> !(y.2==NameKind.free)||(X.env.scope.names.lookup y.1==some NameKind.cell)||(X.env.scope.names.lookup y.1==some NameKind.free))=true)
  (hkind:scope.kind= .function:=by rfl) (hcell:∀y∈scope.names,y.2≠ .cell:=by decide+kernel)
  (hnames:∀y∈scope.names,y.2= .local→scope.names.lookup y.1=some .local:=by decide+kernel) (hs:∀x,foldedSetIterable iter X.env x=pure x:=by intro _;rfl):
  PE X (.ListComp elt [⟨tg,iter,ifs,0⟩] scope pos) (v8 own fv wi g tc te):=by
 intro pins s σ H Q I h
 have hfr:=C8 hfr0
 rw[eval_ListComp]
 refine wpAny_comprehension_free (use:=none) rfl hs (pd (nO I.ok hfr)) hkind hnames (eJ (hi pins s σ H _ I h) fun xv s1 h1=>eJ h1 fun itv s2 h2=> ?_)
 obtain⟨it,fp,tn,J,H2,e,I2,T,st2,f2,R⟩:=h2
 subst e
 refine ot I2 hc hkind hcell (nO I.ok hfr) hfv T st2 f2 (fun C=>hg _ _ C _) (fun C=>ht _ _ C _) (fun C=>he _ _ C _) (Fin:=fun D H'=>Q (.ref D) H') R ?_
 intro D C H' s' I' fin hm hC hn
 obtain⟨m,hm⟩:=hm
 refine⟨m,hm,fun h' hs'=>⟨.ref D,H',?_,rfl,fin⟩⟩
 obtain⟨f0,f1,_,f3,f4,f5⟩:=I2.fpOk hC hn
 exact I'.turned (t':=s'.toks) (fun b o hb q=>(hs'.2 b hb).trans q) f0 f1 f3 f4 f5
theorem nI {elt tg iter:Expr} {ifs:List Expr} {scope:Scope} {pos spos py:Pos} {i:Nat} {x:Str} (own:List Str) (fv:List (Str×Nat)) {wi:TI} {g:TG} {tc:TT} {te:TE} (hN:X.N.Nodup) (hi':X.N[i]? =some x) (hx:X.env.scope.names.lookup x=some .local)
  (hc:X.calm=true) (hi:PI X tg iter wi)
  (hg:∀s H C fp,PG (eX X s H scope C (gC own fv) fp) tg g) (ht:∀s H C fp,zD (eX X s H scope C (gC own fv) fp) ifs tc) (he:∀s H C fp,PE (eX X s H scope C (gC own fv) fp) elt te) (hfv:FvOk X scope fv)
  (hfr0:(scope.names.all fun y=> !(y.2==NameKind.free)||(X.env.scope.names.lookup y.1==some NameKind.cell)||(X.env.scope.names.lookup y.1==some NameKind.free))=true)
  (hsw:swapsWith (.ListComp elt [⟨tg,iter,ifs,0⟩] scope pos) (some (.Name x py)) spos.line X.env=pure true:=by rfl)
  (hkind:scope.kind= .function:=by rfl) (hcell:∀y∈scope.names,y.2≠ .cell:=by decide+kernel)
  (hnames:∀y∈scope.names,y.2= .local→scope.names.lookup y.1=some .local:=by decide+kernel) (hs:∀x,foldedSetIterable iter X.env x=pure x:=by intro _;rfl):
  PS X (.Assign [.Name x py] (.ListComp elt [⟨tg,iter,ifs,0⟩] scope pos) spos) (zo (v8 own fv wi g tc te) (tD i)):=by
 intro pins s σ H D I h
 have hfr:=C8 hfr0
 rw[exec_Assign_Name_used _ _ _ _ hsw]
 refine wpAny_bind (wpAny_standAt (wpAny_bind ?_))
 show wpAny _ _ (do let _←comprehension (.ListComp elt [⟨tg,iter,ifs,0⟩] scope pos) scope X.env _ (newList []) false (eval iter X.env) (some (assign (.Name x py) X.env))) _ _ s
 refine wpAny_bind (eJ (wpAny_comprehension_free (use:=some (assign (.Name x py) X.env)) (Q:=fun _ s'=>SP X pins D .next s') rfl hs (pd (nO I.ok hfr)) hkind hnames
  (eJ (hi pins s σ H _ I h) fun xv s1 h1=>eJ h1 fun itv s2 h2=> ?_)) fun _ s' q=>wpAny_pure (wpAny_pure q))
 obtain⟨it,fp,tn,J,H2,e,I2,T,st2,f2,R⟩:=h2
 subst e
 refine ot I2 hc hkind hcell (nO I.ok hfr) hfv T st2 f2 (fun C=>hg _ _ C _) (fun C=>ht _ _ C _) (fun C=>he _ _ C _) (Fin:=fun L H'=>D.nx (σ.set i (some (.ref L))) H') R ?_
 intro L C H' s' I' fin hm hC hn
 obtain⟨m,hm⟩:=hm
 obtain⟨f0,f1,f2',f3,f4,f5⟩:=I2.fpOk hC hn
 show wpAny _ _ (assign (.Name x py) X.env (.ref L)) _ _ s'
 refine wpAny_assign_Name (p7 I' hN hi' (.inl hx) (v:= .ref L) rfl (fun s'' I'' ⟨a,sb,ha⟩=> ?_) (.inr hx))
 have hCa:C≠a:=by
  rcases ha with z|z
  ·rw[z];exact f1
  ·exact fun q=>f4 x a z q.symm
 refine⟨m,hm.sameBut sb hCa,fun h' hs'=>⟨_,H',?_,fin⟩⟩
 exact I''.turned (t':=s''.toks) (fun b o hb q=>(hs'.2 b hb).trans q) f0 f1 f3 f4 f5
end
end L2
namespace L2
open PySem PySem.Spec PyProof.Rows
noncomputable def pZ (P:Program) (w:World) (K:PySem.W.Frag) (mg:Str→Option Value) (base:Heap) (k:Nat) (x:Str) (ps:List Str) (sp:Sp):Prop:=
 ∃(f:Addr) (fd:FuncData),FnOk P w K mg base gX k f fd ps sp∧Binds K fd ps []∧PySem.W.keepIn K (.ref f)=true∧mg x=some (.ref f)
theorem bt {X:Cx} {k j:Nat} {x:Str} {ps:List Str} {sp:Sp} {e:Expr} {es:List Expr} {t:TA} {p pos:Pos} (C:pZ X.prog X.w X.K X.mg X.base k x ps sp) (hr:Room j X.A) (ha:PA X (e::es) t) (hjk:k≤j:=by decide) (hg:Gl X x:=by rfl)
  (hdb:(x==("__debug__":Str))=false:=by decide) (he:starEach (e::es) X.env=(false,eval e X.env)::starEach es X.env:=by rfl) (hpl:(backTo pos (starEach es X.env)).any (·.1)=false:=by rfl):
  PE X (.Call (.Name x p) (e::es) [] pos) (pq sp [] E0 t):=by
 obtain⟨f,fd,F,b,kp,m⟩:=C
 exact wP F (hr.mono hjk) hg m kp b .nil Fd ha hdb he hpl
section
variable {σ:St} {H:Hp} {Q:VK} {D:Ends}
theorem DZ {t u:TS} (h:t {D with nx:=u D} σ H):D9 t u D σ H:=h
theorem EQ {te:TE} {g:TG} (h:te σ H fun x H1=>g x σ H1 D.nx):zo te g D σ H:=h
theorem Cp {i:Nat} {v:V} {Q:St→Hp→Prop} (h:Q (σ.set i (some v)) H):tD i v σ H Q:=h
theorem Hs {v:V} (h:Q v H):tC v σ H Q:=h
theorem FZ {r:R2} {ta tb:TE} (h:ta σ H fun x H1=>tb σ H1 fun y H2=>r x y H2 Q):Fa r ta tb σ H Q:=h
theorem Gp {x y:V} (c:BI x y=true) (h:Q (.bl (decide (x=y))) H):HG x y H Q:=⟨c,h⟩
theorem FB {x y:V} (c:BI x y=true) (h:Q (.bl (!decide (x=y))) H):HL x y H Q:=⟨c,h⟩
theorem Ey {te:TE} (h:te σ H D.rt):Dn te D σ H:=h
theorem Cn {te:TE} (h:te σ H fun _ H1=>D.nx σ H1):zc te D σ H:=h
theorem D3 {c:TT} {t u:TS} (h:c σ H fun b H1=>if b=true then t D σ H1 else u D σ H1):D1 c t u D σ H:=h
theorem B1 (h:D.nx σ H):zy D σ H:=h
theorem Cq {t:TE} {Q:Bool→Hp→Prop} (h:t σ H fun x H'=>∃k,x= .bl k∧Q k H'):wc t σ H Q:=h
theorem Hq {t:TE} {Q:Bool→Hp→Prop} (h:t σ H fun x H'=>∃k,x= .bl k∧Q k H'):tB t σ H Q:=h
theorem F7 {b:Bool} {Q:Bool→Prop} (h:Q b):∃k,V.bl b= .bl k∧Q k:=⟨b,rfl,h⟩
theorem FU {t u:TT} {Q:Bool→Hp→Prop} (h:t σ H fun c H1=>if c=true then Q true H1 else u σ H1 Q):G1 t u σ H Q:=h
theorem DJ {t:TT} {Q:Bool→Hp→Prop} (h:t σ H fun c H1=>Q (!c) H1):ET t σ H Q:=h
theorem D5 {Q:List V→Hp→Prop} (h:Q [] H):vy σ H Q:=h
theorem B8 {ta:TE} {tr:TA} {Q:List V→Hp→Prop} (h:ta σ H fun x H1=>tr σ H1 fun xs H2=>Q (x::xs) H2):lD ta tr σ H Q:=h
theorem FC {r:List V→Hp→VK→Prop} {t:TA} (h:t σ H fun vs H1=>r vs H1 Q):Ep r t σ H Q:=h
theorem BG {sp:Sp} {E:XK} {t:TA} (h:t σ H fun vs H1=>sp (vs++[]) H1 Q E):pq sp [] E t σ H Q:=h
theorem EG {t:TA} (h:t σ H fun xs H1=>xs.length≤sizeLine∧∀p,H1 p=none→Q (.ref p) (cU H1 p (.tup xs))):Er t σ H Q:=h
theorem D2 {t:TA} (h:t σ H fun xs H1=>xs.length≤sizeLine∧∀p,H1 p=none→Q (.ref p) (cU H1 p (.lst xs))):Ek t σ H Q:=h
theorem Fq {K:PySem.W.Frag} {T:String} {r:V→List V→Hp→VK→Prop} {to:TE} {t:TA} (h:to σ H fun x H1=>GT K T x H1∧t σ H1 fun xs H2=>r x xs H2 Q):Hk K T r to t σ H Q:=h
end
section
variable {σ:St} {H:Hp} {Q:VK} {D:Ends}
end
theorem DU {α:Type} {xs:List α} {i:Int} {v:α} (h0:0≤i) (h:xs[i.toNat]? =some v):nq xs i=some v:=by
 have q:=wS h
 rwa [Int.toNat_of_nonneg h0] at q
theorem Same.tup {K:PySem.W.Frag} {H H':Hp} {a:Addr} {xs:List V} (e:Same H H') (h:SqT K H a xs):SqT K H' a xs:=by
 rcases h with(h|⟨o,h⟩)|h
 ·exact .inl (.inl (e _ _ h))
 ·exact .inl (.inr ⟨o,e _ _ h⟩)
 ·exact .inr h
theorem b9 {H:Hp} {p:Addr} (h:H p=none) (o:HO):Same H (cU H p o):=fun b u q=>by rw[aK (cY q h)];exact q
end L2
namespace L2
open PySem PySem.Spec PyProof.Rows
theorem uc:bootBuiltins "max"=some (.builtin "max"):=by decide+kernel
theorem cq:bootBuiltins "isinstance"=some (.builtin "isinstance"):=by decide+kernel
theorem de:bootBuiltins "len"=some (.builtin "len"):=by decide+kernel
theorem uf:bootBuiltins "sorted"=some (.builtin "sorted"):=by decide+kernel
theorem wF:bootBuiltins "all"=some (.builtin "all"):=by decide+kernel
theorem za:bootBuiltins "int"=some (.type "int"):=by decide+kernel
theorem DH:bootBuiltins "bool"=some (.type "bool"):=by decide+kernel
theorem DC:bootBuiltins "list"=some (.type "list"):=by decide+kernel
theorem gW:bootBuiltins "tuple"=some (.type "tuple"):=by decide+kernel
end L2
namespace L2
open PySem PySem.Spec PyProof.Rows
section
variable {X:Cx}
theorem uA:CallR X (.builtin "sorted") (fun xs H Q=>∃(p:Addr) (ns:List Int),xs=[.ref p]∧SqL X.K H p (ns.map V.int)∧ns.length<64∧∀(l:Addr) (ms:List Int),H l=none→ms.Perm ns→ms.Pairwise (·≤·)→Q (.ref l) (cU H l (.lst (ms.map V.int)))):=by
 intro pins s σ H xs us Q I r h
 obtain⟨p,ns,rfl,hq,h64,q⟩:=h
 obtain⟨u,rfl,ru⟩:=jZ r
 cases ru
 obtain⟨its,rv,pl,hz⟩:=I.list hq
 have hl:=rv.length
 rw[List.length_map] at hl
 refine sorted_ints pl.isList (lf rv) (by omega) fun out ms hi hp hs=> ?_
 obtain⟨e,he⟩:=sortedAll_at s.heap its out
 have hlen:ms.length=ns.length:=hp.length_eq
 have hout:out.toList.length=ms.length:=hi.length
 refine⟨.ref (s.heap.objs.size+1),_,I.laid (t':=s.toks) (o:= .lst (ms.map V.int)) (fun b ob z=>sortedAll_old z) (Nat.le_succ _) ?_,rfl,q _ ms (I.hok.fresh (Nat.le_succ _)) hp hs⟩
 refine⟨?_,out.toList,e,ki hi,he⟩
 rw[List.length_map,hlen]
 have:(64:Nat)≤sizeLine:=by decide
 omega
end
end L2
namespace L3
open PySem L2
noncomputable abbrev D:=PyData
inductive PV where
 |fz (d:D)
 |ow (ds:List D)
 |pl (i:Nat)
noncomputable abbrev bb:=List (Option PV)
structure Xc where
 cls:Str
 fs:List (Str×D)
inductive Res (α:Type) where
 |ok (a:α)
 |er (x:Xc)
 |bad
namespace Res
noncomputable def bind {α β:Type} (r:Res α) (f:α→Res β):Res β:=match r with
 | .ok a=>f a
 | .er x=> .er x
 | .bad=> .bad
noncomputable def ofO {α:Type}:Option α→Res α
 |some a=> .ok a
 |none=> .bad
theorem bind_ok {α β:Type} (a:α) (f:α→Res β):(Res.ok a).bind f=f a:=rfl
theorem bind_er {α β:Type} (x:Xc) (f:α→Res β):(Res.er x).bind f= .er x:=rfl
end Res
noncomputable abbrev dw:=Addr→Prop
noncomputable def iQ (O:dw) (p:Addr):dw:=fun b=>O b∨b=p
noncomputable def xJ (O:dw) (p:Addr):dw:=fun b=>O b∧b≠p
noncomputable def HU:dw:=fun _=>False
noncomputable def Ev (O:dw) (H:Hp) (O':dw) (H':Hp):Prop:=∀b o,H b=some o→¬O b→H' b=some o∧¬O' b
theorem Ev.refl {O:dw} {H:Hp}:Ev O H O H:=fun _ _ h n=>⟨h,n⟩
theorem Ev.trans {O O1 O2:dw} {H H1 H2:Hp} (a:Ev O H O1 H1) (b:Ev O1 H1 O2 H2):Ev O H O2 H2:=fun p o h n=>let⟨h1,n1⟩:=a p o h n;b p o h1 n1
theorem Ev.grow {O:dw} {H H':Hp} (s:Same H H'):Ev O H O H':=fun b o h n=>⟨s b o h,n⟩
theorem Ev.add {O:dw} {H H':Hp} {p:Addr} (s:Same H H') (hp:H p=none):Ev O H (iQ O p) H':=fun b o h n=>⟨s b o h,fun z=>z.elim n fun e=>by subst e;rw[h] at hp;cases hp⟩
theorem Ev.sub {O O':dw} {H:Hp} (h:∀b,O' b→O b):Ev O H O' H:=fun b o e n=>⟨e,fun z=>n (h b z)⟩
theorem Ev.mut {O:dw} {H:Hp} {p:Addr} (hp:O p) (u:HO):Ev O H O (cU H p u):=fun b o h n=>⟨by rw[aK (fun e=>n (by rw[e];exact hp))];exact h,n⟩
noncomputable def SqLX (K:PySem.W.Frag) (H:Hp) (a:Addr) (xs:List V):Prop:=Rd H a (.lst xs)∨∃(its:List Value) (n:Nat),K.lookup a=some {cls:= .type "list",data:= .seq its.toArray n}∧xs.length≤sizeLine∧Vals xs its
theorem SqLX.sq {K:PySem.W.Frag} {H:Hp} {a:Addr} {xs:List V} (h:SqLX K H a xs):SqL K H a xs:=by
 rcases h with h|⟨its,n,h1,h2,h3⟩
 ·exact .inl h
 ·exact .inr ⟨_,its.toArray,n,h1,rfl,rfl,rfl,by rw[List.size_toArray,←h3.length];exact h2,by simpa using h3⟩
theorem SqLX.of {K:PySem.W.Frag} {H:Hp} {a:Addr} {xs:List V} (h:H a=some (.lst xs)):SqLX K H a xs:= .inl (.inl h)
theorem SqLX.same {K:PySem.W.Frag} {H H':Hp} {a:Addr} {xs:List V} (e:Same H H') (h:SqLX K H a xs):SqLX K H' a xs:=by
 rcases h with(h|⟨o,h⟩)|h
 ·exact .inl (.inl (e _ _ h))
 ·exact .inl (.inr ⟨o,e _ _ h⟩)
 ·exact .inr h
theorem pV (H:Hp):Same (fun _=>none) H:=fun _ _ h=>by cases h
noncomputable def SqLO (O:dw) (K:PySem.W.Frag) (H:Hp) (a:Addr) (xs:List V):Prop:=SqLX K H a xs∧(O a→SqLX K (fun _=>none) a xs)
noncomputable def SqTO (O:dw) (K:PySem.W.Frag) (H:Hp) (a:Addr) (xs:List V):Prop:=SqT K H a xs∧(O a→SqT K (fun _=>none) a xs)
section
variable {O O':dw} {K:PySem.W.Frag} {H H':Hp} {a:Addr} {xs:List V}
theorem SqLO.ev (h:SqLO O K H a xs) (e:Ev O H O' H'):SqLO O' K H' a xs:=by
 obtain⟨h,k⟩:=h
 by_cases z:O a
 ·exact⟨SqLX.same (pV H') (k z),fun _=>k z⟩
 ·rcases h with(h|⟨o,h⟩)|h
  ·obtain⟨h1,h2⟩:=e a _ h z
   exact⟨.inl (.inl h1),fun y=>absurd y h2⟩
  ·obtain⟨h1,h2⟩:=e a _ h z
   exact⟨.inl (.inr ⟨o,h1⟩),fun y=>absurd y h2⟩
  ·exact⟨.inr h,fun _=> .inr h⟩
theorem SqTO.ev (h:SqTO O K H a xs) (e:Ev O H O' H'):SqTO O' K H' a xs:=by
 obtain⟨h,k⟩:=h
 by_cases z:O a
 ·exact⟨(pV H').tup (k z),fun _=>k z⟩
 ·rcases h with(h|⟨o,h⟩)|h
  ·obtain⟨h1,h2⟩:=e a _ h z
   exact⟨.inl (.inl h1),fun y=>absurd y h2⟩
  ·obtain⟨h1,h2⟩:=e a _ h z
   exact⟨.inl (.inr ⟨o,h1⟩),fun y=>absurd y h2⟩
  ·exact⟨.inr h,fun _=> .inr h⟩
end
mutual
inductive DV (O:dw) (K:PySem.W.Frag) (H:Hp):V→D→Prop
 |non:DV O K H .non .none
 |bl (b:Bool):DV O K H (.bl b) (.bool b)
 |int (i:Int):DV O K H (.int i) (.int i)
 |str (x:Str):DV O K H (.str x) (.str x)
 |tup {a:Addr} {xs:List V} {ds:List D}:SqTO O K H a xs→DVs O K H xs ds→DV O K H (.ref a) (.tuple ds)
 |lst {a:Addr} {xs:List V} {ds:List D}:SqLO O K H a xs→DVs O K H xs ds→DV O K H (.ref a) (.list ds)
inductive DVs (O:dw) (K:PySem.W.Frag) (H:Hp):List V→List D→Prop
 |nil:DVs O K H [] []
 |cons {v:V} {vs:List V} {d:D} {ds:List D}:DV O K H v d→DVs O K H vs ds→DVs O K H (v::vs) (d::ds)
end
section
variable {O O':dw} {K:PySem.W.Frag} {H H':Hp}
mutual
theorem DV.ev (e:Ev O H O' H'):∀{v:V} {d:D},DV O K H v d→DV O' K H' v d
 |_,_,.non=> .non
 |_,_,.bl b=> .bl b
 |_,_,.int i=> .int i
 |_,_,.str x=> .str x
 |_,_,.tup h hs=> .tup (h.ev e) (DVs.ev e hs)
 |_,_,.lst h hs=> .lst (h.ev e) (DVs.ev e hs)
theorem DVs.ev (e:Ev O H O' H'):∀{vs:List V} {ds:List D},DVs O K H vs ds→DVs O' K H' vs ds
 |_,_,.nil=> .nil
 |_,_,.cons h hs=> .cons (DV.ev e h) (DVs.ev e hs)
end
theorem DVs.length:∀{vs:List V} {ds:List D},DVs O K H vs ds→vs.length=ds.length
 |_,_,.nil=>rfl
 |_,_,.cons _ t=>by rw[List.length_cons,List.length_cons,t.length]
theorem DVs.get:∀{vs:List V} {ds:List D} {i:Nat} {d:D},DVs O K H vs ds→ds[i]? =some d→∃v,vs[i]? =some v∧DV O K H v d
 |_,_,_,_,.nil,e=>by simp at e
 |_,_,0,_,.cons h _,e=>by simp at e;subst e;exact⟨_,rfl,h⟩
 |_,_,i+1,d,.cons _ t,e=>by
  obtain⟨v,h1,h2⟩:=DVs.get (i:=i) (d:=d) t (by simpa using e)
  exact⟨v,by simpa using h1,h2⟩
theorem DVs.getV:∀{vs:List V} {ds:List D} {i:Nat} {v:V},DVs O K H vs ds→vs[i]? =some v→∃d,ds[i]? =some d∧DV O K H v d
 |_,_,_,_,.nil,e=>by simp at e
 |_,_,0,_,.cons h _,e=>by simp at e;subst e;exact⟨_,rfl,h⟩
 |_,_,i+1,v,.cons _ t,e=>by
  obtain⟨d,h1,h2⟩:=DVs.getV (i:=i) (v:=v) t (by simpa using e)
  exact⟨d,by simpa using h1,h2⟩
theorem DVs.append:∀{vs ws:List V} {ds es:List D},DVs O K H vs ds→DVs O K H ws es→DVs O K H (vs++ws) (ds++es)
 |_,_,_,_,.nil,h=>h
 |_,_,_,_,.cons h t,g=> .cons h (DVs.append t g)
theorem DVs.take:∀{vs:List V} {ds:List D} (n:Nat),DVs O K H vs ds→DVs O K H (vs.take n) (ds.take n)
 |_,_,0,_=> .nil
 |_,_,_+1,.nil=> .nil
 |_,_,n+1,.cons h t=> .cons h (DVs.take n t)
theorem DVs.drop:∀{vs:List V} {ds:List D} (n:Nat),DVs O K H vs ds→DVs O K H (vs.drop n) (ds.drop n)
 |_,_,0,h=>h
 |_,_,_+1,.nil=> .nil
 |_,_,n+1,.cons _ t=>DVs.drop n t
theorem DVs.flat {vs:List V} {ds:List D} (h:DVs O K H vs ds):∀n:Nat,DVs O K H (List.replicate n vs).flatten (List.replicate n ds).flatten
 |0=> .nil
 |n+1=>by rw[List.replicate_succ,List.replicate_succ,List.flatten_cons,List.flatten_cons];exact h.append (DVs.flat h n)
mutual
theorem DV.plain:∀{v:V} {d:D},DV O K H v d→L2.DV K H v d
 |_,_,.non=> .non
 |_,_,.bl b=> .bl b
 |_,_,.int i=> .int i
 |_,_,.str x=> .str x
 |_,_,.tup h hs=> .tup h.1 (DVs.plain hs)
 |_,_,.lst h hs=> .lst h.1.sq (DVs.plain hs)
theorem DVs.plain:∀{vs:List V} {ds:List D},DVs O K H vs ds→L2.DVs K H vs ds
 |_,_,.nil=> .nil
 |_,_,.cons h hs=> .cons (DV.plain h) (DVs.plain hs)
end
end
noncomputable def DX (O:dw) (K:PySem.W.Frag) (H:Hp) (v:V):D→Prop
 | .list ds=>∃a xs,v= .ref a∧SqLX K H a xs∧DVs O K H xs ds
 |d=>DV O K H v d
theorem DV.x {O:dw} {K:PySem.W.Frag} {H:Hp} {v:V} {d:D} (h:DV O K H v d):DX O K H v d:=by
 cases h with
 |lst h hs=>exact⟨_,_,rfl,h.1,hs⟩
 |non=>exact .non
 |bl b=>exact .bl b
 |int i=>exact .int i
 |str x=>exact .str x
 |tup h hs=>exact .tup h hs
theorem DX.plain {O:dw} {K:PySem.W.Frag} {H:Hp} {v:V} {d:D} (h:DX O K H v d):L2.DV K H v d:=by
 cases d with
 |list ds=>
  obtain⟨a,xs,rfl,h1,h2⟩:=h
  exact .lst h1.sq h2.plain
 |none=>exact DV.plain h
 |bool b=>exact DV.plain h
 |int i=>exact DV.plain h
 |str x=>exact DV.plain h
 |tuple ds=>exact DV.plain h
 |dict kvs=>exact DV.plain h
noncomputable def SlotOk (K:PySem.W.Frag) (H0:Hp) (O:dw) (H:Hp) (v:V):PV→Prop
 | .fz d=>DV O K H v d
 | .ow ds=>∃a vs,v= .ref a∧O a∧H0 a=none∧H a=some (.lst vs)∧DVs O K H vs ds
 | .pl _=>False
structure Rl (K:PySem.W.Frag) (B:dw) (H0:Hp) (O:dw) (σ:St) (H:Hp) (ρ:bb):Prop where
 same:Same H0 H
 bo:∀a,B a→O a
 bd:∀a,B a→H0 a≠none
 od:∀a,H a=none→¬O a
 len:σ.length=ρ.length
 slot:∀(i:Nat) (x:PV),ρ[i]? =some (some x)→∃v,σ[i]? =some (some v)∧SlotOk K H0 O H v x
 one:∀(i j:Nat) (ds es:List D) (v:V),ρ[i]? =some (some (.ow ds))→ρ[j]? =some (some (.ow es))→σ[i]? =some (some v)→σ[j]? =some (some v)→i=j
noncomputable def PvOk (K:PySem.W.Frag) (H0:Hp) (O:dw) (σ:St) (H:Hp) (ρ:bb) (v:V):PV→Prop
 | .fz d=>DV O K H v d
 | .ow ds=>∃a vs,v= .ref a∧O a∧H0 a=none∧H a=some (.lst vs)∧DVs O K H vs ds∧∀(i:Nat) (es:List D),ρ[i]? =some (some (.ow es))→σ[i]?≠some (some (.ref a))
 | .pl i=>σ[i]? =some (some v)
noncomputable def ko:PV→Prop
 | .ow _=>False
 |_=>True
noncomputable def fw:PV→PV
 | .ow ds=> .fz (.list ds)
 |p=>p
section
variable {K:PySem.W.Frag} {B O O':dw} {H0 H H':Hp} {σ:St} {ρ ρ':bb} {v:V}
theorem SlotOk.grow {x:PV} (s:Same H H') (h:SlotOk K H0 O H v x):SlotOk K H0 O H' v x:=by
 cases x with
 |fz d=>exact DV.ev (Ev.grow s) h
 |ow ds=>
  obtain⟨a,vs,e,h1,h2,h3,h4⟩:=h
  exact⟨a,vs,e,h1,h2,s _ _ h3,h4.ev (Ev.grow s)⟩
 |pl i=>exact h
theorem Rl.grow (R:Rl K B H0 O σ H ρ) (s:Same H H'):Rl K B H0 O σ H' ρ:=
 ⟨R.same.trans s,R.bo,R.bd,fun a h=>R.od a (s.free h),R.len,fun i x h=>let⟨v,h1,h2⟩:=R.slot i x h;⟨v,h1,h2.grow s⟩,R.one⟩
theorem Rl.none0 (R:Rl K B H0 O σ H ρ) {p:Addr} (h:H p=none):H0 p=none:=R.same.free h
theorem Rl.add (R:Rl K B H0 O σ H ρ) {p:Addr} (s:Same H H') (hp:H p=none) (hq:H' p≠none):Rl K B H0 (iQ O p) σ H' ρ:=by
 refine⟨R.same.trans s,fun a h=> .inl (R.bo a h),R.bd,fun a h z=>z.elim (R.od a (s.free h)) fun e=>hq (by rw[←e];exact h),R.len,fun i x h=> ?_,R.one⟩
 obtain⟨v,h1,h2⟩:=R.slot i x h
 refine⟨v,h1,?_⟩
 cases x with
 |fz d=>exact DV.ev (Ev.add s hp) h2
 |ow ds=>
  obtain⟨a,vs,e,g1,g2,g3,g4⟩:=h2
  exact⟨a,vs,e,.inl g1,g2,s _ _ g3,g4.ev (Ev.add s hp)⟩
 |pl i=>exact h2
theorem Rl.notB (R:Rl K B H0 O σ H ρ) {a:Addr} (h:H0 a=none):¬B a:=fun z=>R.bd a z h
theorem Rl.sub (R:Rl K B H0 O σ H ρ) {a:Addr} (h0:H0 a=none) (h:∀(i:Nat) (es:List D),ρ[i]? =some (some (.ow es))→σ[i]?≠some (some (.ref a))):Rl K B H0 (xJ O a) σ H ρ:=by
 refine⟨R.same,fun b hb=>⟨R.bo b hb,fun e=>R.notB h0 (e▸hb)⟩,R.bd,fun b hb z=>R.od b hb z.1,R.len,fun i x hx=> ?_,R.one⟩
 obtain⟨v,h1,h2⟩:=R.slot i x hx
 refine⟨v,h1,?_⟩
 cases x with
 |fz d=>exact DV.ev (Ev.sub fun b z=>z.1) h2
 |ow ds=>
  obtain⟨b,vs,e,g1,g2,g3,g4⟩:=h2
  subst e
  exact⟨b,vs,rfl,⟨g1,fun e=>h i ds hx (by rw[h1,e])⟩,g2,g3,g4.ev (Ev.sub fun b z=>z.1)⟩
 |pl i=>exact h2
theorem vb {a:Addr} {vs:List V} {ds:List D} (h:H a=some (.lst vs)) (n:¬O a) (hd:DVs O K H vs ds):DV O K H (.ref a) (.list ds):= .lst ⟨SqLX.of h,fun z=>absurd z n⟩ hd
theorem ja {pv:PV} (R:Rl K B H0 O σ H ρ) (h:PvOk K H0 O σ H ρ v pv):∃O',Ev O H O' H∧Rl K B H0 O' σ H ρ∧PvOk K H0 O' σ H ρ v (fw pv):=by
 cases pv with
 |fz d=>exact⟨O,.refl,R,h⟩
 |pl i=>exact⟨O,.refl,R,h⟩
 |ow ds=>
  obtain⟨a,vs,rfl,h1,h2,h3,h4,h5⟩:=h
  exact⟨xJ O a,Ev.sub fun b z=>z.1,R.sub h2 h5,vb h3 (fun z=>z.2 rfl) (h4.ev (Ev.sub fun b z=>z.1))⟩
theorem kc (pv:PV):ko (fw pv):=by cases pv<;>trivial
theorem PvOk.keep {pv:PV} (hs:ko pv) (e:Ev O H O' H') (h:PvOk K H0 O σ H ρ v pv):PvOk K H0 O' σ H' ρ' v pv:=by
 cases pv with
 |fz d=>exact DV.ev e h
 |pl i=>exact h
 |ow ds=>exact hs.elim
noncomputable def HB:Option (Option PV)→Option D
 |some (some (.fz d))=>some d
 |some (some (.ow ds))=>some (.list ds)
 |_=>none
noncomputable def kF (ρ:bb):PV→Option D
 | .fz d=>some d
 | .ow ds=>some (.list ds)
 | .pl i=>HB ρ[i]?
theorem ip {pv:PV} {d:D} (R:Rl K B H0 O σ H ρ) (h:PvOk K H0 O σ H ρ v pv) (e:kF ρ pv=some d):DX O K H v d:=by
 cases pv with
 |fz d'=>cases e;exact DV.x h
 |ow ds=>
  cases e
  obtain⟨a,vs,rfl,h1,h2,h3,h4,h5⟩:=h
  exact⟨a,vs,rfl,SqLX.of h3,h4⟩
 |pl i=>
  have e':HB ρ[i]? =some d:=e
  have h':σ[i]? =some (some v):=h
  cases q:ρ[i]? with
  |none=>rw[q] at e';cases e'
  |some o=>
   cases o with
   |none=>rw[q] at e';cases e'
   |some x=>
    obtain⟨u,g1,g2⟩:=R.slot i x q
    rw[h'] at g1
    cases g1
    rw[q] at e'
    cases x with
    |fz d'=>cases e';exact DV.x g2
    |ow ds=>
     cases e'
     obtain⟨a,vs,rfl,k1,k2,k3,k4⟩:=g2
     exact⟨a,vs,rfl,SqLX.of k3,k4⟩
    |pl j=>exact g2.elim
noncomputable def toS (ρ:bb) (i:Nat):Option (Option PV)→Option (D×bb)
 |some (some (.fz d))=>some (d,ρ)
 |some (some (.ow ds))=>some (.list ds,ρ.set i (some (.fz (.list ds))))
 |_=>none
noncomputable def uj (ρ:bb):PV→Option (D×bb)
 | .fz d=>some (d,ρ)
 | .ow ds=>some (.list ds,ρ)
 | .pl i=>toS ρ i ρ[i]?
theorem fk {α:Type} {l:List α} {i j:Nat} {x y:α} (h:(l.set i x)[j]? =some y):(j=i∧y=x)∨(j≠i∧l[j]? =some y):=by
 rw[List.getElem?_set] at h
 by_cases e:i=j
 ·rw[if_pos e] at h
  split at h
  ·cases h;exact .inl ⟨e.symm,rfl⟩
  ·cases h
 ·rw[if_neg e] at h;exact .inr ⟨fun z=>e z.symm,h⟩
theorem qm {pv:PV} {d:D} (R:Rl K B H0 O σ H ρ) (h:PvOk K H0 O σ H ρ v pv) (e:uj ρ pv=some (d,ρ')):∃O',Ev O H O' H∧Rl K B H0 O' σ H ρ'∧DV O' K H v d:=by
 cases pv with
 |fz d'=>cases e;exact⟨O,.refl,R,h⟩
 |ow ds=>
  cases e
  obtain⟨a,vs,rfl,h1,h2,h3,h4,h5⟩:=h
  exact⟨xJ O a,Ev.sub fun b z=>z.1,R.sub h2 h5,vb h3 (fun z=>z.2 rfl) (h4.ev (Ev.sub fun b z=>z.1))⟩
 |pl i=>
  have e':toS ρ i ρ[i]? =some (d,ρ'):=e
  have h':σ[i]? =some (some v):=h
  cases q:ρ[i]? with
  |none=>rw[q] at e';cases e'
  |some o=>
   cases o with
   |none=>rw[q] at e';cases e'
   |some x=>
    obtain⟨u,g1,g2⟩:=R.slot i x q
    rw[h'] at g1
    cases g1
    rw[q] at e'
    cases x with
    |fz d'=>cases e';exact⟨O,.refl,R,g2⟩
    |pl j=>exact g2.elim
    |ow ds=>
     cases e'
     obtain⟨a,vs,rfl,k1,k2,k3,k4⟩:=g2
     have es:Ev O H (xJ O a) H:=Ev.sub fun b z=>z.1
     have dv:DV (xJ O a) K H (.ref a) (.list ds):=vb k3 (fun z=>z.2 rfl) (k4.ev es)
     refine⟨xJ O a,es,⟨R.same,fun b hb=>⟨R.bo b hb,fun e=>R.notB k2 (e▸hb)⟩,R.bd,fun b hb z=>R.od b hb z.1,by rw[List.length_set];exact R.len,fun j x hx=> ?_,fun j k xs ys w hj hk=> ?_⟩,dv⟩
     ·rcases fk hx with⟨rfl,ee⟩|⟨hne,hx⟩
      ·cases ee
       exact⟨_,h',dv⟩
      ·obtain⟨u,m1,m2⟩:=R.slot j x hx
       refine⟨u,m1,?_⟩
       cases x with
       |fz d=>exact DV.ev es m2
       |pl i=>exact m2
       |ow xs=>
        obtain⟨b,us,rfl,n1,n2,n3,n4⟩:=m2
        exact⟨b,us,rfl,⟨n1,fun z=>hne (R.one j i xs ds (.ref a) hx q (by rw[m1,z]) h')⟩,n2,n3,n4.ev es⟩
     ·rcases fk hj with⟨rfl,ee⟩|⟨_,hj⟩
      ·cases ee
      ·rcases fk hk with⟨rfl,ee⟩|⟨_,hk⟩
       ·cases ee
       ·exact R.one j k xs ys w hj hk
end
noncomputable def HY (K:PySem.W.Frag) (B:dw) (H:Hp) (c:Value) (dx:Option Addr) (x:Xc):Prop:=
 (∃a,c= .ref a∧PySem.W.nsIn K mainGlobals x.cls=some (some (.ref a)))∧∃fs,(∀p,dx=some p→H p=some (.xd fs))∧∀f d,x.fs.lookup f=some d→dx≠none∧∃v,fs.lookup f=some v∧DV B K H v d
noncomputable def XE (K:PySem.W.Frag) (B:dw) (H0:Hp) (E:XK) (x:Xc):Prop:=∀c dx H',Same H0 H'→HY K B H' c dx x→E c dx H'
theorem XE.from {K:PySem.W.Frag} {B O:dw} {H0 H:Hp} {E:XK} {x:Xc} (h:XE K B H0 E x) (hb:∀a,B a→O a) (s:Same H0 H):XE K O H E x:=fun c dx H' s' ⟨h1,fs,h2,h3⟩=>
 h c dx H' (s.trans s') ⟨h1,fs,h2,fun f d e=>let⟨g1,v,g2,g3⟩:=h3 f d e;⟨g1,v,g2,g3.ev (Ev.sub hb)⟩⟩
noncomputable def WR {α:Type} (K:PySem.W.Frag) (E:XK) (B:dw) (H0:Hp) (P:α→Prop):Res α→Prop
 | .ok a=>P a
 | .er x=>XE K B H0 E x
 | .bad=>False
section
variable {K:PySem.W.Frag} {E:XK} {B:dw} {H0:Hp}
theorem WR.bind {α β:Type} {P:β→Prop} {r:Res α} {k:α→Res β} (h:WR K E B H0 P (r.bind k)):WR K E B H0 (fun a=>WR K E B H0 P (k a)) r:=by
 cases r<;>exact h
theorem WR.ofO {α β:Type} {P:β→Prop} {o:Option α} {k:α→Res β} (h:WR K E B H0 P ((Res.ofO o).bind k)):∃a,o=some a∧WR K E B H0 P (k a):=by
 cases o with
 |none=>exact h.elim
 |some a=>exact⟨a,rfl,h⟩
theorem WR.imp {α:Type} {P P':α→Prop} {r:Res α} (h:WR K E B H0 P r) (g:∀a,P a→P' a):WR K E B H0 P' r:=by
 cases r with
 |ok a=>exact g a h
 |er x=>exact h
 |bad=>exact h
end
noncomputable abbrev FE:=bb→Res (PV×bb)
noncomputable abbrev FT:=bb→Res (Bool×bb)
noncomputable abbrev FA:=bb→Res (List PV×bb)
noncomputable def EO (K:PySem.W.Frag) (E:XK) (t:TE) (f:FE):Prop:=
 ∀(B:dw) (H0:Hp) (O:dw) (σ:St) (H:Hp) (ρ:bb) (Q:VK),Rl K B H0 O σ H ρ→WR K E B H0 (fun r=>∀O' v H',Ev O H O' H'→Rl K B H0 O' σ H' r.2→PvOk K H0 O' σ H' r.2 v r.1→Q v H') (f ρ)→t σ H Q
noncomputable def TTO (K:PySem.W.Frag) (E:XK) (t:TT) (f:FT):Prop:=
 ∀(B:dw) (H0:Hp) (O:dw) (σ:St) (H:Hp) (ρ:bb) (Q:Bool→Hp→Prop),Rl K B H0 O σ H ρ→WR K E B H0 (fun r=>∀O' H',Ev O H O' H'→Rl K B H0 O' σ H' r.2→Q r.1 H') (f ρ)→t σ H Q
noncomputable def AO (K:PySem.W.Frag) (E:XK) (t:TA) (f:FA):Prop:=
 ∀(B:dw) (H0:Hp) (O:dw) (σ:St) (H:Hp) (ρ:bb) (Q:List V→Hp→Prop),Rl K B H0 O σ H ρ→WR K E B H0 (fun r=>∀O' vs H',Ev O H O' H'→Rl K B H0 O' σ H' r.2→Paired (fun v pv=>PvOk K H0 O' σ H' r.2 v pv∧ko pv) vs r.1→Q vs H') (f ρ)→t σ H Q
end L3
namespace L3
open PySem L2
inductive RV where
 |fz (d:D)
 |ow (ds:List D)
noncomputable def RV.pv:RV→PV
 | .fz d=> .fz d
 | .ow ds=> .ow ds
noncomputable def Fin (O:dw) (K:PySem.W.Frag) (H:Hp) (Q:VK):RV→Prop
 | .fz d=>∀v H',Same H H'→DV O K H' v d→Q v H'
 | .ow ds=>∀p vs H',Same H H'→H p=none→H' p=some (.lst vs)→DVs (iQ O p) K H' vs ds→Q (.ref p) H'
noncomputable def mQ (O:dw) (H:Hp):Prop:=∀a,H a=none→¬O a
section
variable {K:PySem.W.Frag} {E:XK} {B O O':dw} {H0 H H':Hp} {σ:St} {ρ ρ':bb} {v:V}
theorem iM {Q:VK} {rv:RV} (R:Rl K B H0 O σ H ρ) (h:∀O' v H',Ev O H O' H'→Rl K B H0 O' σ H' ρ→PvOk K H0 O' σ H' ρ v rv.pv→Q v H'):Fin O K H Q rv:=by
 cases rv with
 |fz d=>exact fun v H' s dv=>h O v H' (Ev.grow s) (R.grow s) dv
 |ow ds=>
  intro p vs H' s hp e dv
  refine h (iQ O p) (.ref p) H' (Ev.add s hp) (R.add s hp (by rw[e];simp)) ⟨p,vs,rfl,.inr rfl,R.none0 hp,e,dv,fun i es hi z=> ?_⟩
  obtain⟨u,h1,a,us,e2,g1,g2,g3,g4⟩:=R.slot i _ hi
  rw[z] at h1
  cases h1
  cases e2
  rw[hp] at g3
  cases g3
theorem Fin.new {Q:VK} {ds:List D} {vs:List V} (hd:DVs O K H vs ds) (h:Fin O K H Q (.ow ds)):∀p,H p=none→Q (.ref p) (cU H p (.lst vs)):=fun p hp=>
 h p vs _ (b9 hp _) hp bj (hd.ev (Ev.add (b9 hp _) hp))
theorem Fin.newT {Q:VK} {ds:List D} {vs:List V} (hd:DVs O K H vs ds) (hO:mQ O H) (h:Fin O K H Q (.fz (.tuple ds))):∀p,H p=none→Q (.ref p) (cU H p (.tup vs)):=fun p hp=>
 h (.ref p) _ (b9 hp _) (.tup ⟨SqT.of bj,fun z=>absurd z (hO p hp)⟩ (hd.ev (Ev.grow (b9 hp _))))
theorem Fin.at {Q:VK} {d:D} (h:Fin O K H Q (.fz d)) (hv:DV O K H v d):Q v H:=h v H (Same.refl H) hv
noncomputable def wW (ρ:bb) (i:Nat):Option (Option PV)→Res (PV×bb)
 |some (some (.fz d))=> .ok (.fz d,ρ)
 |some (some (.ow _))=> .ok (.pl i,ρ)
 |_=> .bad
noncomputable def ag (i:Nat):FE:=fun ρ=>wW ρ i ρ[i]?
theorem af {i:Nat}:EO K E (rB i) (ag i):=by
 intro B H0 O σ H ρ Q R w
 unfold ag at w
 cases q:ρ[i]? with
 |none=>rw[q] at w;exact w.elim
 |some o=>
  cases o with
  |none=>rw[q] at w;exact w.elim
  |some x=>
   rw[q] at w
   obtain⟨v,h1,h2⟩:=R.slot i x q
   cases x with
   |fz d=>exact⟨v,h1,w O v H .refl R h2⟩
   |ow ds=>exact⟨v,h1,w O v H .refl R h1⟩
   |pl j=>exact w.elim
noncomputable def pC (d:D):FE:=fun ρ=> .ok (.fz d,ρ)
theorem Bv {v:V} {d:D} (h:∀O H,DV O K H v d):EO K E (tC v) (pC d):=fun B H0 O σ H ρ Q R w=>w O v H .refl R (h O H)
theorem ai {i:Int}:EO K E (tC (.int i)) (pC (.int i)):=Bv fun _ _=> .int i
theorem lX {b:Bool}:EO K E (tC (.bl b)) (pC (.bool b)):=Bv fun _ _=> .bl b
theorem ba {x:Str}:EO K E (tC (.str x)) (pC (.str x)):=Bv fun _ _=> .str x
theorem gJ:EO K E (tC .non) (pC .none):=Bv fun _ _=> .non
noncomputable def l4 (K:PySem.W.Frag) (r:R2) (f:D→D→Option RV):Prop:=∀(O:dw) (H:Hp) (x y:V) (dx dy:D) (rv:RV) (Q:VK),mQ O H→DX O K H x dx→DX O K H y dy→f dx dy=some rv→Fin O K H Q rv→r x y H Q
noncomputable def az (f:D→D→Option RV) (fa fb:FE):FE:=fun ρ=>(fa ρ).bind fun a=>(fb a.2).bind fun b=>(Res.ofO (kF b.2 (fw a.1))).bind fun dx=>(Res.ofO (kF b.2 b.1)).bind fun dy=>(Res.ofO (f dx dy)).bind fun rv=> .ok (rv.pv,b.2)
theorem aq {r:R2} {f:D→D→Option RV} {ta tb:TE} {fa fb:FE} (hr:l4 K r f) (ha:EO K E ta fa) (hb:EO K E tb fb):EO K E (Fa r ta tb) (az f fa fb):=by
 intro B H0 O σ H ρ Q R w
 refine ha B H0 O σ H ρ _ R (w.bind.imp fun a w1 O1 x H1 e1 R1 p1=> ?_)
 obtain⟨O2,e2,R2,p2⟩:=ja R1 p1
 refine hb B H0 O2 σ H1 a.2 _ R2 (w1.bind.imp fun b w2 O3 y H3 e3 R3 p3=> ?_)
 have p2':=p2.keep (kc a.1) e3 (ρ':=b.2)
 obtain⟨dx,qx,w2⟩:=w2.ofO
 obtain⟨dy,qy,w2⟩:=w2.ofO
 obtain⟨rv,qf,w2⟩:=w2.ofO
 refine hr O3 H3 x y dx dy rv Q R3.od (ip R3 p2' qx) (ip R3 p3 qy) qf (iM R3 fun O4 v H4 e4 R4 p4=> ?_)
 exact w2 O4 v H4 (e1.trans (e2.trans (e3.trans e4))) R4 p4
noncomputable def HM (K:PySem.W.Frag) (r:V→Hp→VK→Prop) (f:D→Option RV):Prop:=∀(O:dw) (H:Hp) (x:V) (dx:D) (rv:RV) (Q:VK),mQ O H→DX O K H x dx→f dx=some rv→Fin O K H Q rv→r x H Q
noncomputable def qY (f:D→Option RV) (fa:FE):FE:=fun ρ=>(fa ρ).bind fun a=>(Res.ofO (kF a.2 a.1)).bind fun dx=>(Res.ofO (f dx)).bind fun rv=> .ok (rv.pv,a.2)
theorem ql {r:V→Hp→VK→Prop} {f:D→Option RV} {ta:TE} {fa:FE} (hr:HM K r f) (ha:EO K E ta fa):EO K E (Hg r ta) (qY f fa):=by
 intro B H0 O σ H ρ Q R w
 refine ha B H0 O σ H ρ _ R (w.bind.imp fun a w1 O1 x H1 e1 R1 p1=> ?_)
 obtain⟨dx,qx,w1⟩:=w1.ofO
 obtain⟨rv,qf,w1⟩:=w1.ofO
 exact hr O1 H1 x dx rv Q R1.od (ip R1 p1 qx) qf (iM R1 fun O4 v H4 e4 R4 p4=>w1 O4 v H4 (e1.trans e4) R4 p4)
noncomputable def GS:D→Option Bool
 | .bool b=>some b
 |_=>none
theorem Dq {O:dw} {H:Hp} {x:V} {d:D} {b:Bool} (h:DX O K H x d) (e:GS d=some b):x= .bl b:=by
 cases d<;>cases e
 cases h
 rfl
noncomputable def aG (fa:FE):bb→Res (Bool×bb):=fun ρ=>(fa ρ).bind fun a=>(Res.ofO (kF a.2 a.1)).bind fun d=>(Res.ofO (GS d)).bind fun b=> .ok (b,a.2)
theorem aC {ta:TE} {fa:FE} (ha:EO K E ta fa):TTO K E (wc ta) (aG fa):=by
 intro B H0 O σ H ρ Q R w
 refine ha B H0 O σ H ρ _ R (w.bind.imp fun a w1 O1 x H1 e1 R1 p1=> ?_)
 obtain⟨d,qd,w1⟩:=w1.ofO
 obtain⟨b,qb,w1⟩:=w1.ofO
 exact⟨b,Dq (ip R1 p1 qd) qb,w1 O1 H1 e1 R1⟩
theorem iX {ta:TE} {fa:FE} (ha:EO K E ta fa):TTO K E (tB ta) (aG fa):=aC ha
noncomputable def gb (fa fb:FT):FT:=fun ρ=>(fa ρ).bind fun a=>if a.1=true then fb a.2 else .ok (false,a.2)
noncomputable def nK (fa fb:FT):FT:=fun ρ=>(fa ρ).bind fun a=>if a.1=true then .ok (true,a.2) else fb a.2
noncomputable def gL (fa:FT):FT:=fun ρ=>(fa ρ).bind fun a=> .ok (!a.1,a.2)
theorem TTO.next {t:TT} {f:FT} {Q:Bool→Hp→Prop} (h:TTO K E t f) {O1:dw} {H1:Hp} {ρ:bb} (R:Rl K B H0 O1 σ H1 ρ) (e1:Ev O H O1 H1) (w:WR K E B H0 (fun r=>∀O' H',Ev O H O' H'→Rl K B H0 O' σ H' r.2→Q r.1 H') (f ρ)):t σ H1 Q:=
 h B H0 O1 σ H1 ρ Q R (w.imp fun r q O' H' e' R'=>q O' H' (e1.trans e') R')
theorem EO.next {t:TE} {f:FE} {Q:VK} (h:EO K E t f) {O1:dw} {H1:Hp} {ρ:bb} (R:Rl K B H0 O1 σ H1 ρ) (e1:Ev O H O1 H1) (w:WR K E B H0 (fun r=>∀O' v H',Ev O H O' H'→Rl K B H0 O' σ H' r.2→PvOk K H0 O' σ H' r.2 v r.1→Q v H') (f ρ)):t σ H1 Q:=
 h B H0 O1 σ H1 ρ Q R (w.imp fun r q O' v H' e' R' p'=>q O' v H' (e1.trans e') R' p')
theorem dX {t u:TT} {f g:FT} (h1:TTO K E t f) (h2:TTO K E u g):TTO K E (FJ t u) (gb f g):=by
 intro B H0 O σ H ρ Q R w
 refine h1 B H0 O σ H ρ _ R (w.bind.imp fun a w1 O1 H1 e1 R1=> ?_)
 obtain⟨b,ρ1⟩:=a
 cases b with
 |true=>exact h2.next R1 e1 w1
 |false=>exact w1 O1 H1 e1 R1
theorem fQ {t u:TT} {f g:FT} (h1:TTO K E t f) (h2:TTO K E u g):TTO K E (G1 t u) (nK f g):=by
 intro B H0 O σ H ρ Q R w
 refine h1 B H0 O σ H ρ _ R (w.bind.imp fun a w1 O1 H1 e1 R1=> ?_)
 obtain⟨b,ρ1⟩:=a
 cases b with
 |true=>exact w1 O1 H1 e1 R1
 |false=>exact h2.next R1 e1 w1
theorem fo {t:TT} {f:FT} (h1:TTO K E t f):TTO K E (ET t) (gL f):=by
 intro B H0 O σ H ρ Q R w
 exact h1 B H0 O σ H ρ _ R (w.bind.imp fun a w1 O1 H1 e1 R1=>w1 O1 H1 e1 R1)
noncomputable def db:FT:=fun ρ=> .ok (true,ρ)
theorem eR:TTO K E Ct db:=fun B H0 O σ H ρ Q R w=>w O H .refl R
noncomputable def so (fa fb:FE):FE:=fun ρ=>(aG fa ρ).bind fun a=>if a.1=true then fb a.2 else .ok (.fz (.bool false),a.2)
noncomputable def Ci (fa fb:FE):FE:=fun ρ=>(aG fa ρ).bind fun a=>if a.1=true then .ok (.fz (.bool true),a.2) else fb a.2
noncomputable def zh (fa:FE):FE:=fun ρ=>(aG fa ρ).bind fun a=> .ok (.fz (.bool (!a.1)),a.2)
theorem qI {ta tb:TE} {fa fb:FE} (ha:EO K E ta fa) (hb:EO K E tb fb):EO K E (C7 ta tb) (so fa fb):=by
 intro B H0 O σ H ρ Q R w
 refine aC ha B H0 O σ H ρ (fun c H1=>if c=true then tb σ H1 Q else Q (.bl false) H1) R (w.bind.imp fun a w1 O1 H1 e1 R1=> ?_)
 obtain⟨b,ρ1⟩:=a
 cases b with
 |true=>exact hb.next R1 e1 w1
 |false=>exact w1 O1 _ H1 e1 R1 (.bl false)
theorem CW {ta tb:TE} {fa fb:FE} (ha:EO K E ta fa) (hb:EO K E tb fb):EO K E (FM ta tb) (Ci fa fb):=by
 intro B H0 O σ H ρ Q R w
 refine aC ha B H0 O σ H ρ (fun c H1=>if c=true then Q (.bl true) H1 else tb σ H1 Q) R (w.bind.imp fun a w1 O1 H1 e1 R1=> ?_)
 obtain⟨b,ρ1⟩:=a
 cases b with
 |true=>exact w1 O1 _ H1 e1 R1 (.bl true)
 |false=>exact hb.next R1 e1 w1
theorem EV {ta:TE} {fa:FE} (ha:EO K E ta fa):EO K E (CT ta) (zh fa):=by
 intro B H0 O σ H ρ Q R w
 exact aC ha B H0 O σ H ρ (fun c H1=>Q (.bl (!c)) H1) R (w.bind.imp fun a w1 O1 H1 e1 R1=>w1 O1 _ H1 e1 R1 (.bl _))
noncomputable def eh (f g:D→D→Option RV) (fa fb fc:FE):FE:=fun ρ=>(fa ρ).bind fun a=>(fb a.2).bind fun b=>(Res.ofO (kF b.2 (fw a.1))).bind fun dx=>(Res.ofO (kF b.2 (fw b.1))).bind fun dy=>
 (Res.ofO (f dx dy)).bind fun rv=>match rv with
  | .fz (.bool true)=>(fc b.2).bind fun c=>(Res.ofO (kF c.2 (fw b.1))).bind fun dy'=>(Res.ofO (kF c.2 c.1)).bind fun dz=>(Res.ofO (g dy' dz)).bind fun rv=> .ok (rv.pv,c.2)
  | .fz (.bool false)=> .ok (.fz (.bool false),b.2)
  |_=> .bad
theorem gs {r r':R2} {f g:D→D→Option RV} {ta tb tc:TE} {fa fb fc:FE} (hr:l4 K r f) (hr':l4 K r' g) (ha:EO K E ta fa) (hb:EO K E tb fb) (hc:EO K E tc fc):EO K E (uR r r' ta tb tc) (eh f g fa fb fc):=by
 intro B H0 O σ H ρ Q R w
 refine ha B H0 O σ H ρ _ R (w.bind.imp fun a w1 O1 x H1 e1 R1 p1=> ?_)
 obtain⟨O2,e2,R2,p2⟩:=ja R1 p1
 refine hb B H0 O2 σ H1 a.2 _ R2 (w1.bind.imp fun b w2 O3' y H3 e3' R3' p3'=> ?_)
 obtain⟨O3,e3,R3,p3⟩:=ja R3' p3'
 have e3:=e3'.trans e3
 have p2':=p2.keep (kc a.1) e3 (ρ':=b.2)
 obtain⟨dx,qx,w2⟩:=w2.ofO
 obtain⟨dy,qy,w2⟩:=w2.ofO
 obtain⟨rv,qf,w2⟩:=w2.ofO
 refine hr O3 H3 x y dx dy rv _ R3.od (ip R3 p2' qx) (ip R3 p3 qy) qf ?_
 cases rv with
 |ow ds=>exact w2.elim
 |fz d=>
  intro v H' s dv
  cases dv with
  |bl k=>
   refine⟨k,rfl,?_⟩
   have R4:=R3.grow s
   have e4:Ev O3 H3 O3 H':=Ev.grow s
   cases k with
   |false=>exact w2 O3 _ H' (e1.trans (e2.trans (e3.trans e4))) R4 (.bl false)
   |true=>
    rw[if_pos rfl]
    refine hc B H0 O3 σ H' b.2 _ R4 (WR.imp (WR.bind w2) fun c w3 O5 z H5 e5 R5 p5=> ?_)
    obtain⟨dy',qy',w3⟩:=w3.ofO
    obtain⟨dz,qz,w3⟩:=w3.ofO
    obtain⟨rv,qg,w3⟩:=w3.ofO
    refine hr' O5 H5 y z dy' dz rv Q R5.od (ip R5 (p3.keep (kc b.1) (e4.trans e5)) qy') (ip R5 p5 qz) qg (iM R5 fun O6 v H6 e6 R6 p6=> ?_)
    exact w3 O6 v H6 (e1.trans (e2.trans (e3.trans (e4.trans (e5.trans e6))))) R6 p6
  |_=>exact w2.elim
noncomputable def am:FA:=fun ρ=> .ok ([],ρ)
noncomputable def aa (fa:FE) (fr:FA):FA:=fun ρ=>(fa ρ).bind fun a=>(fr a.2).bind fun b=> .ok (fw a.1::b.1,b.2)
theorem ap:AO K E vy am:=fun B H0 O σ H ρ Q R w=>w O [] H .refl R .nil
theorem ae {ta:TE} {tr:TA} {fa:FE} {fr:FA} (ha:EO K E ta fa) (hr:AO K E tr fr):AO K E (lD ta tr) (aa fa fr):=by
 intro B H0 O σ H ρ Q R w
 refine ha B H0 O σ H ρ _ R (w.bind.imp fun a w1 O1 x H1 e1 R1 p1=> ?_)
 obtain⟨O2,e2,R2,p2⟩:=ja R1 p1
 refine hr B H0 O2 σ H1 a.2 _ R2 (w1.bind.imp fun b w2 O3 ys H3 e3 R3 p3=> ?_)
 exact w2 O3 (x::ys) H3 (e1.trans (e2.trans e3)) R3 (.cons ⟨p2.keep (kc a.1) e3,kc a.1⟩ p3)
noncomputable def jW (ρ:bb):List PV→Option (List D)
 |[]=>some []
 |p::r=>match kF ρ p with
  |some d=>(match jW ρ r with
   |some ds=>some (d::ds)
   |none=>none)
  |none=>none
theorem oa (R:Rl K B H0 O σ H ρ):∀{vs:List V} {ps:List PV} {ds:List D},Paired (fun v pv=>PvOk K H0 O σ H ρ v pv∧ko pv) vs ps→jW ρ ps=some ds→Paired (DX O K H) vs ds
 |_,_,_,.nil,e=>by cases e;exact .nil
 |_,_,_,.cons (l₁:=vs) (l₂:=ps) (b:=p) h t,e=>by
  unfold jW at e
  cases q:kF ρ p with
  |none=>rw[q] at e;cases e
  |some d=>
   rw[q] at e
   dsimp only at e
   cases q2:jW ρ ps with
   |none=>rw[q2] at e;cases e
   |some ds'=>
    rw[q2] at e
    cases e
    exact .cons (ip R h.1 q) (oa R t q2)
noncomputable def jH (ρ:bb):List PV→Option (List D×bb)
 |[]=>some ([],ρ)
 |p::r=>match uj ρ p with
  |some (d,ρ1)=>(match jH ρ1 r with
   |some (ds,ρ2)=>some (d::ds,ρ2)
   |none=>none)
  |none=>none
theorem kR:∀{vs:List V} {ps:List PV} {ds:List D} {O:dw} {ρ ρ':bb},Rl K B H0 O σ H ρ→Paired (fun v pv=>PvOk K H0 O σ H ρ v pv∧ko pv) vs ps→jH ρ ps=some (ds,ρ')→∃O',Ev O H O' H∧Rl K B H0 O' σ H ρ'∧DVs O' K H vs ds
 |_,_,_,O,_,_,R,.nil,e=>by cases e;exact⟨O,.refl,R,.nil⟩
 |_,_,_,O,ρ,ρ',R,.cons (l₁:=vs) (l₂:=ps) (b:=p) h t,e=>by
  unfold jH at e
  cases q:uj ρ p with
  |none=>rw[q] at e;cases e
  |some r=>
   obtain⟨d,ρ1⟩:=r
   rw[q] at e
   dsimp only at e
   cases q2:jH ρ1 ps with
   |none=>rw[q2] at e;cases e
   |some r2=>
    obtain⟨ds',ρ2⟩:=r2
    rw[q2] at e
    cases e
    obtain⟨O1,e1,R1,d1⟩:=qm R h.1 q
    have t1:Paired (fun v pv=>PvOk K H0 O1 σ H ρ1 v pv∧ko pv) vs ps:=Paired.mapP t fun v pv ⟨h1,h2⟩=>⟨h1.keep h2 e1,h2⟩
    obtain⟨O2,e2,R2,d2⟩:=kR R1 t1 q2
    exact⟨O2,e1.trans e2,R2,.cons (d1.ev e2) d2⟩
noncomputable abbrev FN:=List D→Res RV
noncomputable def i8 (K:PySem.W.Frag) (n:Nat) (F:FN):Sp:=fun vs H Q E=>vs.length=n∧∃(B:dw) (ds:List D),(∀a,B a→H a≠none)∧DVs B K H vs ds∧WR K E B H (Fin B K H Q) (F ds)
noncomputable def kH (F:FN) (n:Nat) (fa:FA):FE:=fun ρ=>(fa ρ).bind fun a=>(Res.ofO (jH a.2 a.1)).bind fun b=>if b.1.length=n then(F b.1).bind fun rv=> .ok (rv.pv,b.2) else .bad
theorem ra {F:FN} {n:Nat} {ta:TA} {fa:FA} (ha:AO K E ta fa):EO K E (pq (i8 K n F) [] E ta) (kH F n fa):=by
 intro B H0 O σ H ρ Q R w
 refine ha B H0 O σ H ρ _ R (w.bind.imp fun a w1 O1 vs H1 e1 R1 p1=> ?_)
 obtain⟨⟨ds,ρ2⟩,q,w2⟩:=w1.ofO
 obtain⟨O2,e2,R2,dv⟩:=kR R1 p1 q
 dsimp only at w2
 by_cases hn:ds.length=n
 ·rw[if_pos hn] at w2
  rw[List.append_nil]
  refine⟨dv.length.trans hn,O2,ds,fun a z hz=>R2.od a hz z,dv,?_⟩
  cases qF:F ds with
  |bad=>rw[qF] at w2;exact w2.elim
  |er x=>rw[qF] at w2;exact XE.from w2 R2.bo R2.same
  |ok rv=>
   rw[qF] at w2
   exact iM R2 fun O3 v H3 e3 R3 p3=>w2 O3 v H3 (e1.trans (e2.trans e3)) R3 p3
 ·rw[if_neg hn] at w2
  exact w2.elim
noncomputable def aD (fa:FA):FE:=fun ρ=>(fa ρ).bind fun a=>(Res.ofO (jH a.2 a.1)).bind fun b=>if b.1.length≤1000 then .ok (.fz (.tuple b.1),b.2) else .bad
noncomputable def cV (fa:FA):FE:=fun ρ=>(fa ρ).bind fun a=>(Res.ofO (jH a.2 a.1)).bind fun b=>if b.1.length≤1000 then .ok (.ow b.1,b.2) else .bad
theorem zV {n:Nat} (h:n≤1000):n≤sizeLine:=Nat.le_trans h (by decide)
theorem aY {ta:TA} {fa:FA} (ha:AO K E ta fa):EO K E (Er ta) (aD fa):=by
 intro B H0 O σ H ρ Q R w
 refine ha B H0 O σ H ρ _ R (w.bind.imp fun a w1 O1 vs H1 e1 R1 p1=> ?_)
 obtain⟨⟨ds,ρ2⟩,q,w2⟩:=w1.ofO
 obtain⟨O2,e2,R2,dv⟩:=kR R1 p1 q
 dsimp only at w2
 by_cases hn:ds.length≤1000
 ·rw[if_pos hn] at w2
  refine⟨by rw[dv.length];exact zV hn,Fin.newT dv R2.od (iM (rv:= .fz (.tuple ds)) R2 fun O3 v H3 e3 R3 p3=>w2 O3 v H3 (e1.trans (e2.trans e3)) R3 p3)⟩
 ·rw[if_neg hn] at w2
  exact w2.elim
theorem cP {ta:TA} {fa:FA} (ha:AO K E ta fa):EO K E (Ek ta) (cV fa):=by
 intro B H0 O σ H ρ Q R w
 refine ha B H0 O σ H ρ _ R (w.bind.imp fun a w1 O1 vs H1 e1 R1 p1=> ?_)
 obtain⟨⟨ds,ρ2⟩,q,w2⟩:=w1.ofO
 obtain⟨O2,e2,R2,dv⟩:=kR R1 p1 q
 dsimp only at w2
 by_cases hn:ds.length≤1000
 ·rw[if_pos hn] at w2
  refine⟨by rw[dv.length];exact zV hn,Fin.new dv (iM (rv:= .ow ds) R2 fun O3 v H3 e3 R3 p3=>w2 O3 v H3 (e1.trans (e2.trans e3)) R3 p3)⟩
 ·rw[if_neg hn] at w2
  exact w2.elim
noncomputable def A6 (K:PySem.W.Frag) (r:List V→Hp→VK→Prop) (f:List D→Option RV):Prop:=∀(O:dw) (H:Hp) (xs:List V) (ds:List D) (rv:RV) (Q:VK),mQ O H→Paired (DX O K H) xs ds→f ds=some rv→Fin O K H Q rv→r xs H Q
noncomputable def dh (f:List D→Option RV) (fa:FA):FE:=fun ρ=>(fa ρ).bind fun a=>(Res.ofO (jW a.2 a.1)).bind fun ds=>(Res.ofO (f ds)).bind fun rv=> .ok (rv.pv,a.2)
theorem bS {r:List V→Hp→VK→Prop} {f:List D→Option RV} {ta:TA} {fa:FA} (hr:A6 K r f) (ha:AO K E ta fa):EO K E (Ep r ta) (dh f fa):=by
 intro B H0 O σ H ρ Q R w
 refine ha B H0 O σ H ρ _ R (w.bind.imp fun a w1 O1 vs H1 e1 R1 p1=> ?_)
 obtain⟨ds,q,w2⟩:=w1.ofO
 obtain⟨rv,qf,w2⟩:=w2.ofO
 exact hr O1 H1 vs ds rv Q R1.od (oa R1 p1 q) qf (iM R1 fun O4 v H4 e4 R4 p4=>w2 O4 v H4 (e1.trans e4) R4 p4)
noncomputable def GV:D→Option Int
 | .int i=>some i
 |_=>none
theorem Ec {O:dw} {H:Hp} {x:V} {d:D} {i:Int} (h:DX O K H x d) (e:GV d=some i):x= .int i:=by
 cases d<;>cases e
 cases h
 rfl
noncomputable abbrev FO:=bb→Res (Option Int×bb)
noncomputable def C9 (K:PySem.W.Frag) (E:XK) (t:TO) (f:FO):Prop:=
 ∀(B:dw) (H0:Hp) (O:dw) (σ:St) (H:Hp) (ρ:bb) (Q:Option Int→Hp→Prop),Rl K B H0 O σ H ρ→WR K E B H0 (fun r=>∀O' H',Ev O H O' H'→Rl K B H0 O' σ H' r.2→Q r.1 H') (f ρ)→t σ H Q
noncomputable def eD:FO:=fun ρ=> .ok (none,ρ)
noncomputable def cH (fa:FE):FO:=fun ρ=>(fa ρ).bind fun a=>(Res.ofO (kF a.2 a.1)).bind fun d=>(Res.ofO (GV d)).bind fun i=> .ok (some i,a.2)
theorem fC:C9 K E wu eD:=fun B H0 O σ H ρ Q R w=>w O H .refl R
theorem c8 {ta:TE} {fa:FE} (ha:EO K E ta fa):C9 K E (yJ ta) (cH fa):=by
 intro B H0 O σ H ρ Q R w
 refine ha B H0 O σ H ρ _ R (w.bind.imp fun a w1 O1 x H1 e1 R1 p1=> ?_)
 obtain⟨d,q,w2⟩:=w1.ofO
 obtain⟨i,qi,w2⟩:=w2.ofO
 exact⟨i,Ec (ip R1 p1 q) qi,w2 O1 H1 e1 R1⟩
noncomputable def Hb (K:PySem.W.Frag) (r:V→Option Int→Option Int→Hp→VK→Prop) (f:D→Option Int→Option Int→Option RV):Prop:=∀(O:dw) (H:Hp) (x:V) (lo hi:Option Int) (dx:D) (rv:RV) (Q:VK),mQ O H→DX O K H x dx→f dx lo hi=some rv→Fin O K H Q rv→r x lo hi H Q
noncomputable def kE (f:D→Option Int→Option Int→Option RV) (fa:FE) (fl fh:FO):FE:=fun ρ=>(fa ρ).bind fun a=>(fl a.2).bind fun l=>(fh l.2).bind fun h=>(Res.ofO (kF h.2 (fw a.1))).bind fun dx=>(Res.ofO (f dx l.1 h.1)).bind fun rv=> .ok (rv.pv,h.2)
theorem iL {r:V→Option Int→Option Int→Hp→VK→Prop} {f:D→Option Int→Option Int→Option RV} {ta:TE} {tl th:TO} {fa:FE} {fl fh:FO} (hr:Hb K r f) (ha:EO K E ta fa) (hl:C9 K E tl fl) (hh:C9 K E th fh):EO K E (HD r ta tl th) (kE f fa fl fh):=by
 intro B H0 O σ H ρ Q R w
 refine ha B H0 O σ H ρ _ R (w.bind.imp fun a w1 O1 x H1 e1 R1 p1=> ?_)
 obtain⟨O2,e2,R2,p2⟩:=ja R1 p1
 refine hl B H0 O2 σ H1 a.2 _ R2 (w1.bind.imp fun l w2 O3 H3 e3 R3=> ?_)
 refine hh B H0 O3 σ H3 l.2 _ R3 (w2.bind.imp fun h w3 O4 H4 e4 R4=> ?_)
 obtain⟨dx,qx,w3⟩:=w3.ofO
 obtain⟨rv,qf,w3⟩:=w3.ofO
 exact hr O4 H4 x l.1 h.1 dx rv Q R4.od (ip R4 (p2.keep (kc a.1) (e3.trans e4)) qx) qf (iM R4 fun O5 v H5 e5 R5 p5=>w3 O5 v H5 (e1.trans (e2.trans (e3.trans (e4.trans e5)))) R5 p5)
end
end L3
namespace L3
open PySem L2
theorem xo {α:Type} {l:List α} {i:Nat} {x y:α} (h:(l.set i x)[i]? =some y):i<l.length:=by
 rw[List.getElem?_set] at h
 rw[if_pos rfl] at h
 split at h
 ·assumption
 ·cases h
section
variable {K:PySem.W.Frag} {E:XK} {B O O':dw} {H0 H H':Hp} {σ:St} {ρ ρ':bb} {v:V}
theorem Rl.mut {i:Nat} {ds ds':List D} {a:Addr} {vs':List V} (R:Rl K B H0 O σ H ρ) (hi:ρ[i]? =some (some (.ow ds))) (hv:σ[i]? =some (some (.ref a))) (hO:O a) (h0:H0 a=none) (hd:DVs O K H vs' ds'):
  Rl K B H0 O σ (cU H a (.lst vs')) (ρ.set i (some (.ow ds'))):=by
 have ev:Ev O H O (cU H a (.lst vs')):=Ev.mut hO _
 refine⟨fun b o e=>by rw[aK (cY e h0)];exact R.same b o e,R.bo,R.bd,fun b hb=> ?_,by rw[List.length_set];exact R.len,fun j x hx=> ?_,fun j k xs ys w hj hk hj2 hk2=> ?_⟩
 ·by_cases e:b=a
  ·rw[e,bj] at hb;cases hb
  ·rw[aK e] at hb;exact R.od b hb
 ·rcases fk hx with⟨rfl,ee⟩|⟨hne,hx⟩
  ·cases ee
   exact⟨_,hv,a,vs',rfl,hO,h0,bj,hd.ev ev⟩
  ·obtain⟨u,m1,m2⟩:=R.slot j x hx
   refine⟨u,m1,?_⟩
   cases x with
   |fz d=>exact DV.ev ev m2
   |pl i=>exact m2
   |ow xs=>
    obtain⟨b,us,rfl,n1,n2,n3,n4⟩:=m2
    have hba:b≠a:=fun z=>hne (R.one j i xs ds (.ref a) hx hi (by rw[m1,z]) hv)
    exact⟨b,us,rfl,n1,n2,by rw[aK hba];exact n3,n4.ev ev⟩
 ·have own:∀{j:Nat} {xs:List D},(ρ.set i (some (.ow ds')))[j]? =some (some (.ow xs))→∃ys,ρ[j]? =some (some (.ow ys)):=fun{j xs} h=>by
   rcases fk h with⟨rfl,_⟩|⟨_,h⟩
   ·exact⟨_,hi⟩
   ·exact⟨_,h⟩
  obtain⟨xs',hj'⟩:=own hj
  obtain⟨ys',hk'⟩:=own hk
  exact R.one j k xs' ys' w hj' hk' hj2 hk2
theorem CA {n:Nat} (h:n<1000000):n<sizeLine:=Nat.lt_of_lt_of_le h (by decide)
noncomputable def zm:Option (Option PV)→Option (List D)
 |some (some (.ow ds))=>some ds
 |_=>none
theorem wn {o:Option (Option PV)} {ds:List D} (h:zm o=some ds):o=some (some (.ow ds)):=by
 unfold zm at h
 split at h
 ·cases h;rfl
 ·cases h
noncomputable def oy (i:Nat) (fe:FE):FE:=fun ρ=>(Res.ofO (zm ρ[i]?)).bind fun _=>(fe ρ).bind fun a=>(Res.ofO (uj a.2 a.1)).bind fun b=>(Res.ofO (zm b.2[i]?)).bind fun ds=>
 if ds.length<1000000 then .ok (.fz .none,b.2.set i (some (.ow (ds++[b.1])))) else .bad
theorem n9 {i:Nat} {te:TE} {fe:FE} (he:EO K E te fe):EO K E (Hk K "list" xl (rB i) (lD te vy)) (oy i fe):=by
 intro B H0 O σ H ρ Q R w
 obtain⟨ds0,q0,w⟩:=w.ofO
 obtain⟨v,g1,a,vs,rfl,g2,g3,g4,g5⟩:=R.slot i _ (wn q0)
 refine⟨_,g1,.inl ⟨rfl,_,SqL.of g4⟩,?_⟩
 refine he B H0 O σ H ρ _ R (w.bind.imp fun b w1 O1 y H1 e1 R1 p1=> ?_)
 obtain⟨⟨d,ρ2⟩,qd,w1⟩:=w1.ofO
 obtain⟨O2,e2,R2,dv⟩:=qm R1 p1 qd
 obtain⟨ds,qo,w1⟩:=w1.ofO
 have qo:=wn qo
 obtain⟨v',k1,a',vs',e',k2,k3,k4,k5⟩:=R2.slot i _ qo
 subst e'
 rw[g1] at k1
 cases k1
 dsimp only at w1
 by_cases hl:ds.length<1000000
 ·rw[if_pos hl] at w1
  refine⟨a,vs',y,rfl,rfl,k4,CA (by rw[k5.length];exact hl),?_⟩
  exact w1 O2 .non _ (e1.trans (e2.trans (Ev.mut k2 _))) (R2.mut qo g1 k2 k3 (k5.append (.cons dv .nil))) .non
 ·rw[if_neg hl] at w1
  exact w1.elim
noncomputable abbrev FG:=PV→bb→Res bb
noncomputable abbrev EZ:=List D→bb→Res bb
noncomputable def GO (K:PySem.W.Frag) (E:XK) (g:TG) (f:FG):Prop:=
 ∀(B:dw) (H0:Hp) (O:dw) (σ:St) (H:Hp) (ρ:bb) (v:V) (pv:PV) (Q:St→Hp→Prop),Rl K B H0 O σ H ρ→PvOk K H0 O σ H ρ v pv→WR K E B H0 (fun ρ'=>∀O' σ' H',Ev O H O' H'→Rl K B H0 O' σ' H' ρ'→Q σ' H') (f pv ρ)→g v σ H Q
noncomputable def Gx (K:PySem.W.Frag) (E:XK) (g:A5) (f:EZ):Prop:=
 ∀(B:dw) (H0:Hp) (O:dw) (σ:St) (H:Hp) (ρ:bb) (vs:List V) (ds:List D) (Q:St→Hp→Prop),Rl K B H0 O σ H ρ→DVs O K H vs ds→WR K E B H0 (fun ρ'=>∀O' σ' H',Ev O H O' H'→Rl K B H0 O' σ' H' ρ'→Q σ' H') (f ds ρ)→g vs σ H Q
theorem Rl.setF {i:Nat} {d:D} (R:Rl K B H0 O σ H ρ) (h:DV O K H v d):Rl K B H0 O (σ.set i (some v)) H (ρ.set i (some (.fz d))):=by
 refine⟨R.same,R.bo,R.bd,R.od,by rw[List.length_set,List.length_set];exact R.len,fun j x hx=> ?_,fun j k xs ys w hj hk hj2 hk2=> ?_⟩
 ·rcases fk hx with⟨rfl,e⟩|⟨hne,hx⟩
  ·cases e
   have:=xo hx
   exact⟨v,by rw[List.getElem?_set,if_pos rfl,if_pos (by rw[R.len];exact this)],h⟩
  ·obtain⟨u,m1,m2⟩:=R.slot j x hx
   exact⟨u,by rw[List.getElem?_set,if_neg (fun z=>hne z.symm)];exact m1,m2⟩
 ·rcases fk hj with⟨rfl,ee⟩|⟨n1,hj⟩
  ·cases ee
  ·rcases fk hk with⟨rfl,ee⟩|⟨n2,hk⟩
   ·cases ee
   ·rw[List.getElem?_set,if_neg (fun z=>n1 z.symm)] at hj2
    rw[List.getElem?_set,if_neg (fun z=>n2 z.symm)] at hk2
    exact R.one j k xs ys w hj hk hj2 hk2
theorem Rl.setO {i:Nat} {ds:List D} (R:Rl K B H0 O σ H ρ) (h:PvOk K H0 O σ H ρ v (.ow ds)):Rl K B H0 O (σ.set i (some v)) H (ρ.set i (some (.ow ds))):=by
 obtain⟨a,vs,rfl,h1,h2,h3,h4,h5⟩:=h
 refine⟨R.same,R.bo,R.bd,R.od,by rw[List.length_set,List.length_set];exact R.len,fun j x hx=> ?_,fun j k xs ys w hj hk hj2 hk2=> ?_⟩
 ·rcases fk hx with⟨rfl,e⟩|⟨hne,hx⟩
  ·cases e
   have:=xo hx
   exact⟨.ref a,by rw[List.getElem?_set,if_pos rfl,if_pos (by rw[R.len];exact this)],a,vs,rfl,h1,h2,h3,h4⟩
  ·obtain⟨u,m1,m2⟩:=R.slot j x hx
   exact⟨u,by rw[List.getElem?_set,if_neg (fun z=>hne z.symm)];exact m1,m2⟩
 ·rcases fk hj with⟨rfl,ee⟩|⟨n1,hjj⟩
  ·rcases fk hk with⟨rfl,ee2⟩|⟨n2,hk⟩
   ·rfl
   ·rw[List.getElem?_set,if_neg (fun z=>n2 z.symm)] at hk2
    rcases fk hj2 with⟨_,e⟩|⟨z,_⟩
    ·cases e;exact absurd hk2 (h5 k ys hk)
    ·exact absurd rfl z
  ·have hj':=hjj
   rw[List.getElem?_set,if_neg (fun z=>n1 z.symm)] at hj2
   rcases fk hk with⟨rfl,ee⟩|⟨n2,hk⟩
   ·rcases fk hk2 with⟨_,e⟩|⟨z,_⟩
    ·cases e;exact absurd hj2 (h5 j xs hjj)
    ·exact absurd rfl z
   ·rw[List.getElem?_set,if_neg (fun z=>n2 z.symm)] at hk2
    exact R.one j k xs ys w hjj hk hj2 hk2
noncomputable def gN (i:Nat):FG:=fun pv ρ=>match pv with
 | .ow ds=> .ok (ρ.set i (some (.ow ds)))
 | .fz d=> .ok (ρ.set i (some (.fz d)))
 | .pl j=>(Res.ofO (uj ρ (.pl j))).bind fun b=> .ok (b.2.set i (some (.fz b.1)))
theorem aA {i:Nat}:GO K E (tD i) (gN i):=by
 intro B H0 O σ H ρ v pv Q R p w
 cases pv with
 |ow ds=>exact w O _ H .refl (R.setO p)
 |fz d=>exact w O _ H .refl (R.setF p)
 |pl j=>
  obtain⟨⟨d,ρ2⟩,q,w⟩:=WR.ofO (show WR K E B H0 _ ((Res.ofO (uj ρ (.pl j))).bind fun b=> .ok (b.2.set i (some (.fz b.1)))) from w)
  obtain⟨O2,e2,R2,dv⟩:=qm R p q
  exact w O2 _ H e2 (R2.setF dv)
noncomputable def yY:EZ:=fun ds ρ=>match ds with
 |[]=> .ok ρ
 |_=> .bad
noncomputable def nb (f:FG) (g:EZ):EZ:=fun ds ρ=>match ds with
 |[]=> .bad
 |d::r=>(f (.fz d) ρ).bind fun ρ1=>g r ρ1
theorem l6:Gx K E Fi yY:=by
 intro B H0 O σ H ρ vs ds Q R dv w
 cases dv with
 |nil=>exact⟨rfl,w O σ H .refl R⟩
 |cons _ _=>exact w.elim
theorem d4 {t:TG} {u:A5} {f:FG} {g:EZ} (h1:GO K E t f) (h2:Gx K E u g):Gx K E (CM t u) (nb f g):=by
 intro B H0 O σ H ρ vs ds Q R dv w
 cases dv with
 |nil=>exact w.elim
 |cons hd tl=>
  rename_i v vs d ds
  refine⟨_,_,rfl,h1 B H0 O σ H ρ _ (.fz d) _ R hd (WR.imp (WR.bind w) fun ρ1 w1 O1 σ1 H1 e1 R1=> ?_)⟩
  exact h2 B H0 O1 σ1 H1 ρ1 _ _ Q R1 (tl.ev e1) (w1.imp fun ρ2 q O2 σ2 H2 e2 R2=>q O2 σ2 H2 (e1.trans e2) R2)
noncomputable def HA:D→Option (List D)
 | .tuple ds=>some ds
 |_=>none
theorem AF {O:dw} {H:Hp} {x:V} {d:D} {ds:List D} (h:DX O K H x d) (e:HA d=some ds):∃a xs,x= .ref a∧SqTO O K H a xs∧DVs O K H xs ds:=by
 cases d<;>cases e
 cases h with
 |tup h hs=>exact⟨_,_,rfl,h,hs⟩
noncomputable def gT (n:Nat) (f:EZ):FG:=fun pv ρ=>(Res.ofO (kF ρ pv)).bind fun d=>(Res.ofO (HA d)).bind fun ds=>if ds.length=n then f ds ρ else .bad
theorem mo {n:Nat} {t:A5} {f:EZ} (h:Gx K E t f):GO K E (Gw K n t) (gT n f):=by
 intro B H0 O σ H ρ v pv Q R p w
 obtain⟨d,qd,w⟩:=w.ofO
 obtain⟨ds,qs,w⟩:=w.ofO
 obtain⟨a,xs,rfl,hq,hx⟩:=AF (ip R p qd) qs
 by_cases hn:ds.length=n
 ·rw[if_pos hn] at w
  exact⟨a,xs,rfl,hq.1,hx.length.trans hn,h B H0 O σ H ρ xs ds Q R hx w⟩
 ·rw[if_neg hn] at w
  exact w.elim
inductive Fl where
 |nx (ρ:bb)
 |rt (rv:RV)
 |bk (ρ:bb)
 |ct (ρ:bb)
noncomputable abbrev FS:=bb→Res Fl
noncomputable def FlOk (K:PySem.W.Frag) (B:dw) (H0:Hp) (O:dw) (H:Hp) (D:Ends):Fl→Prop
 | .nx ρ'=>∀O' σ' H',Ev O H O' H'→Rl K B H0 O' σ' H' ρ'→D.nx σ' H'
 | .bk ρ'=>∀O' σ' H',Ev O H O' H'→Rl K B H0 O' σ' H' ρ'→D.bk σ' H'
 | .ct ρ'=>∀O' σ' H',Ev O H O' H'→Rl K B H0 O' σ' H' ρ'→D.ct σ' H'
 | .rt rv=>Fin B K H0 D.rt rv
noncomputable def SO (K:PySem.W.Frag) (E:XK) (t:TS) (g:FS):Prop:=
 ∀(B:dw) (H0:Hp) (O:dw) (σ:St) (H:Hp) (ρ:bb) (D:Ends),Rl K B H0 O σ H ρ→WR K E B H0 (FlOk K B H0 O H D) (g ρ)→t D σ H
theorem FlOk.ev {D:Ends} {fl:Fl} {O1:dw} {H1:Hp} (e:Ev O H O1 H1) (h:FlOk K B H0 O H D fl):FlOk K B H0 O1 H1 D fl:=by
 cases fl with
 |nx ρ'=>exact fun O' σ' H' e' R'=>h O' σ' H' (e.trans e') R'
 |bk ρ'=>exact fun O' σ' H' e' R'=>h O' σ' H' (e.trans e') R'
 |ct ρ'=>exact fun O' σ' H' e' R'=>h O' σ' H' (e.trans e') R'
 |rt rv=>exact h
noncomputable def bv:FS:=fun ρ=> .ok (.nx ρ)
noncomputable def aO (f g:FS):FS:=fun ρ=>(f ρ).bind fun fl=>match fl with
 | .nx ρ1=>g ρ1
 |fl=> .ok fl
noncomputable def gi (f:FE):FS:=fun ρ=>(f ρ).bind fun a=> .ok (.nx a.2)
noncomputable def bq (f:FE) (g:FG):FS:=fun ρ=>(f ρ).bind fun a=>(g a.1 a.2).bind fun ρ1=> .ok (.nx ρ1)
noncomputable def et (c:FT) (f g:FS):FS:=fun ρ=>(c ρ).bind fun a=>if a.1=true then f a.2 else g a.2
noncomputable def xw (ρ:bb):PV→Option RV
 | .fz d=>some (.fz d)
 | .ow ds=>some (.ow ds)
 | .pl i=>match ρ[i]? with
  |some (some (.fz d))=>some (.fz d)
  |some (some (.ow ds))=>some (.ow ds)
  |_=>none
noncomputable def ce (f:FE):FS:=fun ρ=>(f ρ).bind fun a=>(Res.ofO (xw a.2 a.1)).bind fun rv=> .ok (.rt rv)
theorem bg:SO K E zy bv:=fun B H0 O σ H ρ D R w=>w O σ H .refl R
theorem aH {t u:TS} {f g:FS} (h1:SO K E t f) (h2:SO K E u g):SO K E (D9 t u) (aO f g):=by
 intro B H0 O σ H ρ D R w
 refine h1 B H0 O σ H ρ {D with nx:=u D} R (WR.imp (WR.bind w) fun fl w1=> ?_)
 cases fl with
 |nx ρ1=>exact fun O1 σ1 H1 e1 R1=>h2 B H0 O1 σ1 H1 ρ1 D R1 (WR.imp w1 fun fl q=>q.ev e1)
 |rt rv=>exact w1
 |bk ρ1=>exact w1
 |ct ρ1=>exact w1
theorem iH {t:TE} {f:FE} (h:EO K E t f):SO K E (zc t) (gi f):=by
 intro B H0 O σ H ρ D R w
 exact h B H0 O σ H ρ _ R (w.bind.imp fun a w1 O1 x H1 e1 R1 p1=>w1 O1 σ H1 e1 R1)
theorem aZ {t:TE} {f:FE} {g:TG} {fg:FG} (h:EO K E t f) (hg:GO K E g fg):SO K E (zo t g) (bq f fg):=by
 intro B H0 O σ H ρ D R w
 refine h B H0 O σ H ρ _ R (w.bind.imp fun a w1 O1 x H1 e1 R1 p1=> ?_)
 exact hg B H0 O1 σ H1 a.2 x a.1 _ R1 p1 (w1.bind.imp fun ρ1 w2 O2 σ2 H2 e2 R2=>w2 O2 σ2 H2 (e1.trans e2) R2)
theorem bX {c:TT} {fc:FT} {t u:TS} {f g:FS} (hc:TTO K E c fc) (h1:SO K E t f) (h2:SO K E u g):SO K E (D1 c t u) (et fc f g):=by
 intro B H0 O σ H ρ D R w
 refine hc B H0 O σ H ρ _ R (w.bind.imp fun a w1 O1 H1 e1 R1=> ?_)
 obtain⟨b,ρ1⟩:=a
 cases b with
 |true=>exact h1 B H0 O1 σ H1 ρ1 D R1 (WR.imp w1 fun fl q=>q.ev e1)
 |false=>exact h2 B H0 O1 σ H1 ρ1 D R1 (WR.imp w1 fun fl q=>q.ev e1)
theorem EX {Q:VK} {pv:PV} {rv:RV} (R:Rl K B H0 O σ H ρ) (p:PvOk K H0 O σ H ρ v pv) (e:xw ρ pv=some rv) (w:Fin B K H0 Q rv):Q v H:=by
 have ow:∀{a:Addr} {vs:List V} {ds:List D},O a→H0 a=none→H a=some (.lst vs)→DVs O K H vs ds→Fin B K H0 Q (.ow ds)→Q (.ref a) H:=fun{a vs ds} h1 h2 h3 h4 w=>
  w a vs H R.same h2 h3 (h4.ev (Ev.sub fun b z=>z.elim (R.bo b) fun e=>by rw[e];exact h1))
 have fz:∀{d:D},DV O K H v d→Fin B K H0 Q (.fz d)→Q v H:=fun{d} h w=>w v H R.same (h.ev (Ev.sub R.bo))
 cases pv with
 |fz d=>cases e;exact fz p w
 |ow ds=>
  cases e
  obtain⟨a,vs,rfl,h1,h2,h3,h4,h5⟩:=p
  exact ow h1 h2 h3 h4 w
 |pl i=>
  have p':σ[i]? =some (some v):=p
  unfold xw at e
  dsimp only at e
  cases q:ρ[i]? with
  |none=>rw[q] at e;cases e
  |some o=>
   cases o with
   |none=>rw[q] at e;cases e
   |some x=>
    obtain⟨u,g1,g2⟩:=R.slot i x q
    rw[p'] at g1
    cases g1
    rw[q] at e
    cases x with
    |fz d=>cases e;exact fz g2 w
    |ow ds=>
     cases e
     obtain⟨a,vs,rfl,h1,h2,h3,h4⟩:=g2
     exact ow h1 h2 h3 h4 w
    |pl j=>exact g2.elim
theorem bA {t:TE} {f:FE} (h:EO K E t f):SO K E (Dn t) (ce f):=by
 intro B H0 O σ H ρ D R w
 refine h B H0 O σ H ρ _ R (w.bind.imp fun a w1 O1 x H1 e1 R1 p1=> ?_)
 obtain⟨rv,q,w1⟩:=w1.ofO
 exact EX R1 p1 q w1
noncomputable def vN (K:PySem.W.Frag) (J:It) (O:dw) (H:Hp) (ds:List D):Prop:=∀O' H',Ev O H O' H'→mQ O' H'→
 (∀i,i<ds.length→J.go i H'∧∀x H'',J.yld i H' x H''→Same H' H''∧∃d,ds[i]? =some d∧DV O' K H'' x d)∧J.stop ds.length H'
noncomputable abbrev FI:=bb→Res (List D×bb)
noncomputable def IO (K:PySem.W.Frag) (E:XK) (wi:TI) (fi:FI):Prop:=
 ∀(B:dw) (H0:Hp) (O:dw) (σ:St) (H:Hp) (ρ:bb) (R':It→Hp→Prop),Rl K B H0 O σ H ρ→WR K E B H0 (fun r=>∀O' J H',Ev O H O' H'→Rl K B H0 O' σ H' r.2→vN K J O' H' r.1→R' J H') (fi ρ)→wi σ H R'
noncomputable def oW (gt:FG) (b:FS):List D→FS
 |[],ρ=> .ok (.nx ρ)
 |d::r,ρ=>(gt (.fz d) ρ).bind fun ρ1=>(b ρ1).bind fun fl=>match fl with
  | .nx ρ2=>oW gt b r ρ2
  | .ct ρ2=>oW gt b r ρ2
  | .bk ρ2=> .ok (.nx ρ2)
  | .rt rv=> .ok (.rt rv)
noncomputable def iU (fi:FI) (gt:FG) (b:FS):FS:=fun ρ=>(fi ρ).bind fun a=>oW gt b a.1 a.2
theorem gK {wi:TI} {fi:FI} {g:TG} {gt:FG} {tb:TS} {b:FS} (hi:IO K E wi fi) (hg:GO K E g gt) (hb:SO K E tb b):SO K E (FY wi g tb) (iU fi gt b):=by
 intro B H0 O σ H ρ D R w
 refine hi B H0 O σ H ρ _ R (w.bind.imp fun a w1 O1 J H1 e1 R1 it=> ?_)
 obtain⟨ds,ρ1⟩:=a
 dsimp only at w1 it R1
 refine⟨fun i m σ' H'=>m=ds.length - i∧i≤ds.length∧∃O2 ρ2,Ev O1 H1 O2 H'∧Rl K B H0 O2 σ' H' ρ2∧WR K E B H0 (FlOk K B H0 O H D) (oW gt b (ds.drop i) ρ2),⟨_,rfl,Nat.zero_le _,O1,ρ1,.refl,R1,w1⟩,?_⟩
 rintro i m σ2 H2 ⟨rfl,hi,O2,ρ2,e2,R2,w2⟩
 obtain⟨go,stop⟩:=it O2 H2 e2 R2.od
 by_cases hlt:i<ds.length
 ·obtain⟨g1,g2⟩:=go i hlt
  refine .inr ⟨g1,fun σ' H'=>i+1≤ds.length∧∃O2 ρ2,Ev O1 H1 O2 H'∧Rl K B H0 O2 σ' H' ρ2∧WR K E B H0 (FlOk K B H0 O H D) (oW gt b (ds.drop (i+1)) ρ2),fun σ' H' ⟨h1,h2⟩=>⟨ds.length - (i+1),by omega,rfl,h1,h2⟩,fun x H3 y=> ?_⟩
  obtain⟨s3,d,hd,dv⟩:=g2 x H3 y
  have ed:ds.drop i=d::ds.drop (i+1):=by
   obtain⟨_,q⟩:=List.getElem?_eq_some_iff.mp hd
   rw[List.drop_eq_getElem_cons hlt,q]
  rw[ed] at w2
  have e3:Ev O2 H2 O2 H3:=Ev.grow s3
  refine hg B H0 O2 σ2 H3 ρ2 x (.fz d) _ (R2.grow s3) dv (WR.imp (WR.bind w2) fun ρ3 w3 O4 σ4 H4 e4 R4=> ?_)
  have e4':Ev O1 H1 O4 H4:=e2.trans (e3.trans e4)
  refine hb B H0 O4 σ4 H4 ρ3 _ R4 (WR.imp (WR.bind w3) fun fl w4=> ?_)
  cases fl with
  |nx ρ5=>exact fun O5 σ5 H5 e5 R5=>⟨hlt,O5,ρ5,e4'.trans e5,R5,w4⟩
  |ct ρ5=>exact fun O5 σ5 H5 e5 R5=>⟨hlt,O5,ρ5,e4'.trans e5,R5,w4⟩
  |bk ρ5=>exact fun O5 σ5 H5 e5 R5=>w4 O5 σ5 H5 (e1.trans (e4'.trans e5)) R5
  |rt rv=>exact w4
 ·have e:i=ds.length:=by omega
  subst e
  rw[List.drop_eq_nil_of_le (Nat.le_refl _)] at w2
  exact .inl ⟨stop,w2 O2 σ2 H2 (e1.trans e2) R2⟩
noncomputable def gj:D→Option (List D)
 | .tuple ds=>some ds
 | .list ds=>some ds
 |_=>none
noncomputable def zb (K:PySem.W.Frag) (tl:TE):TI:=fun σ H R=>tl σ H fun x H1=>∃a,x= .ref a∧(((∃xs,SqL K H1 a xs)∧R (GQ K a) H1)∨((∃xs,SqT K H1 a xs)∧R (Hl K a) H1))
theorem hV {X:Cx} {tg l:Expr} {tl:TE} (hl:PE X l tl):PI X tg l (zb X.K tl):=by
 intro pins s σ H R I h
 refine eJ (hl pins s σ H _ I h) fun v s1 ⟨x,H1,I1,r1,q1⟩=> ?_
 obtain⟨a,e,q⟩:=q1
 subst e
 cases r1
 rcases q with⟨⟨xs,hq⟩,q⟩|⟨⟨xs,hq⟩,q⟩
 ·obtain⟨its,rv,p,hz⟩:=I1.list hq
  refine PySem.wpAny_pyIter_list p.isList ?_
  refine⟨s1.heap.objs.size,[s1.heap.objs.size],_,_,H1,rfl,I1.kept (t':=s1.toks) fun b o e=>Heap.get?_push_of_some _ e,xM a _,⟨_,Heap.get?_push_size _ rfl,rfl,rfl⟩,fun b hb=> ?_,q⟩
  have e:b=s1.heap.objs.size:=by simpa using hb
  subst e
  exact I1.fpOk (Nat.le_refl _) (I1.hok.fresh (Nat.le_refl _))
 ·obtain⟨its,rv,p,hz⟩:=I1.tuple hq
  refine PySem.wpAny_pyIter_tuple (show s1.heap.IsTuple a its.toArray from p) ?_
  refine⟨s1.heap.objs.size,[s1.heap.objs.size],_,_,H1,rfl,I1.kept (t':=s1.toks) fun b o e=>Heap.get?_push_of_some _ e,uN a _,⟨_,Heap.get?_push_size _ rfl,rfl,rfl⟩,fun b hb=> ?_,q⟩
  have e:b=s1.heap.objs.size:=by simpa using hb
  subst e
  exact I1.fpOk (Nat.le_refl _) (I1.hok.fresh (Nat.le_refl _))
theorem BJ {a:Addr} {xs:List V} {ds:List D} (h:SqLO O K H a xs) (hd:DVs O K H xs ds):vN K (GQ K a) O H ds:=by
 intro O' H' e n
 have h':=h.ev e
 have hd':=hd.ev e
 refine⟨fun i hi=> ?_,⟨xs,h'.1.sq,by rw[hd.length];exact Nat.le_refl _⟩⟩
 obtain⟨x,hx,_⟩:=hd'.get (List.getElem?_eq_getElem hi)
 refine⟨⟨xs,x,h'.1.sq,hx⟩,?_⟩
 rintro y H'' ⟨rfl,hy⟩
 obtain⟨d,q1,q2⟩:=hd'.getV (hy xs h'.1.sq)
 exact⟨Same.refl _,d,q1,q2⟩
theorem Es {a:Addr} {xs:List V} {ds:List D} (h:SqTO O K H a xs) (hd:DVs O K H xs ds):vN K (Hl K a) O H ds:=by
 intro O' H' e n
 have h':=h.ev e
 have hd':=hd.ev e
 refine⟨fun i hi=> ?_,⟨xs,h'.1,by rw[hd.length];exact Nat.le_refl _⟩⟩
 obtain⟨x,hx,_⟩:=hd'.get (List.getElem?_eq_getElem hi)
 refine⟨⟨xs,x,h'.1,hx⟩,?_⟩
 rintro y H'' ⟨rfl,hy⟩
 obtain⟨d,q1,q2⟩:=hd'.getV (hy xs h'.1)
 exact⟨Same.refl _,d,q1,q2⟩
noncomputable def nw (fe:FE):FI:=fun ρ=>(fe ρ).bind fun a=>(Res.ofO (uj a.2 a.1)).bind fun b=>(Res.ofO (gj b.1)).bind fun ds=> .ok (ds,b.2)
theorem mv {tl:TE} {fe:FE} (h:EO K E tl fe):IO K E (zb K tl) (nw fe):=by
 intro B H0 O σ H ρ R' R w
 refine h B H0 O σ H ρ _ R (w.bind.imp fun a w1 O1 x H1 e1 R1 p1=> ?_)
 obtain⟨⟨d,ρ2⟩,q,w1⟩:=w1.ofO
 obtain⟨O2,e2,R2,dv⟩:=qm R1 p1 q
 obtain⟨ds,qs,w1⟩:=w1.ofO
 dsimp only at qs
 cases dv with
 |tup h hs=>cases qs;exact⟨_,rfl,.inr ⟨⟨_,h.1⟩,w1 O2 _ H1 (e1.trans e2) R2 (Es h hs)⟩⟩
 |lst h hs=>cases qs;exact⟨_,rfl,.inl ⟨⟨_,h.1.sq⟩,w1 O2 _ H1 (e1.trans e2) R2 (BJ h hs)⟩⟩
 |_=>cases qs
noncomputable def g6 (lo:Int) (n:Nat):List D:=(List.range n).map fun(k:Nat)=> .int (lo+(k:Int))
theorem AI {lo:Int} {n:Nat}:vN K (GN lo n) O H (g6 lo n):=by
 intro O' H' e nn
 have hl:(g6 lo n).length=n:=by unfold g6;rw[List.length_map,List.length_range]
 refine⟨fun i hi=> ?_,by show n≤_;rw[hl];exact Nat.le_refl _⟩
 rw[hl] at hi
 refine⟨hi,?_⟩
 rintro x H'' ⟨rfl,rfl⟩
 exact⟨Same.refl _,.int (lo+i),by unfold g6;rw[List.getElem?_map,List.getElem?_range hi];rfl,.int _⟩
noncomputable def jx (i:Int):Prop:= -(2^62)≤i∧i<2^62
instance (i:Int):Decidable (jx i):=by unfold jx;infer_instance
noncomputable def fK:List D→Option (List D)
 |[.int j]=>if jx j then some (g6 0 j.toNat) else none
 |_=>none
noncomputable def ia (f:List D→Option (List D)) (fa:FA):FI:=fun ρ=>(fa ρ).bind fun a=>(Res.ofO (jW a.2 a.1)).bind fun ds=>(Res.ofO (f ds)).bind fun xs=> .ok (xs,a.2)
theorem d6 {ta:TA} {fa:FA} (h:AO K E ta fa):IO K E (Dc ta) (ia fK fa):=by
 intro B H0 O σ H ρ R' R w
 refine h B H0 O σ H ρ _ R (w.bind.imp fun a w1 O1 vs H1 e1 R1 p1=> ?_)
 obtain⟨ds,q,w1⟩:=w1.ofO
 obtain⟨xs,qx,w1⟩:=w1.ofO
 have px:=oa R1 p1 q
 unfold fK at qx
 split at qx
 ·rename_i j
  split at qx
  ·rename_i hj
   cases qx
   cases px with
   |cons h1 h2=>
    cases h2
    cases h1
    exact⟨j,rfl,hj.1,hj.2,w1 O1 _ H1 e1 R1 AI⟩
  ·cases qx
 ·cases qx
end
end L3
namespace L3
open PySem L2
section
variable {K:PySem.W.Frag} {E:XK} {B O O':dw} {H0 H H':Hp} {σ:St} {ρ ρ':bb} {v:V}
noncomputable def qr:Option PV→Option PV
 |some (.fz d)=>some (.fz d)
 |_=>none
noncomputable def dm (ρ:bb):bb:=ρ.map qr
theorem u7 {i:Nat} {x:PV} (h:(dm ρ)[i]? =some (some x)):∃d,x= .fz d∧ρ[i]? =some (some (.fz d)):=by
 unfold dm at h
 rw[List.getElem?_map] at h
 cases q:ρ[i]? with
 |none=>rw[q] at h;cases h
 |some o=>
  rw[q] at h
  have h':qr o=some x:=Option.some.inj h
  unfold qr at h'
  split at h'
  ·cases h';exact⟨_,rfl,rfl⟩
  ·cases h'
noncomputable def pY (ρ:bb):List Nat→Option (List D×bb)
 |[]=>some ([],ρ)
 |j::r=>match uj ρ (.pl j) with
  |some (d,ρ1)=>(match pY ρ1 r with
   |some (c,ρ2)=>some (d::c,ρ2)
   |none=>none)
  |none=>none
theorem xY {i:Nat} {d:D} {ρ':bb} (R:Rl K B H0 O σ H ρ) (h:uj ρ (.pl i)=some (d,ρ')):∃v,σ[i]? =some (some v):=by
 have e':toS ρ i ρ[i]? =some (d,ρ'):=h
 cases q:ρ[i]? with
 |none=>rw[q] at e';cases e'
 |some o=>
  cases o with
  |none=>rw[q] at e';cases e'
  |some x=>obtain⟨v,g1,_⟩:=R.slot i x q;exact⟨v,g1⟩
theorem tG:∀{fv:List Nat} {ds:List D} {O:dw} {ρ ρ':bb},Rl K B H0 O σ H ρ→pY ρ fv=some (ds,ρ')→∃O' vs,Ev O H O' H∧Rl K B H0 O' σ H ρ'∧DVs O' K H vs ds∧fv.map (fun j=>(σ[j]?).join)=vs.map some
 |[],_,O,_,_,R,e=>by cases e;exact⟨O,[],.refl,R,.nil,rfl⟩
 |j::r,_,O,ρ,ρ',R,e=>by
  unfold pY at e
  cases q:uj ρ (.pl j) with
  |none=>rw[q] at e;cases e
  |some p=>
   obtain⟨d,ρ1⟩:=p
   rw[q] at e
   dsimp only at e
   cases q2:pY ρ1 r with
   |none=>rw[q2] at e;cases e
   |some p2=>
    obtain⟨c,ρ2⟩:=p2
    rw[q2] at e
    cases e
    obtain⟨v,hv⟩:=xY R q
    obtain⟨O1,e1,R1,d1⟩:=qm (v:=v) (pv:= .pl j) R hv q
    obtain⟨O2,vs,e2,R2,d2,h2⟩:=tG R1 q2
    exact⟨O2,v::vs,e1.trans e2,R2,.cons (d1.ev e2) d2,by rw[List.map_cons,List.map_cons,h2,hv];rfl⟩
noncomputable def dW (gt:FG) (ft:FT) (fe:FE):List D→bb→List D→Res (List D)
 |[],_,acc=> .ok acc
 |d::r,ρ,acc=>(gt (.fz d) ρ).bind fun ρ1=>(ft ρ1).bind fun b=>if b.1=true then(fe b.2).bind fun a=>(Res.ofO (uj a.2 a.1)).bind fun x=>
   if acc.length<1000000 then dW gt ft fe r (dm x.2) (acc++[x.1]) else .bad
  else dW gt ft fe r (dm b.2) acc
noncomputable def jb {α:Type}:Res α→Res α
 | .er _=> .bad
 |r=>r
noncomputable def eF (n:Nat) (fv:List Nat) (fi:FI) (gt:FG) (ft:FT) (fe:FE):FE:=fun ρ=>(fi ρ).bind fun a=>(Res.ofO (pY a.2 fv)).bind fun c=>
 (jb (dW gt ft fe a.1 (List.replicate n none++c.1.map fun d=>some (.fz d)) [])).bind fun xs=> .ok (.ow xs,c.2)
theorem BU {n:Nat} {own:List Str} (h:own.length=n):own.map (fun _=>(none:Option V))=List.replicate n none:=by
 subst h
 induction own with
 |nil=>rfl
 |cons x r ih=>rw[List.map_cons,ih,List.length_cons,List.replicate_succ]
theorem v7 {α:Type} {r:Res α} {P:α→Prop} (h:WR K E B H0 P (jb r)):∃a,r= .ok a∧P a:=by
 cases r with
 |ok a=>exact⟨a,rfl,h⟩
 |er x=>exact h.elim
 |bad=>exact h.elim
noncomputable def FX (K:PySem.W.Frag) (J:It) (O:dw) (H:Hp) (ds:List D):Prop:=∀O' H',Ev O H O' H'→Same H H'→mQ O' H'→
 (∀i,i<ds.length→J.go i H'∧∀x H'',J.yld i H' x H''→Same H' H''∧∃d,ds[i]? =some d∧DV O' K H'' x d)∧J.stop ds.length H'
noncomputable def G8 (K:PySem.W.Frag) (E:XK) (wi:TI) (fi:FI):Prop:=
 ∀(B:dw) (H0:Hp) (O:dw) (σ:St) (H:Hp) (ρ:bb) (R':It→Hp→Prop),Rl K B H0 O σ H ρ→WR K E B H0 (fun r=>∀O' J H',Ev O H O' H'→Rl K B H0 O' σ H' r.2→FX K J O' H' r.1→R' J H') (fi ρ)→wi σ H R'
theorem IO.s {wi:TI} {fi:FI} (h:IO K E wi fi):G8 K E wi fi:=fun B H0 O σ H ρ R' R w=>h B H0 O σ H ρ R' R (w.imp fun r q O' J H' e R it=>q O' J H' e R fun O2 H2 e2 _ n=>it O2 H2 e2 n)
theorem io {own:List Str} {fv:List (Str×Nat)} {wi:TI} {g:TG} {tc:TT} {te:TE} {fi:FI} {gt:FG} {ft:FT} {fe:FE} {n:Nat} {fj:List Nat} (hn:own.length=n) (hf:fv.map (·.2)=fj)
  (hi:G8 K E wi fi) (hg:GO K E0 g gt) (ht:TTO K E0 tc ft) (he:EO K E0 te fe):EO K E (v8 own fv wi g tc te) (eF n fj fi gt ft fe):=by
 intro B H0 O σ H ρ Q R w
 refine hi B H0 O σ H ρ _ R (w.bind.imp fun a w1 O1 J H1 e1 R1 it=> ?_)
 obtain⟨ds,ρ1⟩:=a
 obtain⟨⟨cs,ρ2⟩,qc,w1⟩:=w1.ofO
 dsimp only at qc it
 obtain⟨O2,vs,e2,R2,dvs,hvs⟩:=tG R1 qc
 obtain⟨xs,qx,w1⟩:=v7 (WR.bind w1)
 intro Dd hDd
 have hB:∀{H':Hp},Same H1 H'→H' Dd≠none→∀a,iQ O2 Dd a→H' a≠none:=fun{H'} s nd a h z=>h.elim (fun q=>R2.od a (s.free z) q) fun e=>nd (by rw[←e];exact z)
 refine⟨fun i m σ' H'=>m=ds.length - i∧i≤ds.length∧∃(acc:List D) (ys:List V) (ρc:bb),Same H1 H'∧H' Dd=some (.lst ys)∧DVs (iQ O2 Dd) K H' ys acc∧σ'.length=ρc.length∧(∀(j:Nat) (x:PV),ρc[j]? =some (some x)→∃d u,x=PV.fz d∧σ'[j]? =some (some u)∧DV (iQ O2 Dd) K H' u d)∧dW gt ft fe (ds.drop i) ρc acc= .ok xs,
  ⟨_,rfl,Nat.zero_le _,[],[],_,b9 hDd _,bj,.nil,?_,fun j x hx=> ?_,qx⟩,?_⟩
 ·unfold l7
  rw[List.length_append,List.length_append,List.length_map,List.length_map,List.length_replicate,List.length_map,hn,←dvs.length]
  have:=congrArg List.length hvs
  rw[List.length_map,List.length_map,←hf,List.length_map] at this
  omega
 ·have hm:fv.map (fun p=>(σ[p.2]?).join)=vs.map some:=by rw[←hvs,←hf,List.map_map];rfl
  unfold l7
  rw[BU hn,hm]
  by_cases hj:j<n
  ·rw[List.getElem?_append_left (by rw[List.length_replicate];exact hj),List.getElem?_replicate,if_pos hj] at hx
   cases hx
  ·rw[List.getElem?_append_right (by rw[List.length_replicate];omega),List.length_replicate,List.getElem?_map] at hx⊢
   cases qd:cs[j - n]? with
   |none=>rw[qd] at hx;cases hx
   |some d=>
    rw[qd] at hx
    cases hx
    obtain⟨u,hu,du⟩:=dvs.get qd
    exact⟨d,u,rfl,by rw[hu];rfl,du.ev (Ev.add (b9 hDd _) hDd)⟩
 ·rintro i m σ' H' ⟨rfl,hi,acc,ys,ρc,s,hD,dys,hl,hsl,qP⟩
  have nD:H' Dd≠none:=by rw[hD];simp
  have no':mQ (iQ O2 Dd) H':=fun a z h=>hB s nD a h z
  have ev1:Ev O1 H1 (iQ O2 Dd) H':=e2.trans (Ev.add s hDd)
  obtain⟨go,stop⟩:=it (iQ O2 Dd) H' ev1 s no'
  by_cases hlt:i<ds.length
  ·obtain⟨g1,g2⟩:=go i hlt
   refine .inr ⟨g1,fun σ5 H5=>i+1≤ds.length∧∃(acc:List D) (ys:List V) (ρc:bb),Same H1 H5∧H5 Dd=some (.lst ys)∧DVs (iQ O2 Dd) K H5 ys acc∧σ5.length=ρc.length∧(∀(j:Nat) (x:PV),ρc[j]? =some (some x)→∃d u,x=PV.fz d∧σ5[j]? =some (some u)∧DV (iQ O2 Dd) K H5 u d)∧dW gt ft fe (ds.drop (i+1)) ρc acc= .ok xs,
    fun σ5 H5 ⟨h1,h2⟩=>⟨ds.length - (i+1),by omega,rfl,h1,h2⟩,fun x H3 y=> ?_⟩
   obtain⟨s3,d,hd,dv⟩:=g2 x H3 y
   have ed:ds.drop i=d::ds.drop (i+1):=by
    obtain⟨_,q⟩:=List.getElem?_eq_some_iff.mp hd
    rw[List.drop_eq_getElem_cons hlt,q]
   rw[ed] at qP
   have hD3:H3 Dd=some (.lst ys):=s3 _ _ hD
   have nD3:H3 Dd≠none:=by rw[hD3];simp
   have sv:Same H1 H3:=s.trans s3
   have RC:Rl K (iQ O2 Dd) H3 (iQ O2 Dd) σ' H3 ρc:=⟨Same.refl _,fun _ h=>h,hB sv nD3,fun a z h=>hB sv nD3 a h z,hl,fun j x hx=>by
     obtain⟨d,u,rfl,h1,h2⟩:=hsl j x hx
     exact⟨u,h1,h2.ev (Ev.grow s3)⟩,fun j k xs ys w hj=>by obtain⟨d,u,e,_⟩:=hsl j _ hj;cases e⟩
   unfold dW at qP
   have back:∀{O5:dw} {σ5:St} {H5:Hp} {ρ5:bb} {H6:Hp},Rl K (iQ O2 Dd) H3 O5 σ5 H5 ρ5→(∀b o,b≠Dd→H5 b=some o→H6 b=some o)→σ5.length=(dm ρ5).length∧∀(j:Nat) (x:PV),(dm ρ5)[j]? =some (some x)→∃d u,x=PV.fz d∧σ5[j]? =some (some u)∧DV (iQ O2 Dd) K H6 u d:=fun{O5 σ5 H5 ρ5 H6} R5 k=>by
    refine⟨by unfold dm;rw[List.length_map];exact R5.len,fun j x hx=> ?_⟩
    obtain⟨d,rfl,hxx⟩:=u7 hx
    obtain⟨u,h1,h2⟩:=R5.slot j _ hxx
    refine⟨d,u,rfl,h1,DV.ev (O:=iQ O2 Dd) (H:=H5) (fun b o h n=>⟨k b o (fun e=>n (.inr e)) h,n⟩) (DV.ev (Ev.sub R5.bo) h2)⟩
   refine hg _ _ _ σ' H3 ρc x (.fz d) _ RC dv ?_
   cases qg:gt (.fz d) ρc with
   |er z=>rw[qg] at qP;cases qP
   |bad=>rw[qg] at qP;cases qP
   |ok ρ3=>
    rw[qg,Res.bind_ok] at qP
    intro O4 σ4 H4 e4 R4
    refine ht _ _ _ σ4 H4 ρ3 _ R4 ?_
    cases qt:ft ρ3 with
    |er z=>rw[qt] at qP;cases qP
    |bad=>rw[qt] at qP;cases qP
    |ok b=>
     obtain⟨b,ρ4⟩:=b
     rw[qt,Res.bind_ok] at qP
     intro O5 H5 e5 R5
     cases b with
     |false=>
      rw[if_neg Bool.false_ne_true] at qP⊢
      obtain⟨l5,k5⟩:=back R5 (H6:=H5) fun b o _ h=>h
      refine⟨hlt,acc,ys,dm ρ4,sv.trans R5.same,R5.same _ _ hD3,?_,l5,k5,qP⟩
      exact dys.ev (Ev.grow (s3.trans R5.same))
     |true=>
      rw[if_pos rfl] at qP⊢
      refine he _ _ _ σ4 H5 ρ4 _ R5 ?_
      cases qe:fe ρ4 with
      |er z=>rw[qe] at qP;cases qP
      |bad=>rw[qe] at qP;cases qP
      |ok r=>
       rw[qe,Res.bind_ok] at qP
       intro O6 yv H6 e6 R6 p6
       cases q7:uj r.2 r.1 with
       |none=>rw[q7] at qP;cases qP
       |some xr=>
        obtain⟨xd,ρ7⟩:=xr
        rw[q7] at qP
        obtain⟨O7,e7,R7,dv7⟩:=qm R6 p6 q7
        have hD7:H6 Dd=some (.lst ys):=R7.same _ _ hD3
        have qP':(if acc.length<1000000 then dW gt ft fe (ds.drop (i+1)) (dm ρ7) (acc++[xd]) else .bad)= .ok xs:=qP
        by_cases hl6:acc.length<1000000
        ·rw[if_pos hl6] at qP'
         have up:∀b o,b≠Dd→H6 b=some o→cU H6 Dd (.lst (ys++[yv])) b=some o:=fun b o hb h=>by rw[aK hb];exact h
         have evD:Ev (iQ O2 Dd) H6 (iQ O2 Dd) (cU H6 Dd (.lst (ys++[yv]))):=fun b o h n=>⟨up b o (fun e=>n (.inr e)) h,n⟩
         have dys6:DVs (iQ O2 Dd) K H6 ys acc:=dys.ev (Ev.grow (s3.trans R7.same))
         obtain⟨l5,k5⟩:=back R7 up
         refine⟨ys,hD7,CA (by rw[dys.length];exact hl6),hlt,acc++[xd],ys++[yv],dm ρ7,fun b o h=> ?_,bj,?_,l5,k5,qP'⟩
         ·rw[aK (cY h hDd)]
          exact R7.same _ _ (sv _ _ h)
         ·exact(dys6.append (.cons (DV.ev (Ev.sub R7.bo) dv7) .nil)).ev evD
        ·rw[if_neg hl6] at qP'
         cases qP'
  ·have e:i=ds.length:=by omega
   subst e
   rw[List.drop_eq_nil_of_le (Nat.le_refl _)] at qP
   have qP:Res.ok acc= .ok xs:=qP
   cases qP
   refine .inl ⟨stop,?_⟩
   refine w1 (iQ O2 Dd) (.ref Dd) H' (e1.trans ev1) (R2.add s hDd nD) ⟨Dd,ys,rfl,.inr rfl,R2.none0 hDd,hD,dys,fun k es hk z=> ?_⟩
   obtain⟨u,h1,b,us,e2,g1,g2,g3,g4⟩:=R2.slot k _ hk
   rw[z] at h1
   cases h1
   cases e2
   rw[hDd] at g3
   cases g3
theorem gr {own:List Str} {fv:List (Str×Nat)} {wi:TI} {g:TG} {tc:TT} {te:TE} {fi:FI} {gt:FG} {ft:FT} {fe:FE} {n:Nat} {fj:List Nat} (hn:own.length=n) (hf:fv.map (·.2)=fj)
  (hi:IO K E wi fi) (hg:GO K E0 g gt) (ht:TTO K E0 tc ft) (he:EO K E0 te fe):EO K E (v8 own fv wi g tc te) (eF n fj fi gt ft fe):=io hn hf hi.s hg ht he
noncomputable def Dk (ρ:bb):Option (Option PV)→Res (List D×bb)
 |some (some (.ow ds))=> .ok (ds,ρ)
 |_=> .bad
noncomputable def jM (i:Nat):FI:=fun ρ=>Dk ρ ρ[i]?
theorem iZ {i:Nat}:G8 K E (zb K (rB i)) (jM i):=by
 intro B H0 O σ H ρ R' R w
 unfold jM at w
 cases q:ρ[i]? with
 |none=>rw[q] at w;exact w.elim
 |some o=>
  cases o with
  |none=>rw[q] at w;exact w.elim
  |some x=>
   cases x with
   |fz d=>rw[q] at w;exact w.elim
   |pl j=>rw[q] at w;exact w.elim
   |ow ds=>
    rw[q] at w
    obtain⟨v,h1,a,vs,rfl,g1,g2,g3,g4⟩:=R.slot i _ q
    refine⟨_,h1,a,rfl,.inl ⟨⟨vs,SqL.of g3⟩,w O _ H .refl R fun O' H' e s n=> ?_⟩⟩
    have k:H' a=some (.lst vs):=s _ _ g3
    have d':=g4.ev e
    refine⟨fun j hj=> ?_,⟨vs,SqL.of k,by rw[d'.length];exact Nat.le_refl _⟩⟩
    obtain⟨x,hx,_⟩:=d'.get (List.getElem?_eq_getElem hj)
    refine⟨⟨vs,x,SqL.of k,hx⟩,?_⟩
    rintro y H'' ⟨rfl,hy⟩
    obtain⟨d,q1,q2⟩:=d'.getV (hy vs (SqL.of k))
    exact⟨Same.refl _,d,q1,q2⟩
noncomputable def bx (F:FN) (n:Nat) (fa:FA):FE:=fun ρ=>(fa ρ).bind fun a=>(Res.ofO (jH a.2 a.1)).bind fun b=>if b.1.length=n then(jb (F b.1)).bind fun rv=> .ok (rv.pv,b.2) else .bad
theorem bz {F:FN} {n:Nat} {ta:TA} {fa:FA} (ha:AO K E ta fa):EO K E (pq (i8 K n F) [] E0 ta) (bx F n fa):=by
 intro B H0 O σ H ρ Q R w
 refine ha B H0 O σ H ρ _ R (w.bind.imp fun a w1 O1 vs H1 e1 R1 p1=> ?_)
 obtain⟨⟨ds,ρ2⟩,q,w2⟩:=w1.ofO
 obtain⟨O2,e2,R2,dv⟩:=kR R1 p1 q
 dsimp only at w2
 by_cases hn:ds.length=n
 ·rw[if_pos hn] at w2
  obtain⟨rv,qF,w2⟩:=v7 (WR.bind w2)
  rw[List.append_nil]
  refine⟨dv.length.trans hn,O2,ds,fun a z hz=>R2.od a hz z,dv,?_⟩
  rw[qF]
  exact iM R2 fun O3 v H3 e3 R3 p3=>w2 O3 v H3 (e1.trans (e2.trans e3)) R3 p3
 ·rw[if_neg hn] at w2
  exact w2.elim
end
noncomputable def fq (N:Nat) (g:FS):FN:=fun ds=>(g (ds.map (fun d=>some (.fz d))++List.replicate (N - ds.length) none)).bind fun fl=>match fl with
 | .rt rv=> .ok rv
 | .nx _=> .ok (.fz .none)
 |_=> .bad
theorem ua {K:PySem.W.Frag} {B:dw} {H:Hp} {N:List Str} {vs:List V} {ds:List D} (hb:∀a,B a→H a≠none) (dv:DVs B K H vs ds):Rl K B H B (L2.start N vs) H (ds.map (fun d=>some (.fz d))++List.replicate (N.length - ds.length) none):=by
 have hl:=dv.length
 refine⟨Same.refl _,fun _ h=>h,hb,fun a z h=>hb a h z,?_,fun i x hx=> ?_,fun i j xs ys w hi=> ?_⟩
 ·unfold L2.start
  rw[List.length_append,List.length_append,List.length_map,List.length_map,List.length_replicate,List.length_replicate,hl]
 all_goals
  have key:∀{i:Nat} {x:PV},(ds.map (fun d=>some (PV.fz d))++List.replicate (N.length - ds.length) none)[i]? =some (some x)→∃d,x= .fz d∧ds[i]? =some d:=fun{i x} h=>by
   by_cases hi:i<ds.length
   ·rw[List.getElem?_append_left (by rw[List.length_map];exact hi),List.getElem?_map] at h
    cases q:ds[i]? with
    |none=>rw[q] at h;cases h
    |some d=>rw[q] at h;cases h;exact⟨d,rfl,rfl⟩
   ·rw[List.getElem?_append_right (by rw[List.length_map];omega),List.getElem?_replicate] at h
    split at h<;>cases h
 ·obtain⟨d,rfl,hd⟩:=key hx
  obtain⟨v,hv,h2⟩:=dv.get hd
  refine⟨v,?_,h2⟩
  have hi:i<vs.length:=(List.getElem?_eq_some_iff.mp hv).1
  unfold L2.start
  rw[List.getElem?_append_left (by rw[List.length_map];exact hi),List.getElem?_map,hv]
  rfl
 ·obtain⟨d,e,_⟩:=key hi
  cases e
theorem HR {P:Program} {w:World} {K:PySem.W.Frag} {mg:Str→Option Value} {base:Heap} {x qual:Str} {st:Stmt} {f:Addr} {fd:FuncData} {N ps:List Str} {k n:Nat} {g:FS} (F:Fun K x qual st f fd) (S:FnScope N ps (aw st)) (hn:ps.length=n)
  (hbody:∀(cdv:Value) (A:Around) (outer:List Env) (s:Shared) (H:Hp) (E:XK),Room k (A.deeper (PyProof.Rows.envOfC qual (aw st) s.heap.objs.size f cdv))→
   ∃t,PSs (fJ gX P w K mg base N qual (aw st) f cdv A outer s H E).nox (ax st) t∧SO K E t g):FnOk P w K mg base gX (k+1) f fd ps (i8 K n (fq N.length g)):=by
 refine F.ok S (fun vs H Q E h=>h.1.trans hn.symm) (fun cdv A outer s H vs Q E hr h=> ?_)
 obtain⟨t,ht,hs⟩:=hbody cdv A outer s H E hr
 obtain⟨hl,B,ds,hb,dv,h⟩:=h
 refine⟨t,ht,hs B H B _ H _ _ (ua hb dv) (WR.imp (WR.bind h) fun fl q=> ?_)⟩
 cases fl with
 |rt rv=>exact q
 |nx ρ=>exact fun O' σ' H' e R=>q .non H' R.same .non
 |bk ρ=>exact q.elim
 |ct ρ=>exact q.elim
end L3
namespace L3
open PySem PySem.Spec PyProof.Rows L2
theorem OpR.or {X:Cx} {f:Value→Value→Sem Value} {r r':R2} (h:OpR X f r) (h':OpR X f r'):OpR X f (fun x y H Q=>r x y H Q∨r' x y H Q):=by
 intro pins s σ H x y v u Q I rx ry q
 rcases q with q|q
 ·exact h pins s σ H x y v u Q I rx ry q
 ·exact h' pins s σ H x y v u Q I rx ry q
theorem Ew {X:Cx} {pins:List (Addr×Obj)} {σ:L2.St} {H:Hp} {s:Shared} {l:Addr} {xs:List V} (I:Inv X pins σ H s) (h:SqLX X.K H l xs):xs.length≤sizeLine∧∃(its:List Value) (n:Nat),Vals xs its∧xs.length=its.length∧s.heap.get? l=some {cls:= .type "list",data:= .seq its.toArray n}:=by
 rcases h with(h|⟨o,h⟩)|⟨its,n,h1,h2,h3⟩
 ·exact I.lstM h
 ·obtain⟨_,z,its,n,r,e⟩:=I.hok l _ h
  exact⟨z,its,n,r,r.length,e⟩
 ·exact⟨h2,its,n,h3,h3.length,I.kIn _ _ h1⟩
noncomputable def CG (K:PySem.W.Frag):R2:=fun x y H Q=>∃l b xs zs,x= .ref l∧y= .ref b∧SqLX K H l xs∧SqLX K H b zs∧xs.length+zs.length≤sizeLine∧∀p,H p=none→Q (.ref p) (cU H p (.lst (xs++zs)))
theorem sr {X:Cx}:OpR X (binaryOp .Add) (CG X.K):=by
 intro pins s σ H x y v u Q I rx ry h
 obtain⟨l,b,xs,zs,rfl,rfl,hH,hB,hz,q⟩:=h
 cases rx
 cases ry
 obtain⟨z,its,n,r,hl,e⟩:=Ew I hH
 obtain⟨z2,its2,n2,r2,hl2,e2⟩:=Ew I hB
 refine PySem.P.add_list e e2 ?_ (by rw[List.size_toArray,List.size_toArray];omega)
 have ea:its.toArray++its2.toArray=(its++its2).toArray:=by simp
 rw[ea]
 exact⟨.ref _,_,I.lnew (t':=s.toks) (r.append r2) (by rw[List.length_append];omega),rfl,q _ I.fresh⟩
noncomputable def C0 (K:PySem.W.Frag):R2:=fun x y H Q=>∃l k xs,x= .ref l∧y= .int k∧SqLX K H l xs∧ -(2^63)≤k∧k<2^63∧xs.length*k.toNat≤sizeLine∧
 ∀p,H p=none→Q (.ref p) (cU H p (.lst (List.replicate k.toNat xs).flatten))
theorem Bs {X:Cx}:OpR X (binaryOp .Mult) (C0 X.K):=by
 intro pins s σ H x y v u Q I rx ry h
 obtain⟨l,k,xs,rfl,rfl,hH,h1,h2,hz,q⟩:=h
 cases rx
 obtain⟨t,rfl⟩:=ry
 obtain⟨z,its,n,r,hl,e⟩:=Ew I hH
 have hlen:its.toArray.size*k.toNat≤sizeLine:=by rw[List.size_toArray,←hl];exact hz
 have hcap:¬its.toArray.size*k.toNat>(2^63 - 1)/8:=by
  have:(sizeLine:Nat)≤(2^63 - 1)/8:=by decide
  omega
 have hfit:¬(!Builtin.List.listFitsIndex k)=true:=by
  rw[fitsIndex_both h1 h2]
  exact Bool.false_ne_true
 have hlong:¬Builtin.List.listTooLong (its.toArray.size*k.toNat)=true:=by
  rw[yT hlen]
  exact Bool.false_ne_true
 have hnew:List.foldl (fun x1 x2=>x1++x2) #[] (List.replicate (if its.toArray.isEmpty=true then 0 else k.toNat) its.toArray)=(List.replicate k.toNat its).flatten.toArray:=by
  have f0:∀m:Nat,List.foldl (fun x1 x2=>x1++x2) #[] (List.replicate m its.toArray)=(List.replicate m its).flatten.toArray:=fun m=>by
   have:=mf its m []
   rw[List.nil_append] at this
   exact this
  rw[f0]
  cases its with
  |nil=>simp
  |cons a r'=>rw[if_neg (by simp)]
 refine wpAny_binaryOp_repeat_ref (T:= "list") (U:= "int") (by decide) ⟨_,e,rfl⟩ (fun s'=>typeIs_int s' k t) noFill_list_mul F.fills_int_mul F.slot_int_rmul repeat_list F.slot_int_index.lookup
  (call_meets F.slot_int_rmul (typeIs_int s k t) F.entry_int_rmul (F.args_int_rmul_2 _ _) (int___rmul___int_list k t l its.toArray n)
   ⟨e,rfl,⟨_,e,rfl⟩,call_meets F.slot_list_mul ⟨_,e,rfl⟩ F.entry_list_mul (F.args_list_mul_2 _ _) (AutoListH.list___mul___list_int_3 l its.toArray n k t hfit hcap hlong) ⟨e,?_⟩⟩)
 rw[hnew]
 exact⟨.ref _,_,I.lnew (t':=s.toks) (r.rep k.toNat) (by rw[vZ,Nat.mul_comm];exact hz),rfl,q _ I.fresh⟩
section
variable {K:PySem.W.Frag}
noncomputable def fI (g:Int→Int→Int):D→D→Option RV
 | .int i,.int j=>some (.fz (.int (g i j)))
 |_,_=>none
noncomputable def fB (g:Int→Int→Bool):D→D→Option RV
 | .int i,.int j=>some (.fz (.bool (g i j)))
 |_,_=>none
noncomputable def Ff (C:Int→Int→Bool) (g:Int→Int→Int):D→D→Option RV
 | .int i,.int j=>if C i j=true then some (.fz (.int (g i j))) else none
 |_,_=>none
theorem yO {g:Int→Int→Int} {dx dy:D} {rv:RV} (h:fI g dx dy=some rv):∃i j,dx= .int i∧dy= .int j∧rv= .fz (.int (g i j)):=by
 unfold fI at h
 split at h
 ·cases h;exact⟨_,_,rfl,rfl,rfl⟩
 ·cases h
theorem Fe {g:Int→Int→Int}:l4 K (uJ fun i j=> .int (g i j)) (fI g):=by
 intro O H x y dx dy rv Q n hx hy e q
 obtain⟨i,j,rfl,rfl,rfl⟩:=yO e
 cases hx;cases hy
 exact⟨i,j,rfl,rfl,q.at (.int _)⟩
theorem wU {g:Int→Int→Bool}:l4 K (uJ fun i j=> .bl (g i j)) (fB g):=by
 intro O H x y dx dy rv Q n hx hy e q
 unfold fB at e
 split at e
 ·cases e
  cases hx;cases hy
  exact⟨_,_,rfl,rfl,q.at (.bl _)⟩
 ·cases e
theorem vB {C:Int→Int→Bool} {C':Int→Int→Prop} {g:Int→Int→Int} (hC:∀i j,C i j=true→C' i j):l4 K (rI C' fun i j=> .int (g i j)) (Ff C g):=by
 intro O H x y dx dy rv Q n hx hy e q
 unfold Ff at e
 split at e
 ·split at e
  ·rename_i hc
   cases e
   cases hx;cases hy
   exact⟨_,_,rfl,rfl,hC _ _ hc,q.at (.int _)⟩
  ·cases e
 ·cases e
theorem yz {O:dw} {H:Hp} {x:V} {ds:List D} (h:DX O K H x (.list ds)):∃a xs,x= .ref a∧SqLX K H a xs∧DVs O K H xs ds:=h
theorem uL {O:dw} {H:Hp} {x:V} {ds:List D} (h:DX O K H x (.tuple ds)):∃a xs,x= .ref a∧SqTO O K H a xs∧DVs O K H xs ds:=AF h rfl
noncomputable def AK (K:PySem.W.Frag):R2:=fun x y H Q=>uJ (fun i j=> .int (i+j)) x y H Q∨CG K x y H Q∨Cy K x y H Q
theorem bE {X:Cx}:OpR X (binaryOp .Add) (AK X.K):=OpR.or Ex (OpR.or sr Cr)
noncomputable def cn:D→D→Option RV
 | .int i,.int j=>some (.fz (.int (i+j)))
 | .list xs,.list ys=>if xs.length+ys.length≤1000000 then some (.ow (xs++ys)) else none
 | .tuple xs,.tuple ys=>if xs≠[]∧xs.length+ys.length≤1000000 then some (.fz (.tuple (xs++ys))) else none
 |_,_=>none
theorem tI {n:Nat} (h:n≤1000000):n≤sizeLine:=Nat.le_trans h (by decide)
theorem DVs.ne {O:dw} {H:Hp} {vs:List V} {ds:List D} (h:DVs O K H vs ds):vs=[]↔ds=[]:=by cases h<;>simp
theorem bF:l4 K (AK K) cn:=by
 intro O H x y dx dy rv Q n hx hy e q
 unfold cn at e
 split at e
 ·cases e
  cases hx;cases hy
  exact .inl ⟨_,_,rfl,rfl,q.at (.int _)⟩
 ·split at e
  ·rename_i hl
   cases e
   obtain⟨a,xs,rfl,h1,h2⟩:=yz hx
   obtain⟨b,ys,rfl,g1,g2⟩:=yz hy
   exact .inr (.inl ⟨a,b,xs,ys,rfl,rfl,h1,g1,tI (by rw[h2.length,g2.length];exact hl),Fin.new (h2.append g2) q⟩)
  ·cases e
 ·split at e
  ·rename_i hl
   cases e
   obtain⟨a,xs,rfl,h1,h2⟩:=uL hx
   obtain⟨b,ys,rfl,g1,g2⟩:=uL hy
   refine .inr (.inr ⟨a,b,xs,ys,rfl,rfl,h1.1,g1.1,fun z=>hl.1 (h2.ne.mp z),tI (by rw[h2.length,g2.length];exact hl.2),fun z=> ?_,fun _=>Fin.newT (h2.append g2) n q⟩)
   have z':=g2.ne.mp z
   subst z'
   rw[List.append_nil] at q
   exact q.at (.tup h1 h2)
  ·cases e
 ·cases e
noncomputable def y1 (K:PySem.W.Frag):R2:=fun x y H Q=>rI CMul (fun i j=> .int (i*j)) x y H Q∨C0 K x y H Q
theorem B0 {X:Cx}:OpR X (binaryOp .Mult) (y1 X.K):=OpR.or EK Bs
noncomputable def h9 (i:Int):Bool:=decide (-(2^64)<i∧i<2^64)
theorem nZ {i:Int} (h:h9 i=true): -(2^64)<i∧i<2^64:=of_decide_eq_true h
noncomputable def xL:D→D→Option RV
 | .int i,.int j=>if(h9 i||h9 j)=true then some (.fz (.int (i*j))) else none
 | .list xs,.int k=>if xs.length*k.toNat≤1000000∧ -(2^63)≤k∧k<2^63 then some (.ow (List.replicate k.toNat xs).flatten) else none
 |_,_=>none
theorem B3:l4 K (y1 K) xL:=by
 intro O H x y dx dy rv Q n hx hy e q
 unfold xL at e
 split at e
 ·split at e
  ·rename_i hc
   cases e
   cases hx;cases hy
   refine .inl ⟨_,_,rfl,rfl,?_,q.at (.int _)⟩
   rcases(Bool.or_eq_true _ _).mp hc with z|z
   ·exact .inl (nZ z)
   ·exact .inr (nZ z)
  ·cases e
 ·split at e
  ·rename_i hc
   cases e
   cases hy
   obtain⟨a,xs,rfl,h1,h2⟩:=yz hx
   exact .inr ⟨a,_,xs,rfl,rfl,h1,hc.2.1,hc.2.2,tI (by rw[h2.length];exact hc.1),Fin.new (h2.flat _) q⟩
  ·cases e
 ·cases e
noncomputable def jG:=fI fun i j=>i - j
theorem ig:l4 K (uJ fun i j=> .int (i - j)) jG:=Fe
noncomputable def En (_ j:Int):Bool:=decide (0<j)
noncomputable def bf:=Ff En fun i j=>i % j
theorem bu:l4 K (rI (fun _ j=>0<j) fun i j=> .int (i % j)) bf:=vB fun i j h=>of_decide_eq_true h
noncomputable def EF (_ j:Int):Bool:=decide (0<j∧j<2^128)
noncomputable def cy:=Ff EF fun i j=>i/j
theorem cx:l4 K (rI (fun _ j=>0<j∧j.natAbs.log2<9000) fun i j=> .int (i/j)) cy:=vB fun i j h=>by
 have h':=of_decide_eq_true h
 refine⟨h'.1,?_⟩
 have h2:j.natAbs<2^128:=by
  have:=h'.2
  omega
 have h3:j.natAbs.log2<128:=(Nat.log2_lt (by omega)).mpr h2
 omega
noncomputable def zU (i j:Int):Bool:=decide (0≤j∧j≤1000000∧i.natAbs<2^64)
theorem Cb (i j:Int) (h:zU i j=true):Eo i j:=by
 unfold zU at h
 exact(show 0≤j∧j≤1000000∧i.natAbs<2^64 from of_decide_eq_true h)
noncomputable def ji:=Ff zU fun i j=>i^j.toNat
theorem gS:l4 K (rI Eo fun i j=> .int (i^j.toNat)) ji:=vB Cb
noncomputable def me:=fB fun i j=>decide (i<j)
noncomputable def tQ:=fB fun i j=>decide (i≤j)
noncomputable def my:=fB fun i j=>decide (j<i)
noncomputable def Dp:=fB fun i j=>decide (j≤i)
theorem fM:l4 K (uJ fun i j=> .bl (decide (i<j))) me:=wU
theorem jJ:l4 K (uJ fun i j=> .bl (decide (i≤j))) tQ:=wU
theorem gm:l4 K (uJ fun i j=> .bl (decide (j<i))) my:=wU
theorem sA:l4 K (uJ fun i j=> .bl (decide (j≤i))) Dp:=wU
noncomputable def kL (d:D):Bool:=d.canLay0&&decide (d.depth≤64)
noncomputable def fO (d e:D):Option RV:=if(kL d&&e.canLay0)=true then some (.fz (.bool (PyData.eqv d e))) else none
noncomputable def mY (d e:D):Option RV:=if(kL d&&e.canLay0)=true then some (.fz (.bool (!PyData.eqv d e))) else none
theorem cB:l4 K (Ab K false) fO:=by
 intro O H x y dx dy rv Q n hx hy e q
 unfold fO at e
 split at e
 ·rename_i hc
  cases e
  unfold kL at hc
  simp only[Bool.and_eq_true,decide_eq_true_eq] at hc
  exact⟨dx,dy,hx.plain,hy.plain,hc.1.1,hc.2,hc.1.2,q.at (.bl _)⟩
 ·cases e
theorem la:l4 K (Ab K true) mY:=by
 intro O H x y dx dy rv Q n hx hy e q
 unfold mY at e
 split at e
 ·rename_i hc
  cases e
  unfold kL at hc
  simp only[Bool.and_eq_true,decide_eq_true_eq] at hc
  exact⟨dx,dy,hx.plain,hy.plain,hc.1.1,hc.2,hc.1.2,q.at (.bl _)⟩
 ·cases e
noncomputable def tF:D→D→Option RV
 | .none,.none=>some (.fz (.bool true))
 |_,.none=>some (.fz (.bool false))
 |_,_=>none
noncomputable def BS:D→D→Option RV
 | .none,.none=>some (.fz (.bool false))
 |_,.none=>some (.fz (.bool true))
 |_,_=>none
theorem Ae {O:dw} {H:Hp} {x:V} {d:D} (h:DX O K H x d) (hd:d≠ .none):x≠ .non:=by
 cases d with
 |none=>exact absurd rfl hd
 |list ds=>obtain⟨a,xs,rfl,_⟩:=yz h;simp
 |tuple ds=>obtain⟨a,xs,rfl,_⟩:=uL h;simp
 |bool b=>cases h;simp
 |int b=>cases h;simp
 |str b=>cases h;simp
 |dict b=>cases h
theorem wA:l4 K (fun x y H Q=>y= .non∧Q (.bl (decide (x= .non))) H) tF:=by
 intro O H x y dx dy rv Q n hx hy e q
 unfold tF at e
 split at e
 ·cases e
  cases hx;cases hy
  exact⟨rfl,q.at (.bl _)⟩
 ·rename_i hd
  cases e
  cases hy
  refine⟨rfl,?_⟩
  rw[decide_eq_false (Ae hx hd)]
  exact q.at (.bl _)
 ·cases e
theorem BR:l4 K (fun x y H Q=>y= .non∧Q (.bl (!decide (x= .non))) H) BS:=by
 intro O H x y dx dy rv Q n hx hy e q
 unfold BS at e
 split at e
 ·cases e
  cases hx;cases hy
  exact⟨rfl,q.at (.bl _)⟩
 ·rename_i hd
  cases e
  cases hy
  refine⟨rfl,?_⟩
  rw[decide_eq_false (Ae hx hd)]
  exact q.at (.bl _)
 ·cases e
noncomputable def Cs (K:PySem.W.Frag) (neg:Bool):R2:=fun x y H Q=>∃d ds,L2.DV K H x d∧(L2.DV K H y (.list ds)∨L2.DV K H y (.tuple ds))∧d.canLay0=true∧PyData.canLayAll0 ds=true∧d.depth≤64∧Q (.bl (if neg then !(ds.any fun e=>PyData.eqv e d) else ds.any fun e=>PyData.eqv e d)) H
theorem ma {X:Cx} (hu:X.A.units+65<cLine):OpR X (compareOp .In) (Cs X.K false):=by
 intro pins s σ H x y v u Q I rx ry h
 obtain⟨d,ds,h1,h2,l1,l2,hd,q⟩:=h
 obtain⟨as,r1⟩:=h1.reads I rx
 have hm:min (PyData.depthAll ds) d.depth≤64:=Nat.le_trans (Nat.min_le_right _ _) hd
 rcases h2 with h2|h2
 ·obtain⟨bs,r2⟩:=h2.reads I ry
  exact PySem.SeqAt.in_list_reads r2 r1 l2 l1 (by omega) ⟨.bl _,H,I,rfl,q⟩
 ·obtain⟨bs,r2⟩:=h2.reads I ry
  exact PySem.SeqAt.in_tuple_reads r2 r1 l2 l1 (by omega) ⟨.bl _,H,I,rfl,q⟩
theorem kb {X:Cx} (hu:X.A.units+65<cLine):OpR X (compareOp .NotIn) (Cs X.K true):=by
 intro pins s σ H x y v u Q I rx ry h
 obtain⟨d,ds,h1,h2,l1,l2,hd,q⟩:=h
 obtain⟨as,r1⟩:=h1.reads I rx
 have hm:min (PyData.depthAll ds) d.depth≤64:=Nat.le_trans (Nat.min_le_right _ _) hd
 rcases h2 with h2|h2
 ·obtain⟨bs,r2⟩:=h2.reads I ry
  exact PySem.SeqAt.notIn_list_reads r2 r1 l2 l1 (by omega) ⟨.bl _,H,I,rfl,q⟩
 ·obtain⟨bs,r2⟩:=h2.reads I ry
  exact PySem.SeqAt.notIn_tuple_reads r2 r1 l2 l1 (by omega) ⟨.bl _,H,I,rfl,q⟩
noncomputable def ng (d e:D):Option RV:=match gj e with
 |some ds=>if(kL d&&PyData.canLayAll0 ds)=true then some (.fz (.bool (ds.any fun e=>PyData.eqv e d))) else none
 |none=>none
noncomputable def ku (d e:D):Option RV:=match gj e with
 |some ds=>if(kL d&&PyData.canLayAll0 ds)=true then some (.fz (.bool (!ds.any fun e=>PyData.eqv e d))) else none
 |none=>none
theorem yD {O:dw} {H:Hp} {y:V} {e:D} {ds:List D} (hy:DX O K H y e) (h:gj e=some ds):L2.DV K H y (.list ds)∨L2.DV K H y (.tuple ds):=by
 unfold gj at h
 split at h
 ·cases h;exact .inr hy.plain
 ·cases h;exact .inl hy.plain
 ·cases h
theorem l8:l4 K (Cs K false) ng:=by
 intro O H x y dx dy rv Q n hx hy e q
 unfold ng at e
 split at e
 ·rename_i ds hs
  split at e
  ·rename_i hc
   cases e
   unfold kL at hc
   simp only[Bool.and_eq_true,decide_eq_true_eq] at hc
   exact⟨dx,ds,hx.plain,yD hy hs,hc.1.1,hc.2,hc.1.2,q.at (.bl _)⟩
  ·cases e
 ·cases e
theorem kg:l4 K (Cs K true) ku:=by
 intro O H x y dx dy rv Q n hx hy e q
 unfold ku at e
 split at e
 ·rename_i ds hs
  split at e
  ·rename_i hc
   cases e
   unfold kL at hc
   simp only[Bool.and_eq_true,decide_eq_true_eq] at hc
   exact⟨dx,ds,hx.plain,yD hy hs,hc.1.1,hc.2,hc.1.2,q.at (.bl _)⟩
  ·cases e
 ·cases e
noncomputable def bC (d e:D):Option RV:=match gj d,e with
 |some ds,.int i=>(nq ds i).map .fz
 |_,_=>none
theorem AA {O:dw} {H:Hp} {xs:List V} {ds:List D} {i:Int} {d:D} (h:DVs O K H xs ds) (e:nq ds i=some d):∃v,nq xs i=some v∧DV O K H v d:=by
 unfold nq at e⊢
 rw[h.length]
 cases q:Bt ds.length i with
 |none=>rw[q] at e;cases e
 |some j=>
  rw[q] at e
  exact h.get e
theorem aN:l4 K (Ha K) bC:=by
 intro O H x y dx dy rv Q n hx hy e q
 unfold bC at e
 split at e
 ·rename_i ds i hs
  cases hy
  cases qa:nq ds i with
  |none=>rw[qa] at e;cases e
  |some d=>
   rw[qa] at e
   cases e
   unfold gj at hs
   split at hs
   ·cases hs
    obtain⟨a,xs,rfl,h1,h2⟩:=uL hx
    obtain⟨v,hv,dv⟩:=AA h2 qa
    exact .inr (.inl ⟨a,xs,i,v,rfl,rfl,h1.1,hv,q.at dv⟩)
   ·cases hs
    obtain⟨a,xs,rfl,h1,h2⟩:=yz hx
    obtain⟨v,hv,dv⟩:=AA h2 qa
    exact .inl ⟨a,xs,i,v,rfl,rfl,h1.sq,hv,q.at dv⟩
   ·cases hs
 ·cases e
noncomputable def ie (xs:List D) (lo hi:Option Int):List D:=(xs.drop (HT.sIx xs.length 0 lo)).take (HT.sIx xs.length xs.length hi - HT.sIx xs.length 0 lo)
theorem zr {O:dw} {H:Hp} {xs:List V} {ds:List D} {lo hi:Option Int} (h:DVs O K H xs ds):DVs O K H (uk xs lo hi) (ie ds lo hi):=by
 unfold uk ie
 rw[h.length]
 exact(h.drop _).take _
noncomputable def gZ (n:Nat) (lo hi:Option Int):Bool:=decide (HT.sIx n 0 lo=0∧HT.sIx n n hi=n)
noncomputable def Ed (K:PySem.W.Frag):V→Option Int→Option Int→Hp→VK→Prop:=fun x lo hi H Q=>Gq K x lo hi H Q∨Fr K x lo hi H Q
theorem rC {X:Cx}:E1 X (Ed X.K):=by
 intro pins s σ H x v vl vu lo hi sl Q I rx hs pl pu h
 rcases h with h|h
 ·exact BW pins s σ H x v vl vu lo hi sl Q I rx hs pl pu h
 ·exact DF pins s σ H x v vl vu lo hi sl Q I rx hs pl pu h
noncomputable def Cu:D→Option Int→Option Int→Option RV
 | .list ds,lo,hi=>some (.ow (ie ds lo hi))
 | .tuple ds,lo,hi=>if gZ ds.length lo hi=true then none else some (.fz (.tuple (ie ds lo hi)))
 |_,_,_=>none
theorem lx:Hb K (Ed K) Cu:=by
 intro O H x lo hi dx rv Q n hx e q
 unfold Cu at e
 split at e
 ·cases e
  obtain⟨a,xs,rfl,h1,h2⟩:=yz hx
  exact .inl ⟨a,xs,rfl,h1.sq,Fin.new (zr h2) q⟩
 ·split at e
  ·cases e
  ·rename_i hw
   cases e
   obtain⟨a,xs,rfl,h1,h2⟩:=uL hx
   refine .inr ⟨a,xs,rfl,h1.1,fun z=>hw ?_,Fin.newT (zr h2) n q⟩
   unfold gZ
   rw[←h2.length]
   exact decide_eq_true z
 ·cases e
noncomputable def kW:D→Option RV
 | .int i=>some (.fz (.int (-i)))
 |_=>none
theorem kt:HM K (rU fun i=> .int (-i)) kW:=by
 intro O H x dx rv Q n hx e q
 unfold kW at e
 split at e
 ·cases e
  cases hx
  exact⟨_,rfl,q.at (.int _)⟩
 ·cases e
noncomputable def bV:List D→Option RV
 |[d]=>(match gj d with
  |some ds=>some (.fz (.int ds.length))
  |none=>none)
 |_=>none
theorem cJ:A6 K (fun xs H Q=>∃x n,xs=[x]∧Dy K x H n∧Q (.int n) H) bV:=by
 intro O H xs ds rv Q n hp e q
 unfold bV at e
 split at e
 ·split at e
  ·rename_i es hs
   cases e
   cases hp with
   |cons h1 h2=>
    cases h2
    unfold gj at hs
    split at hs
    ·cases hs
     obtain⟨a,xs,rfl,h1,h2⟩:=uL h1
     exact⟨_,xs.length,rfl,.inr ⟨xs,h1.1,rfl⟩,by rw[h2.length];exact q.at (.int _)⟩
    ·cases hs
     obtain⟨a,xs,rfl,h1,h2⟩:=yz h1
     exact⟨_,xs.length,rfl,.inl ⟨xs,h1.sq,rfl⟩,by rw[h2.length];exact q.at (.int _)⟩
    ·cases hs
  ·cases e
 ·cases e
noncomputable def lM:List D→Option RV
 |[.tuple ds]=>some (.fz (.tuple ds))
 |[.list ds]=>some (.fz (.tuple ds))
 |_=>none
theorem fT:A6 K (fun xs H Q=>∃p ys,xs=[.ref p]∧((SqL K H p ys∧∀l,H l=none→Q (.ref l) (cU H l (.tup ys)))∨(SqT K H p ys∧Q (.ref p) H))) lM:=by
 intro O H xs ds rv Q n hp e q
 unfold lM at e
 split at e
 ·cases e
  cases hp with
  |cons h1 h2=>
   cases h2
   obtain⟨a,xs,rfl,h1,h2⟩:=uL h1
   exact⟨a,xs,rfl,.inr ⟨h1.1,q.at (.tup h1 h2)⟩⟩
 ·cases e
  cases hp with
  |cons h1 h2=>
   cases h2
   obtain⟨a,xs,rfl,h1,h2⟩:=yz h1
   exact⟨a,xs,rfl,.inl ⟨h1.sq,Fin.newT h2 n q⟩⟩
 ·cases e
noncomputable def yE:List D→Option RV
 |[d]=>(gj d).map .ow
 |_=>none
theorem BO:A6 K (fun xs H Q=>∃p ys,xs=[.ref p]∧(SqL K H p ys∨SqT K H p ys)∧∀l,H l=none→Q (.ref l) (cU H l (.lst ys))) yE:=by
 intro O H xs ds rv Q n hp e q
 unfold yE at e
 split at e
 ·rename_i d
  cases hp with
  |cons h1 h2=>
   cases h2
   cases hs:gj d with
   |none=>rw[hs] at e;cases e
   |some es=>
    rw[hs] at e
    cases e
    unfold gj at hs
    split at hs
    ·cases hs
     obtain⟨a,xs,rfl,h1,h2⟩:=uL h1
     exact⟨a,xs,rfl,.inr h1.1,Fin.new h2 q⟩
    ·cases hs
     obtain⟨a,xs,rfl,h1,h2⟩:=yz h1
     exact⟨a,xs,rfl,.inl h1.sq,Fin.new h2 q⟩
    ·cases hs
 ·cases e
noncomputable def jE:List D→Option RV
 |[.int i,.int j]=>some (.fz (.int (if j>i then j else i)))
 |_=>none
theorem lP:A6 K (fun xs H Q=>∃i j,xs=[.int i,.int j]∧Q (.int (if j>i then j else i)) H) jE:=by
 intro O H xs ds rv Q n hp e q
 unfold jE at e
 split at e
 ·cases e
  cases hp with
  |cons h1 h2=>
   cases h2 with
   |cons h2 h3=>
    cases h3;cases h1;cases h2
    exact⟨_,_,rfl,q.at (.int _)⟩
 ·cases e
end
end L3
namespace PySem
open Sem (wp)
open AutoSeq1 (wpAny_loadPart')
open Builtin Builtin.Str
section
variable {prog:Program} {w:World} {A:Around} {E:Value→Shared→Prop} {s:Shared}
theorem iG {it t:Addr} {i:Nat} {items:Array Value} {x:Value} {Q:Value→Shared→Prop} (hit:s.heap.IsTupleIter it t i) (ht:s.heap.IsTuple t items) (hx:items[i]? =some x)
  (hQ:∀h',h'.IsTupleIter it t (i+1)→Heap.SameBut it s.heap h'→Q x {s with heap:=h'}):wpAny (model prog w) A (Builtin.SmallTypes.nextOf (.ref it)) Q E s:=by
 obtain⟨o,ho,hc,hd⟩:=id hit
 obtain⟨ol,hol,_,nl,hdl⟩:=ht
 unfold Builtin.SmallTypes.nextOf
 refine wpAny_bind (wpAny_callSpecial?_slot (name:=Str.ofString "__next__") hit.typeIs F.slot_tuple_iterator_next
  (wpAny_call_entry F.slot_tuple_iterator_next hit.typeIs F.entry_tuple_iterator_next ?_ (F.args_tuple_iterator_next_1 _)))
 show wpAny _ _ (field (.ref it) 0>>=_) _ _ s
 refine wpAny_bind (wpAny_field ho hd (x:= .ref t) rfl ?_)
 show wpAny _ _ (if(Value.ref t==Value.none)=true then _ else _) _ _ s
 rw[if_neg (show¬((Value.ref t==Value.none)=true) from Bool.false_ne_true)]
 show wpAny _ _ (field (.ref it) 1>>=_) _ _ s
 refine wpAny_bind (wpAny_field ho hd (x:= .int i 0) rfl ?_)
 show wpAny _ _ (seqItems? (.ref t)>>=_) _ _ s
 refine wpAny_bind (wpAny_seqItems hol hdl ?_)
 simp only[Int.toNat_natCast,hx]
 refine wpAny_bind (wpAny_setField ho hd (by simp) (wpAny_pure ⟨x,rfl,wpAny_pure (hQ _ ?_ (Heap.SameBut.update ..))⟩))
 exact⟨_,Heap.get?_update_self _ ho (Obj.isFreed_of_fields (Obj.data_mapFields hd _)),(Obj.cls_mapFields ..).trans hc,by
  rw[Obj.data_mapFields hd];simp[rawInt]⟩
theorem gH {it t:Addr} {i:Nat} {items:Array Value} {Q:Value→Shared→Prop} (hh:A.handled=none) (hit:s.heap.IsTupleIter it t i) (ht:s.heap.IsTuple t items) (hx:items[i]? =none)
  (hE:∀h' e,Heap.ExtBut it s.heap h'→(∃o,h'.get? e=some o∧o.cls= .type "StopIteration")→E (.ref e) {s with heap:=h'}):wpAny (model prog w) A (Builtin.SmallTypes.nextOf (.ref it)) Q E s:=by
 obtain⟨o,ho,hc,hd⟩:=id hit
 obtain⟨ol,hol,_,nl,hdl⟩:=ht
 unfold Builtin.SmallTypes.nextOf
 refine wpAny_bind (wpAny_callSpecial?_slot (name:=Str.ofString "__next__") hit.typeIs F.slot_tuple_iterator_next
  (wpAny_call_entry F.slot_tuple_iterator_next hit.typeIs F.entry_tuple_iterator_next ?_ (F.args_tuple_iterator_next_1 _)))
 show wpAny _ _ (field (.ref it) 0>>=_) _ _ s
 refine wpAny_bind (wpAny_field ho hd (x:= .ref t) rfl ?_)
 show wpAny _ _ (if(Value.ref t==Value.none)=true then _ else _) _ _ s
 rw[if_neg (show¬((Value.ref t==Value.none)=true) from Bool.false_ne_true)]
 show wpAny _ _ (field (.ref it) 1>>=_) _ _ s
 refine wpAny_bind (wpAny_field ho hd (x:= .int i 0) rfl ?_)
 show wpAny _ _ (seqItems? (.ref t)>>=_) _ _ s
 refine wpAny_bind (wpAny_seqItems hol hdl ?_)
 simp only[Int.toNat_natCast,hx]
 refine wpAny_bind (wpAny_rule (wpAny_bind (wpAny_setField ho hd (by simp) ?_)))
 show wpAny _ _ (newExc (.type "StopIteration") []>>=_) _ _ _
 refine wpAny_bind ?_
 simp only[newExc,newTuple]
 refine wpAny_bind (wpAny_newObj_type ?_ (by size_fits))
 refine wpAny_bind (m:=firstArgMember _ _) (wpAny_of_eq (a:=Value.none) (by first|rfl|(simp only[firstArgMember];rfl)) ?_)
 refine wpAny_newObj_type ?_ (by size_fits)
 simp only[raiseNew]
 refine wpAny_bind (wpAny_handled ?_)
 first|rw[show A.in1.handled=none from hh]|rw[hh]
 refine wpAny_bind (wpAny_pure (wpAny_throw ?_))
 exact hE _ _ (((Heap.SameBut.update ..).extBut.push _).push _) ⟨_,Heap.get?_push_size _ rfl,rfl⟩
end
theorem yK {prog:Program} {w:World} {A:Around} (hh:A.handled=none) (it l:Addr) (hne:l≠it) (items:Array Value):
  Draws prog w A it [it,l] items.size (fun i v=>items[i]? =some v) (fun i h=>h.IsTupleIter it l i∧h.IsTuple l items) where
 live:=fun _ _ st=>let⟨o,ho,_⟩:=st.1;⟨o,ho⟩
 frame:=fun _ _ _ st hk=>⟨st.1.at fun o e=>hk it (by simp) o e,let⟨o,h1,h2⟩:=st.2;⟨o,hk l (by simp) o h1,h2⟩⟩
 item:=fun i s Q E hi st hQ=>by
  refine iG st.1 st.2 (x:=items[i]) (by simp[hi]) fun h' hit' hs'=> ?_
  exact hQ _ h' s.toks (by simp[hi]) ⟨hit',let⟨o,h1,h2⟩:=st.2;⟨o,(hs'.2 l hne).trans h1,h2⟩⟩ hs'
 done:=fun s Q E st hE=>gH hh st.1 st.2 (by simp) hE
set_option maxHeartbeats 4000000 in
theorem j4 (l:Addr) (items:Array Value) (n:Nat) (dct:Option Addr) (sl:Array (Option Value)):
  Meets (Builtin.«enumerate.__new__» ⟨[.type "enumerate",.ref l],[]⟩) (fun _ R s=>s.heap.get? l=some {cls:= .type "tuple",dict:=dct,data:= .seq items n,slots:=sl}∧
   R (.ok (.ret (.ref (s.heap.push {cls:= .type "tuple_iterator",data:= .fields #[.ref l,.int 0 0]}).objs.size)))
    {s with heap:=(s.heap.push {cls:= .type "tuple_iterator",data:= .fields #[.ref l,.int 0 0]}).push {cls:= .type "enumerate",data:= .fields #[.none,.bool false,.ref s.heap.objs.size,rawInt 0,.none,.none]}}):=
 .of_wp fun prog w A R s h=>by
  obtain⟨hp,g,d,tk,os⟩:=s;obtain⟨hl,h⟩:=h
  have hsub:=sub_enumerate
  have hL:Heap.IsTuple (Shared.heap ⟨hp,g,d,tk,os⟩) l items:=⟨_,hl,rfl,n,rfl⟩
  wp_walk using wpAny_loadPart' hl
  refine wpAny_stack_any fun st=>wpAny_pure ?_
  split
  ·rename_i c _ _ _ _ _
   cases(c==Value.type "enumerate")
   ·wp_walk using wpAny_loadPart' hl,wpAny_pyIter_tuple hL
    exact⟨_,rfl,h⟩
   ·wp_walk using wpAny_loadPart' hl,wpAny_pyIter_tuple hL
    exact⟨_,rfl,h⟩
  ·wp_walk using wpAny_loadPart' hl,wpAny_pyIter_tuple hL
   exact⟨_,rfl,h⟩
section
variable {prog:Program} {w:World} {A:Around} {E:Value→Shared→Prop} {s:Shared}
theorem jP {l:Addr} {items:Array Value} {Q:Value→Shared→Prop} (hL:s.heap.IsTuple l items)
  (h:∀h',IsEnum h' (s.heap.objs.size+1) s.heap.objs.size 0 .none→h'.IsTupleIter s.heap.objs.size l 0→h'.objs.size=s.heap.objs.size+2→
   (∀b o,s.heap.get? b=some o→h'.get? b=some o)→Q (.ref (s.heap.objs.size+1)) {s with heap:=h'}):
  wpAny (model prog w) A (call (.type "enumerate") [.ref l]) Q E s:=by
 obtain⟨⟨c,dct,dt,sl⟩,hl,hc,n,hd⟩:=hL
 replace hc:c= .type "tuple":=hc
 replace hd:dt= .seq items n:=hd
 subst hc hd
 refine callType_new F.called_enumerate (by decide) (F.typeCall_enumerate_1 _) (F.newCall_enumerate_1 _) (fun obj=>F.args_object_init_2 obj _) F.entry_enumerate_new
  (j4 l items n dct sl) ⟨hl,?_⟩
 have hz:(s.heap.push {cls:= .type "tuple_iterator",data:= .fields #[.ref l,.int 0 0]}).objs.size=s.heap.objs.size+1:=Heap.size_push ..
 show _∧_
 rw[hz]
 have he:IsEnum ((s.heap.push {cls:= .type "tuple_iterator",data:= .fields #[.ref l,.int 0 0]}).push
   {cls:= .type "enumerate",data:= .fields #[.none,.bool false,.ref s.heap.objs.size,rawInt 0,.none,.none]}) (s.heap.objs.size+1) s.heap.objs.size 0 .none:=by
  have:=Heap.get?_push_size (s.heap.push {cls:= .type "tuple_iterator",data:= .fields #[.ref l,.int 0 0]})
   (o:={cls:= .type "enumerate",data:= .fields #[.none,.bool false,.ref s.heap.objs.size,rawInt 0,.none,.none]}) rfl
  rw[hz] at this;exact this
 refine⟨⟨_,he,rfl⟩,h _ he ⟨_,Heap.get?_push_of_some _ (Heap.get?_push_size _ rfl),rfl,rfl⟩ (by rw[Heap.size_push,hz]) fun b o x=>Heap.get?_push_of_some _ (Heap.get?_push_of_some _ x)⟩
end
end PySem
namespace L3
open PySem PySem.Spec PyProof.Rows L2
noncomputable def DG (K:PySem.W.Frag) (a:Addr):It:=
 ⟨fun i H=>∃xs x,SqT K H a xs∧xs[i]? =some x,
  fun i H v H'=>∃p x,H p=none∧v= .ref p∧(∀xs,SqT K H a xs→xs[i]? =some x)∧H'=cU H p (.tup [.int i,x]),
  fun i H=>∃xs,SqT K H a xs∧xs.length≤i⟩
theorem wO {X:Cx} {pins:List (Addr×Obj)} {σ:L2.St} {H:Hp} {s:Shared} {a:Addr} {xs ys:List V} (I:Inv X pins σ H s) (h1:SqT X.K H a xs) (h2:SqT X.K H a ys):xs=ys:=by
 obtain⟨its,r1,⟨o,e1,_,n,d1⟩,_⟩:=I.tuple h1
 obtain⟨its2,r2,⟨o2,e2,_,n2,d2⟩,_⟩:=I.tuple h2
 rw[e1] at e2
 cases e2
 rw[d1] at d2
 have:its=its2:=by
  have q:its.toArray=its2.toArray:=by injection d2
  simpa using q
 subst this
 exact r1.inj r2
theorem vD {P:Program} {w:World} {K:PySem.W.Frag} {elts:List Expr} {kk} {tp:Pos} (a e it:Addr) (hne:e≠it) (hai:a≠it) (hae:a≠e):
  Turn P w K (.Tuple elts kk tp) (DG K a) [e,it] e (fun i h=>(∃old,IsEnum h e it i old)∧h.IsTupleIter it a i) where
 mem:=by simp
 obj:=fun i h st b hb=>by
  obtain⟨⟨old,he⟩,o,ho,_,d⟩:=st
  rcases List.mem_cons.mp hb with z|hb
  ·subst z
   exact⟨_,he,fun v z=>by cases(show Data.fields _=Data.cell v from z)⟩
  ·have z:b=it:=by simpa using hb
   subst z
   exact⟨o,ho,fun v z=>by rw[d] at z;cases z⟩
 keep:=fun i h h' st k=>by
  obtain⟨⟨old,he⟩,hit⟩:=st
  exact⟨⟨old,k e (by simp) _ he⟩,hit.at fun o q=>k it (by simp) o q⟩
 item:=by
  intro X hP hw hK hc i pins s σ H E I hf st hg
  subst hP hw hK
  obtain⟨⟨old,he⟩,hit⟩:=st
  obtain⟨xs,x,hq,hx⟩:=hg
  obtain⟨its,rv,p,hz⟩:=I.tuple hq
  obtain⟨u,hu,ru⟩:=rv.get hx
  have hlt:i<its.toArray.size:=by
   have:=(List.getElem?_eq_some_iff.mp hu).1
   simpa using this
  refine wpAny_pyNext_enum_itemD (yK (A:=X.A.in1) (I.ok.hd hc) it a hai its.toArray) he ⟨hit,p⟩ hlt hne (by simp[hne,hae.symm]) fun y h1 tk hy ho hit1 hT hsz hk=>⟨_,rfl,?_⟩
  have hyu:y=u:=by
   have q:its.toArray[i]? =some u:=by simpa using hu
   rw[q] at hy
   exact(Option.some.inj hy).symm
  subst hyu
  refine wpAny_letOwnedTupleGo_enum (s:={s with heap:=h1,toks:=tk+1}) ho fun h2 he2 hs2=> ?_
  have hel:e<s.heap.objs.size:=Heap.lt_size he
  have hil:it<s.heap.objs.size:=by obtain⟨_,z,_⟩:=hit;exact Heap.lt_size z
  have hn:H s.heap.objs.size=none:=I.hok.fresh (Nat.le_refl _)
  have kk:∀b o,b∉[e,it]→s.heap.get? b=some o→h2.get? b=some o:=fun b o hb q=>by
   have h3:b≠e:=fun z=>hb (by simp[z])
   have h4:b≠it:=fun z=>hb (by simp[z])
   exact(hs2.2 b h3).trans (hk b o h3 h4 q)
  have hT2:h2.get? s.heap.objs.size=some {cls:= .type "tuple",data:= .seq #[.int i tk,y]}:=(hs2.2 _ (Nat.ne_of_gt hel)).trans hT
  have I2:Inv X pins σ (cU H s.heap.objs.size (.tup [.int i,x])) {s with heap:=h2,toks:=tk+1}:=
   I.turnedLaid (ch:=[e,it]) hf kk (Nat.le_refl _) ⟨by show 2≤sizeLine;decide,[.int i tk,y],.cons ⟨_,rfl⟩ (.cons ru .nil),⟨_,hT2,rfl,_,rfl⟩⟩
  refine⟨.ref s.heap.objs.size,_,I2,rfl,⟨_,x,hn,rfl,fun ys hy=>by rw[wO I hy hq];exact hx,rfl⟩,⟨⟨y,he2⟩,hit1.1.at fun o q=>(hs2.2 it hne.symm).trans q⟩,fun b hb=> ?_⟩
  have hb2:b≠s.heap.objs.size:=by
   rcases List.mem_cons.mp hb with z|hb
   ·rw[z];exact Nat.ne_of_lt hel
   ·rw[show b=it by simpa using hb];exact Nat.ne_of_lt hil
  rw[aK hb2]
  exact(hf b hb).1
 done:=by
  intro X hP hw hK hc i pins s σ H E I hf st hg
  subst hP hw hK
  obtain⟨⟨old,he⟩,hit⟩:=st
  obtain⟨xs,hq,hx⟩:=hg
  obtain⟨its,rv,p,hz⟩:=I.tuple hq
  obtain⟨f0,f1,f2,f3,f4,f5⟩:=hf it (by simp)
  have hl:=rv.length
  have D':Draws X.prog X.w X.A.in1 it [it,a] i (fun _ _=>True) (fun j h=>j=i∧h.IsTupleIter it a i∧h.IsTuple a its.toArray):=
   ⟨fun j h st=>let⟨o,ho,_⟩:=st.2.1;⟨o,ho⟩,fun j h h' st hk=>⟨st.1,st.2.1.at fun o e=>hk it (by simp) o e,let⟨o,h1,h2⟩:=st.2.2;⟨o,hk a (by simp) o h1,h2⟩⟩,
    fun j s Q E hj st hQ=>absurd st.1 (Nat.ne_of_lt hj),fun s Q E st hE=>gH (I.ok.hd hc) st.2.1 st.2.2 (by simp;omega) hE⟩
  exact wpAny_pyNext_enum_endD D' he ⟨rfl,hit,p⟩ fun h1 eb=>⟨rfl,I.turned (t':=s.toks) (fun b o hb q=>eb b o hb q) f0 f1 f3 f4 f5⟩
 self:=fun _ _ _ _ _ st h=>by
  obtain⟨⟨old,he⟩,_⟩:=st
  exact wpAny_pyIter_enum he h
noncomputable def zM (K:PySem.W.Frag) (ta:TA):TI:=fun σ H R=>ta σ H fun vs H1=>∃a,vs=[.ref a]∧(((∃xs,SqL K H1 a xs)∧R (G9 K a) H1)∨((∃xs,SqT K H1 a xs)∧R (DG K a) H1))
theorem zn {X:Cx} {l:Expr} {ta:TA} {p pos tp:Pos} {elts:List Expr} {kk} (hg:Gl X "enumerate") (hm:X.mg "enumerate"=none) (ha:PA X [l] ta) (hs:starEach [l] X.env=[(false,eval l X.env)]:=by rfl):
  PI X (.Tuple elts kk tp) (.Call (.Name "enumerate" p) [l] [] pos) (zM X.K ta):=by
 intro pins s σ H R I h
 refine Call_ (mq I hg hm boot_enumerate (PyProof.Rows.callWith_type1 (eJ (ha pos pins s σ H _ I h) fun us s1 ⟨vs,H1,I1,r1,q1⟩=> ?_) hs rfl))
 obtain⟨a,e,q⟩:=q1
 subst e
 obtain⟨u,rfl,ru⟩:=jZ r1
 cases ru
 have fp:∀b∈[s1.heap.objs.size+1,s1.heap.objs.size],lY X pins H1 b:=fun b hb=>by
  have hb2:s1.heap.objs.size≤b:=by
   rcases List.mem_cons.mp hb with z|hb
   ·rw[z];exact Nat.le_succ _
   ·rw[show b=s1.heap.objs.size by simpa using hb];exact Nat.le_refl _
  exact I1.fpOk hb2 (I1.hok.fresh hb2)
 rcases q with⟨⟨xs,hq⟩,q⟩|⟨⟨xs,hq⟩,q⟩
 ·obtain⟨its,rv,pl,hz⟩:=I1.list hq
  refine call_enumerate_list pl.isList fun h1 he hit hsz hk=> ?_
  refine wpAny_pyIter_enum (s:={s1 with heap:=h1}) he ?_
  exact⟨s1.heap.objs.size+1,[s1.heap.objs.size+1,s1.heap.objs.size],_,_,H1,rfl,I1.kept (t':=s1.toks) hk,xz a _ _ (Nat.succ_ne_self _),⟨⟨_,he⟩,hit⟩,fp,q⟩
 ·obtain⟨its,rv,pl,hz⟩:=I1.tuple hq
  refine jP pl fun h1 he hit hsz hk=> ?_
  refine wpAny_pyIter_enum (s:={s1 with heap:=h1}) he ?_
  have hal:a<s1.heap.objs.size:=by obtain⟨_,z,_⟩:=pl;exact Heap.lt_size z
  exact⟨s1.heap.objs.size+1,[s1.heap.objs.size+1,s1.heap.objs.size],_,_,H1,rfl,I1.kept (t':=s1.toks) hk,vD a _ _ (Nat.succ_ne_self _) (Nat.ne_of_lt hal) (Nat.ne_of_lt (Nat.lt_succ_of_lt hal)),⟨⟨_,he⟩,hit⟩,fp,q⟩
noncomputable def eA (i:Nat):List D→List D
 |[]=>[]
 |d::r=> .tuple [.int (i:Nat),d]::eA (i+1) r
theorem ic:∀(ds:List D) (i:Nat),(eA i ds).length=ds.length
 |[],_=>rfl
 |d::r,i=>by show(eA (i+1) r).length+1=r.length+1;rw[ic r]
theorem jd:∀(ds:List D) (i j:Nat),(eA i ds)[j]? =(ds[j]?).map fun d=> .tuple [.int ((i+j:Nat):Int),d]
 |[],_,_=>by simp[eA]
 |d::r,i,0=>rfl
 |d::r,i,j+1=>by
  show(eA (i+1) r)[j]? =_
  rw[jd r (i+1) j,List.getElem?_cons_succ]
  have:i+1+j=i+(j+1):=by omega
  rw[this]
section
variable {K:PySem.W.Frag} {E:XK} {B O O':dw} {H0 H H':Hp} {σ:L2.St} {ρ ρ':bb} {v:V}
theorem zJ {a:Addr} {xs:List V} {ds:List D} (h:SqLO O K H a xs) (hd:DVs O K H xs ds):vN K (G9 K a) O H (eA 0 ds):=by
 intro O' H' e n
 have h':=h.ev e
 have hd':=hd.ev e
 rw[ic]
 refine⟨fun i hi=> ?_,⟨xs,h'.1.sq,by rw[hd.length];exact Nat.le_refl _⟩⟩
 obtain⟨x,hx,dx⟩:=hd'.get (List.getElem?_eq_getElem hi)
 refine⟨⟨xs,x,h'.1.sq,hx⟩,?_⟩
 rintro y H'' ⟨p,z,hp,rfl,hz,rfl⟩
 have hz':=hz xs h'.1.sq
 rw[hx] at hz'
 cases hz'
 refine⟨b9 hp _,.tuple [.int i,ds[i]],?_,.tup ⟨SqT.of bj,fun q=>absurd q (n p hp)⟩ (.cons (.int _) (.cons (dx.ev (Ev.grow (b9 hp _))) .nil))⟩
 rw[jd,List.getElem?_eq_getElem hi]
 simp
theorem yM {a:Addr} {xs:List V} {ds:List D} (h:SqTO O K H a xs) (hd:DVs O K H xs ds):vN K (DG K a) O H (eA 0 ds):=by
 intro O' H' e n
 have h':=h.ev e
 have hd':=hd.ev e
 rw[ic]
 refine⟨fun i hi=> ?_,⟨xs,h'.1,by rw[hd.length];exact Nat.le_refl _⟩⟩
 obtain⟨x,hx,dx⟩:=hd'.get (List.getElem?_eq_getElem hi)
 refine⟨⟨xs,x,h'.1,hx⟩,?_⟩
 rintro y H'' ⟨p,z,hp,rfl,hz,rfl⟩
 have hz':=hz xs h'.1
 rw[hx] at hz'
 cases hz'
 refine⟨b9 hp _,.tuple [.int i,ds[i]],?_,.tup ⟨SqT.of bj,fun q=>absurd q (n p hp)⟩ (.cons (.int _) (.cons (dx.ev (Ev.grow (b9 hp _))) .nil))⟩
 rw[jd,List.getElem?_eq_getElem hi]
 simp
noncomputable def qh (fa:FA):FI:=fun ρ=>(fa ρ).bind fun a=>(Res.ofO (jH a.2 a.1)).bind fun b=>match b.1 with
 |[d]=>(Res.ofO (gj d)).bind fun ds=> .ok (eA 0 ds,b.2)
 |_=> .bad
theorem Bk {ta:TA} {fa:FA} (h:AO K E ta fa):IO K E (zM K ta) (qh fa):=by
 intro B H0 O σ H ρ R' R w
 refine h B H0 O σ H ρ _ R (w.bind.imp fun a w1 O1 vs H1 e1 R1 p1=> ?_)
 obtain⟨⟨ds,ρ2⟩,q,w1⟩:=w1.ofO
 obtain⟨O2,e2,R2,dv⟩:=kR R1 p1 q
 dsimp only at w1
 cases dv with
 |nil=>exact w1.elim
 |cons h1 h2=>
  cases h2 with
  |cons _ _=>exact w1.elim
  |nil=>
   obtain⟨es,qs,w1⟩:=WR.ofO w1
   cases h1 with
   |tup h hs=>cases qs;exact⟨_,rfl,.inr ⟨⟨_,h.1⟩,w1 O2 _ H1 (e1.trans e2) R2 (yM h hs)⟩⟩
   |lst h hs=>cases qs;exact⟨_,rfl,.inl ⟨⟨_,h.1.sq⟩,w1 O2 _ H1 (e1.trans e2) R2 (zJ h hs)⟩⟩
   |_=>cases qs
end
theorem yo {bs:List Bool} {its:List Value} (r:Vals (bs.map V.bl) its) {i:Nat} {v:Value} (h:its[i]? =some v):∃b,bs[i]? =some b∧v= .bool b:=by
 have hl:=r.length
 rw[List.length_map] at hl
 have hi:i<bs.length:=by rw[hl];exact(List.getElem?_eq_some_iff.mp h).1
 obtain⟨u,hu,ru⟩:=r.get (i:=i) (x:= .bl bs[i]) (by rw[List.getElem?_map,List.getElem?_eq_getElem hi];rfl)
 rw[h] at hu
 cases hu
 exact⟨bs[i],List.getElem?_eq_getElem hi,ru⟩
theorem vj (bs:List Bool):((List.range bs.length).all fun i=>(bs[i]?).getD true)=bs.all id:=by
 rw[Bool.eq_iff_iff,List.all_eq_true,List.all_eq_true]
 constructor
 ·intro h b hb
  obtain⟨i,hi,e⟩:=List.mem_iff_getElem.mp hb
  have:=h i (List.mem_range.mpr hi)
  rw[List.getElem?_eq_getElem hi,e] at this
  exact this
 ·intro h i hi
  have hi:=List.mem_range.mp hi
  rw[List.getElem?_eq_getElem hi]
  exact h _ (List.getElem_mem hi)
section
variable {X:Cx}
theorem lL (hc:X.calm=true):CallR X (.builtin "all") (fun xs H Q=>∃(p:Addr) (bs:List Bool),xs=[.ref p]∧SqL X.K H p (bs.map V.bl)∧Q (.bl (bs.all id)) H):=by
 intro pins s σ H xs us Q I r h
 obtain⟨l,bs,rfl,hq,q⟩:=h
 obtain⟨u,rfl,ru⟩:=jZ r
 cases ru
 obtain⟨its,rv,pl,hz⟩:=I.list hq
 have hlen:=rv.length
 rw[List.length_map] at hlen
 have hlt:l<s.heap.objs.size:=by obtain⟨_,_,e,_⟩:=pl;exact Heap.lt_size e
 refine call_all_walk (wpAny_pyIter_list pl.isList ?_)
 refine⟨s.heap.objs.size,[s.heap.objs.size,l],[s.heap.objs.size],its.toArray.size,_,_,fun i=>(bs[i]?).getD true,rfl,Walks.list (A:=X.A.in1) (I.ok.hd hc) _ l (Nat.ne_of_lt hlt) its.toArray,
  ⟨⟨_,Heap.get?_push_size _ rfl,rfl,rfl⟩,pl.isList.push _⟩,fun i v s' Q' E' hP hQ=> ?_,fun h' tk hk=> ?_⟩
 ·obtain⟨b,e,rfl⟩:=yo rv (i:=i) (v:=v) (by simpa using hP)
  simp only[e,Option.getD_some] at hQ
  exact wpAny_truthy_bool hQ
 ·rw[List.size_toArray,←hlen,vj]
  refine⟨.bl _,H,I.kept (t':=tk) fun b o e=>hk b o (fun hm=> ?_) (Heap.get?_push_of_some _ e),rfl,q⟩
  rw[List.mem_singleton.mp hm] at e
  exact Nat.lt_irrefl _ (Heap.lt_size e)
end
section
variable {K:PySem.W.Frag}
noncomputable def qX:List D→Option (List Bool)
 |[]=>some []
 | .bool b::r=>(qX r).map (b::·)
 |_=>none
theorem vW {O:dw} {H:Hp}:∀{xs:List V} {ds:List D} {bs:List Bool},DVs O K H xs ds→qX ds=some bs→xs=bs.map V.bl
 |_,_,_,.nil,e=>by cases e;rfl
 |_,_,bs,.cons (vs:=vs) (ds:=r) h t,e=>by
  cases h with
  |bl b=>
   have e':(qX r).map (b::·)=some bs:=e
   cases q:qX r with
   |none=>rw[q] at e';cases e'
   |some bs'=>
    rw[q] at e'
    cases e'
    rw[vW t q]
    rfl
  |_=>cases e
noncomputable def tP:List D→Option RV
 |[.list ds]=>(qX ds).map fun bs=> .fz (.bool (bs.all id))
 |_=>none
theorem rq:A6 K (fun xs H Q=>∃(p:Addr) (bs:List Bool),xs=[.ref p]∧SqL K H p (bs.map V.bl)∧Q (.bl (bs.all id)) H) tP:=by
 intro O H xs ds rv Q n hp e q
 unfold tP at e
 split at e
 ·rename_i es
  cases qs:qX es with
  |none=>rw[qs] at e;cases e
  |some bs=>
   rw[qs] at e
   cases e
   cases hp with
   |cons h1 h2=>
    cases h2
    obtain⟨a,ys,rfl,h1,h2⟩:=yz h1
    have:=vW h2 qs
    subst this
    exact⟨a,bs,rfl,h1.sq,q.at (.bl _)⟩
 ·cases e
noncomputable def mL:List D→Option (List Int)
 |[]=>some []
 | .int b::r=>(mL r).map (b::·)
 |_=>none
theorem nU {O:dw} {H:Hp}:∀{xs:List V} {ds:List D} {bs:List Int},DVs O K H xs ds→mL ds=some bs→xs=bs.map V.int
 |_,_,_,.nil,e=>by cases e;rfl
 |_,_,bs,.cons (vs:=vs) (ds:=r) h t,e=>by
  cases h with
  |int b=>
   have e':(mL r).map (b::·)=some bs:=e
   cases q:mL r with
   |none=>rw[q] at e';cases e'
   |some bs'=>
    rw[q] at e'
    cases e'
    rw[nU t q]
    rfl
  |_=>cases e
noncomputable def vx (x:Int):List Int→List Int
 |[]=>[x]
 |y::r=>if x≤y then x::y::r else y::vx x r
noncomputable def gx:List Int→List Int
 |[]=>[]
 |x::r=>vx x (gx r)
theorem mE (x:Int):∀l,(vx x l).Perm (x::l)
 |[]=>List.Perm.refl _
 |y::r=>by
  unfold vx
  split
  ·exact List.Perm.refl _
  ·exact((mE x r).cons y).trans (List.Perm.swap x y r)
theorem im:∀l,(gx l).Perm l
 |[]=>List.Perm.refl _
 |x::r=>(mE x _).trans ((im r).cons x)
theorem mX (x:Int):∀l:List Int,l.Pairwise (·≤·)→(vx x l).Pairwise (·≤·)
 |[],_=>by simp[vx]
 |y::r,h=>by
  unfold vx
  obtain⟨h1,h2⟩:=List.pairwise_cons.mp h
  split
  ·rename_i hxy
   refine List.pairwise_cons.mpr ⟨fun z hz=> ?_,h⟩
   rcases List.mem_cons.mp hz with e|e
   ·rw[e];exact hxy
   ·have:=h1 z e;omega
  ·rename_i hxy
   refine List.pairwise_cons.mpr ⟨fun z hz=> ?_,mX x r h2⟩
   rcases List.mem_cons.mp ((mE x r).mem_iff.mp hz) with e|e
   ·rw[e];omega
   ·exact h1 z e
theorem gy:∀l,(gx l).Pairwise (·≤·)
 |[]=>List.Pairwise.nil
 |x::r=>mX x _ (gy r)
theorem mF {l m:List Int} (hp:l.Perm m) (hl:l.Pairwise (·≤·)) (hm:m.Pairwise (·≤·)):l=m:=hp.eq_of_pairwise (fun a b _ _ h1 h2=>Int.le_antisymm h1 h2) hl hm
noncomputable def sQ:List D→Option RV
 |[.list ds]=>(match mL ds with
  |some ns=>if ns.length<64 then some (.ow ((gx ns).map .int)) else none
  |none=>none)
 |_=>none
theorem oG {O:dw} {H:Hp} (ns:List Int):DVs O K H (ns.map V.int) (ns.map .int):=by
 induction ns with
 |nil=>exact .nil
 |cons n r ih=>exact .cons (.int n) ih
theorem xO:A6 K (fun xs H Q=>∃(p:Addr) (ns:List Int),xs=[.ref p]∧SqL K H p (ns.map V.int)∧ns.length<64∧∀(l:Addr) (ms:List Int),H l=none→ms.Perm ns→ms.Pairwise (·≤·)→Q (.ref l) (cU H l (.lst (ms.map V.int)))) sQ:=by
 intro O H xs ds rv Q n hp e q
 unfold sQ at e
 split at e
 ·rename_i es
  cases qs:mL es with
  |none=>rw[qs] at e;cases e
  |some ns=>
   rw[qs] at e
   dsimp only at e
   split at e
   ·rename_i hl
    cases e
    cases hp with
    |cons h1 h2=>
     cases h2
     obtain⟨a,ys,rfl,h1,h2⟩:=yz h1
     have:=nU h2 qs
     subst this
     refine⟨a,ns,rfl,h1.sq,hl,fun l ms hl hp hs=> ?_⟩
     have em:ms=gx ns:=mF (hp.trans (im ns).symm) hs (gy ns)
     subst em
     exact Fin.new (oG _) q l hl
   ·cases e
 ·cases e
end
end L3
namespace L3
open PySem PySem.Spec PyProof.Rows L2
noncomputable def HE (K:PySem.W.Frag) (H:Hp) (x:V) (t:String):Prop:=match x with
 | .non=>t= "NoneType"
 | .bl _=>t= "bool"
 | .int _=>t= "int"
 | .str _=>t= "str"
 | .ref a=>(t= "list"∧∃xs,SqL K H a xs)∨(t= "tuple"∧∃xs,SqT K H a xs)
 |_=>False
noncomputable def CZ (K:PySem.W.Frag):List V→Hp→VK→Prop:=fun xs H Q=>∃x n t b,xs=[x,.ty n]∧HE K H x t∧PySem.W.kitOne K (.type t) (.type n)=some b∧Q (.bl b) H
theorem pT {X:Cx}:CallR X (.builtin "isinstance") (CZ X.K):=by
 intro pins s σ H xs us Q I r h
 obtain⟨x,n,t,b,rfl,ty,e,q⟩:=h
 obtain⟨u,w',rfl,rx,rn⟩:=pX r
 obtain rfl:w'=Value.type n:=rn
 have fin:∀tk,EP X pins σ Q (.bool b) {s with toks:=tk}:=fun tk=>⟨.bl b,H,I.tok tk,rfl,q⟩
 cases x with
 |non=>cases(show t= "NoneType" from ty);cases(show u=Value.none from rx);exact PySem.W.kia_one PySem.W.kitx_none I.kIn True.intro e (fun z=>nomatch z) fin
 |bl y=>cases(show t= "bool" from ty);cases(show u=Value.bool y from rx);exact PySem.W.kia_one PySem.W.kitx_bool I.kIn True.intro e (fun z=>nomatch z) fin
 |int i=>cases(show t= "int" from ty);obtain⟨t,q⟩:=(show∃t,u=Value.int i t from rx);cases q;exact PySem.W.kia_one PySem.W.kitx_int I.kIn True.intro e (fun z=>nomatch z) fin
 |str y=>cases(show t= "str" from ty);obtain⟨t,q⟩:=(show∃t,u=Value.str y t from rx);cases q;exact PySem.W.kia_one PySem.W.kitx_str I.kIn True.intro e (fun z=>nomatch z) fin
 |ref a=>
  cases(show u=Value.ref a from rx)
  rcases ty with⟨rfl,xs,h⟩|⟨rfl,xs,h⟩
  ·obtain⟨its,r,⟨o,k,h1,h2,_⟩,_⟩:=I.list h
   exact PySem.W.kia_one PySem.W.kitx_list I.kIn ⟨_,h1,h2⟩ e (fun z=>nomatch z) fin
  ·obtain⟨its,r,⟨o,h1,h2,_⟩,_⟩:=I.tuple h
   exact PySem.W.kia_one PySem.W.kitx_tuple I.kIn ⟨o,h1,h2⟩ e (fun z=>nomatch z) fin
 |_=>exact(show False from ty).elim
section
variable {K:PySem.W.Frag} {E:XK} {B O O':dw} {H0 H H':Hp} {σ:L2.St} {ρ ρ':bb} {v:V}
noncomputable def Aa:D→Option String
 | .none=>some "NoneType"
 | .bool _=>some "bool"
 | .int _=>some "int"
 | .str _=>some "str"
 | .list _=>some "list"
 | .tuple _=>some "tuple"
 | .dict _=>none
noncomputable def Br (n t:String):Bool:=n==t||(n== "int"&&t== "bool")
theorem A9 {n t:String} (hn:n= "int"∨n= "bool"∨n= "str"∨n= "list"∨n= "tuple") {d:D} (ht:Aa d=some t):PySem.W.kitOne K (.type t) (.type n)=some (Br n t):=by
 cases d<;>(cases ht;try (rcases hn with rfl|rfl|rfl|rfl|rfl<;>rfl))
theorem FP {x:V} {d:D} {t:String} (h:DX O K H x d) (e:Aa d=some t):HE K H x t:=by
 cases d with
 |none=>cases e;cases h;rfl
 |bool b=>cases e;cases h;rfl
 |int b=>cases e;cases h;rfl
 |str b=>cases e;cases h;rfl
 |dict b=>cases e
 |list ds=>cases e;obtain⟨a,xs,rfl,h1,_⟩:=yz h;exact .inl ⟨rfl,xs,h1.sq⟩
 |tuple ds=>cases e;obtain⟨a,xs,rfl,h1,_⟩:=uL h;exact .inr ⟨rfl,xs,h1.1⟩
noncomputable def yf (n:String) (fa:FE):FE:=fun ρ=>(fa ρ).bind fun a=>(Res.ofO (kF a.2 a.1)).bind fun d=>(Res.ofO (Aa d)).bind fun t=> .ok (.fz (.bool (Br n t)),a.2)
theorem Ay {n:String} {ta:TE} {fa:FE} (hn:n= "int"∨n= "bool"∨n= "str"∨n= "list"∨n= "tuple") (ha:EO K E ta fa):EO K E (Ep (CZ K) (lD ta (lD (tC (.ty n)) vy))) (yf n fa):=by
 intro B H0 O σ H ρ Q R w
 refine ha B H0 O σ H ρ _ R (w.bind.imp fun a w1 O1 x H1 e1 R1 p1=> ?_)
 obtain⟨d,q,w1⟩:=w1.ofO
 obtain⟨t,qt,w1⟩:=w1.ofO
 exact⟨x,n,t,Br n t,rfl,FP (ip R1 p1 q) qt,A9 hn qt,w1 O1 _ H1 e1 R1 (.bl _)⟩
end
section
variable {K:PySem.W.Frag}
noncomputable def A3:List D→Option RV
 |[.int i]=>some (.fz (.int i))
 |[.bool k]=>some (.fz (.int (if k then 1 else 0)))
 |_=>none
theorem A0:A6 K (fun xs H Q=>(∃i,xs=[.int i]∧Q (.int i) H)∨∃k,xs=[.bl k]∧Q (.int (if k then 1 else 0)) H) A3:=by
 intro O H xs ds rv Q n hp e q
 unfold A3 at e
 split at e
 ·cases e
  cases hp with
  |cons h1 h2=>cases h2;cases h1;exact .inl ⟨_,rfl,q.at (.int _)⟩
 ·cases e
  cases hp with
  |cons h1 h2=>cases h2;cases h1;exact .inr ⟨_,rfl,q.at (.int _)⟩
 ·cases e
end
theorem xu {P:Program} {w:World} {K:PySem.W.Frag} {mg mb:Str→Option Value} {k:Nat} {fa a:Addr} {fd:FuncData} {x:Str} {F:FN} {s₁:Shared} {vs:List Value} {ns:List Int}
  (KX:K.In s₁.heap) (hns:s₁.heap.Ns mainGlobals mg) (hb:s₁.heap.Ns builtinsNs mb) (hbb:∀x:Str,x≠ "__name__"→mb x=bootBuiltins x) (hlim:s₁.heap.NoLimit) (hg:s₁.gens= #[])
  (ha:s₁.heap.get? a=some {cls:= .type "list",data:= .seq vs.toArray}) (hi:IntsAre vs ns) (hl:ns.length≤sizeLine) (hr:Room k callerA)
  (FF:∀base:Heap,K.In base→base.Ns mainGlobals mg→FnOk P w K mg base gX k fa fd [x] (i8 K 1 F)) (hbind:∀(s:Shared) (u:Value),BindsTo s fd ⟨[u],[]⟩ [(x,u)])
  (hF:F [.list (ns.map .int)]= .ok (.fz (.bool true))):
  codeAny (model P w) callerA (.call (.ref fa) ⟨[.ref a],[]⟩) (fun r s'=>r= .ok (.ret (.bool true))∧OldK s₁.heap s'.heap∧s'.os=s₁.os∧AllBare s'.gens) s₁:=by
 refine zL (sp:=fun vs H Q E=>i8 K 1 F vs H Q E∨(vs.length=1∧False)) KX hns hb hbb hlim hg ha hi hl hr (fun base k1 k2=>(FF base k1 k2).imp fun vs H Q E h=> ?_) hbind (fun H hO hS=> ?_) fun _ _ _ h=>h
 ·rcases h with h|h
  ·exact h
  ·exact h.2.elim
 ·refine .inl ⟨rfl,HU,[.list (ns.map .int)],fun a z=>z.elim,.cons (.lst ⟨?_,fun z=>z.elim⟩ (oG ns)) .nil,?_⟩
  ·rcases hS with h|⟨o,its,n,h1,h2,h3,h4,h5,h6⟩
   ·exact .inl h
   ·have e:=KX a o h1
    rw[ha] at e
    cases e
    cases h4
    exact .inr ⟨vs,0,h1,by rw[List.length_map];exact hl,by simpa using h6⟩
  ·rw[hF]
   exact fun v H' s dv=>by cases dv;rfl
theorem Gm {l:PySem.W.OpenLaw} {n k:Nat} {q:Program} {loose:List Str} {XP:(Str→Option Value)→Heap→Prop} {YP:World→Heap→Prop} {d:DefRec} {K:Params→PySem.W.Frag} {F:FN} {x:Str}
  (hn:l.most=some n) (hn2:n≤sizeLine) (hdf:d.params.defaults=[]) (hr:Room k callerA)
  (hY:∀(w:World) (h:Heap),YP w h→(K w.params).In h)
  (FF:∀(w:World) (mg:Str→Option Value) (fa:Addr) (h:Heap),(K w.params).In h→h.Ns mainGlobals mg→mg d.name=some (.ref fa)→
   ∃fd:FuncData,(∀(s:Shared) (u:Value),BindsTo s fd ⟨[u],[]⟩ [(x,u)])∧∀base:Heap,(K w.params).In base→base.Ns mainGlobals mg→FnOk l.prog w (K w.params) mg base gX k fa fd [x] (i8 (K w.params) 1 F))
  (hF:∀ns:List Int,ns.length≤n→F [.list (ns.map .int)]= .ok (.fz (.bool true))):
  PySem.W.WalkO q loose XP YP l.row.toRowW d [] (fun f vs=>PySem.call f vs):=by
 refine Att.attach_call hn hdf fun w s₀ s₁ mg mb fa o pm cd doc a vs ns G Y ho hd hcd hmg hobj hints hlen hg=> ?_
 have KX:=hY w _ Y
 obtain⟨fd,hb,hFF⟩:=FF w mg fa _ KX G.T.g hmg
 exact xu KX G.T.g G.T.b G.T.builtins G.T.nolimit hg hobj hints (Nat.le_trans hlen hn2) hr hFF hb (hF ns hlen)
theorem oM {P:Program} {w:World} {K:PySem.W.Frag} {mg:Str→Option Value} {base:Heap} {x qual:Str} {st:Stmt} {f:Addr} {fd:FuncData} {N ps:List Str} {k n m:Nat} {g:FS} {FF:FN} (F:Fun K x qual st f fd) (S:FnScope N ps (aw st)) (hn:ps.length=n) (hm:N.length=m) (hF:FF=fq m g)
  (hbody:∀(cdv:Value) (A:Around) (outer:List Env) (s:Shared) (H:Hp) (E:XK),Room k (A.deeper (PyProof.Rows.envOfC qual (aw st) s.heap.objs.size f cdv))→
   ∃t,PSs (fJ gX P w K mg base N qual (aw st) f cdv A outer s H E).nox (ax st) t∧SO K E t g):FnOk P w K mg base gX (k+1) f fd ps (i8 K n FF):=by
 subst hF hm
 exact HR F S hn hbody
noncomputable abbrev cW (P:Program) (w:World) (K:PySem.W.Frag) (mg:Str→Option Value) (base:Heap) (k:Nat) (x:Str) (ps:List Str) (n:Nat) (F:FN):Prop:=pZ P w K mg base k x ps (i8 K n F)
end L3
namespace L3
open PySem L2
noncomputable abbrev nd (n:Nat):D:= .int (n:Int)
noncomputable def eS (ns:List Nat):List D:=ns.map nd
theorem dZ (ns:List Nat):(eS ns).length=ns.length:=by unfold eS;rw[List.length_map]
theorem gU {ns:List Nat} {i:Nat} {d:D} (h:(eS ns)[i]? =some d):∃n,ns[i]? =some n∧d=nd n:=by
 unfold eS at h
 rw[List.getElem?_map] at h
 cases e:ns[i]? with
 |none=>rw[e] at h;cases h
 |some n=>rw[e] at h;exact⟨n,rfl,(Option.some.inj h).symm⟩
theorem bc {α:Type} (a:α):Res.ofO (some a)= .ok a:=rfl
theorem ug {α:Type} (a:α):jb (Res.ok a)= .ok a:=rfl
theorem vC (i:Nat) (ρ:bb):ag i ρ=wW ρ i ρ[i]? :=rfl
theorem zu (ρ:bb) (i:Nat) (d:D):wW ρ i (some (some (.fz d)))= .ok (.fz d,ρ):=rfl
theorem yZ (ρ:bb) (i:Nat) (ds:List D):wW ρ i (some (some (.ow ds)))= .ok (.pl i,ρ):=rfl
theorem mn (ds:List D):zm (some (some (.ow ds)))=some ds:=rfl
theorem xh (i:Int):GV (.int i)=some i:=rfl
theorem tu (b:Bool):GS (.bool b)=some b:=rfl
theorem oY (ds:List D):bV [.tuple ds]=some (.fz (nd ds.length)):=rfl
theorem gI (i j:Int):me (.int i) (.int j)=some (.fz (.bool (decide (i<j)))):=rfl
theorem kK (i j:Int):tQ (.int i) (.int j)=some (.fz (.bool (decide (i≤j)))):=rfl
theorem kG (i j:Int):my (.int i) (.int j)=some (.fz (.bool (decide (j<i)))):=rfl
theorem AX (i j:Int):Dp (.int i) (.int j)=some (.fz (.bool (decide (j≤i)))):=rfl
theorem vE (i j:Int):cn (.int i) (.int j)=some (.fz (.int (i+j))):=rfl
theorem o3 (i j:Int):jG (.int i) (.int j)=some (.fz (.int (i - j))):=rfl
theorem bU {i j:Int} (h:0<j):bf (.int i) (.int j)=some (.fz (.int (i % j))):=by
 show(if En i j=true then _ else _)=_
 rw[if_pos (show En i j=true from decide_eq_true h)]
theorem dL {i j:Int} (h:0<j∧j<2^128):cy (.int i) (.int j)=some (.fz (.int (i/j))):=by
 show(if EF i j=true then _ else _)=_
 rw[if_pos (show EF i j=true from decide_eq_true h)]
theorem Bb {i j:Int} (h: -(2^64)<i∧i<2^64):xL (.int i) (.int j)=some (.fz (.int (i*j))):=by
 show(if(h9 i||h9 j)=true then _ else _)=_
 rw[if_pos (by rw[show h9 i=true from decide_eq_true h,Bool.true_or])]
theorem Cf {i j:Int} (h: -(2^64)<j∧j<2^64):xL (.int i) (.int j)=some (.fz (.int (i*j))):=by
 show(if(h9 i||h9 j)=true then _ else _)=_
 rw[if_pos (by rw[show h9 j=true from decide_eq_true h,Bool.or_true])]
theorem xk {j:Int} (h:jx j):fK [.int j]=some (g6 0 j.toNat):=by
 show(if jx j then _ else _)=_
 rw[if_pos h]
theorem uy (n:Nat):g6 0 n=eS (List.range n):=by
 unfold g6 eS
 apply List.map_congr_left
 intro k _
 rw[Int.zero_add]
theorem nQ {n:Nat} (h:n≤1000000):fK [nd n]=some (eS (List.range n)):=by
 rw[xk (by unfold jx;omega),uy,Int.toNat_natCast]
theorem hW {f g:FS} {ρ ρ1:bb} (h:f ρ= .ok (.nx ρ1)):aO f g ρ=g ρ1:=by unfold aO;rw[h];rfl
theorem Eh {f g:FS} {ρ:bb} {rv:RV} (h:f ρ= .ok (.rt rv)):aO f g ρ= .ok (.rt rv):=by unfold aO;rw[h];rfl
theorem yt {c:FT} {f g:FS} {ρ ρ1:bb} (h:c ρ= .ok (true,ρ1)):et c f g ρ=f ρ1:=by unfold et;rw[h];rfl
theorem Bf {c:FT} {f g:FS} {ρ ρ1:bb} (h:c ρ= .ok (false,ρ1)):et c f g ρ=g ρ1:=by unfold et;rw[h];rfl
theorem oJ {fi:FI} {gt:FG} {b:FS} {ρ ρ1:bb} {ds:List D} (h:fi ρ= .ok (ds,ρ1)):iU fi gt b ρ=oW gt b ds ρ1:=by unfold iU;rw[h];rfl
theorem qM {i:Int} {j:Nat} (h:j≤1000000∧i.natAbs<2^64):ji (.int i) (nd j)=some (.fz (.int (i^j))):=by
 show(if zU i (j:Int)=true then some (RV.fz (.int (i^((j:Nat):Int).toNat))) else none)=_
 rw[if_pos (by unfold zU;exact decide_eq_true ⟨by omega,by omega,h.2⟩),Int.toNat_natCast]
theorem yU:ji (.int 10) (.int 18)=some (.fz (.int (10^18))):=qM (j:=18) ⟨by decide,by decide⟩
theorem v5 {gt:FG} {b:FS} (I:Nat→bb→Prop):∀(ds:List D) (k:Nat) (ρ:bb),I k ρ→(∀i d ρ,ds[i]? =some d→I (k+i) ρ→∃ρ1 ρ2,gt (.fz d) ρ= .ok ρ1∧(b ρ1= .ok (.nx ρ2)∨b ρ1= .ok (.ct ρ2))∧I (k+i+1) ρ2)→
  ∃ρ',oW gt b ds ρ= .ok (.nx ρ')∧I (k+ds.length) ρ'
 |[],k,ρ,h0,_=>⟨ρ,rfl,h0⟩
 |d::r,k,ρ,h0,hs=>by
  obtain⟨ρ1,ρ2,h1,h2,h3⟩:=hs 0 d ρ rfl h0
  obtain⟨ρ',h4,h5⟩:=v5 I r (k+1) ρ2 h3 fun i d' ρ' hi hI=>by
   have e:k+1+i=k+(i+1):=by omega
   rw[e] at hI⊢
   exact hs (i+1) d' ρ' (by simpa using hi) hI
  have e:k+(r.length+1)=k+1+r.length:=by omega
  refine⟨ρ',?_,by rw[List.length_cons,e];exact h5⟩
  show(gt (.fz d) ρ).bind _=_
  rw[h1,Res.bind_ok]
  rcases h2 with h2|h2<;>(rw[h2,Res.bind_ok];exact h4)
theorem Eu {gt:FG} {b:FS} {ds:List D} {ρ:bb} (I:Nat→bb→Prop) (h0:I 0 ρ) (hs:∀i d ρ,ds[i]? =some d→I i ρ→∃ρ1 ρ2,gt (.fz d) ρ= .ok ρ1∧(b ρ1= .ok (.nx ρ2)∨b ρ1= .ok (.ct ρ2))∧I (i+1) ρ2):
  ∃ρ',oW gt b ds ρ= .ok (.nx ρ')∧I ds.length ρ':=by
 have:=v5 I ds 0 ρ h0 (by simpa using hs)
 simpa using this
noncomputable def iW (gt:FG) (ft:FT) (fe:FE) (d:D) (ρ:bb):Res (Option D×bb):=(gt (.fz d) ρ).bind fun ρ1=>(ft ρ1).bind fun b=>if b.1=true then(fe b.2).bind fun a=>(Res.ofO (uj a.2 a.1)).bind fun x=> .ok (some x.1,dm x.2) else .ok (none,dm b.2)
theorem nY {gt:FG} {ft:FT} {fe:FE} {d:D} {r:List D} {ρ ρ':bb} {acc:List D} {o:Option D} (h:iW gt ft fe d ρ= .ok (o,ρ')) (hl:acc.length<1000000):dW gt ft fe (d::r) ρ acc=dW gt ft fe r ρ' (acc++o.toList):=by
 unfold iW at h
 show(gt (.fz d) ρ).bind _=_
 cases q1:gt (.fz d) ρ with
 |er x=>rw[q1] at h;cases h
 |bad=>rw[q1] at h;cases h
 |ok ρ1=>
  rw[q1,Res.bind_ok] at h
  rw[Res.bind_ok]
  cases q2:ft ρ1 with
  |er x=>rw[q2] at h;cases h
  |bad=>rw[q2] at h;cases h
  |ok b=>
   obtain⟨b,ρ2⟩:=b
   rw[q2,Res.bind_ok] at h
   rw[Res.bind_ok]
   cases b with
   |false=>
    rw[if_neg Bool.false_ne_true] at h⊢
    cases h
    rw[Option.toList_none,List.append_nil]
   |true=>
    rw[if_pos rfl] at h⊢
    cases q3:fe ρ2 with
    |er x=>rw[q3] at h;cases h
    |bad=>rw[q3] at h;cases h
    |ok a=>
     rw[q3,Res.bind_ok] at h
     rw[Res.bind_ok]
     cases q4:uj a.2 a.1 with
     |none=>rw[q4] at h;cases h
     |some x=>
      rw[q4] at h
      cases h
      show(if acc.length<1000000 then _ else _)=_
      rw[if_pos hl]
      rfl
theorem uo {gt:FG} {ft:FT} {fe:FE} (I:bb→Prop) (f:D→Option D):∀(ds:List D) (ρ:bb) (acc:List D),I ρ→acc.length+ds.length≤1000000→(∀d∈ds,∀ρ,I ρ→∃ρ',iW gt ft fe d ρ= .ok (f d,ρ')∧I ρ')→dW gt ft fe ds ρ acc= .ok (acc++ds.filterMap f)
 |[],ρ,acc,_,_,_=>by show Res.ok acc=_;simp
 |d::r,ρ,acc,h0,hl,hs=>by
  obtain⟨ρ',h1,h2⟩:=hs d List.mem_cons_self ρ h0
  rw[List.length_cons] at hl
  rw[nY h1 (by omega),uo I f r ρ' _ h2 (by
   have:(f d).toList.length≤1:=by cases f d<;>simp
   rw[List.length_append];omega) fun d' hd'=>hs d' (List.mem_cons_of_mem _ hd')]
  cases q:f d with
  |none=>rw[List.filterMap_cons_none q,Option.toList_none,List.append_nil]
  |some y=>rw[List.filterMap_cons_some q,Option.toList_some,List.append_assoc];rfl
theorem Co {gt:FG} {ft:FT} {fe:FE} {ds:List D} {ρ:bb} (I:bb→Prop) (f:D→Option D) (h0:I ρ) (hl:ds.length≤1000000) (hs:∀d∈ds,∀ρ,I ρ→∃ρ',iW gt ft fe d ρ= .ok (f d,ρ')∧I ρ'):jb (dW gt ft fe ds ρ [])= .ok (ds.filterMap f):=by
 rw[uo I f ds ρ [] h0 (by simpa using hl) hs]
 rfl
theorem zq (a b:Nat):decide ((a:Int)=(b:Int))=decide (a=b):=by
 by_cases h:a=b
 ·rw[decide_eq_true h,decide_eq_true (by rw[h])]
 ·rw[decide_eq_false h,decide_eq_false (by omega)]
theorem DQ (a b:Nat):PyData.eqv (nd a) (nd b)=decide (a=b):=zq a b
theorem ib (a b:Int):fO (.int a) (.int b)=some (.fz (.bool (decide (a=b)))):=by
 rfl
theorem lN (a b:Int):mY (.int a) (.int b)=some (.fz (.bool (!decide (a=b)))):=by
 rfl
theorem yQ (a b:Nat):fO (nd a) (nd b)=some (.fz (.bool (decide (a=b)))):=by
 rw[ib,zq]
theorem rF:∀ns:List Nat,PyData.canLayAll0 (eS ns)=true
 |[]=>rfl
 |n::r=>by
  show(PyData.canLay0 (nd n)&&PyData.canLayAll0 (eS r))=true
  rw[rF r];rfl
theorem wE:∀ns:List Nat,PyData.depthAll (eS ns)=0
 |[]=>rfl
 |n::r=>by
  show max (PyData.depth (nd n)) (PyData.depthAll (eS r))=0
  rw[wE r];rfl
theorem xi:∀xs ys:List Nat,PyData.eqvAll (eS xs) (eS ys)=decide (xs=ys)
 |[],[]=>rfl
 |[],_::_=>rfl
 |_::_,[]=>rfl
 |n::r,m::t=>by
  show(PyData.eqv (nd n) (nd m)&&PyData.eqvAll (eS r) (eS t))=_
  rw[xi r t,DQ]
  rw[Bool.eq_iff_iff]
  simp
theorem zl (ns:List Nat):kL (.tuple (eS ns))=true:=by
 show(PyData.canLayAll0 (eS ns)&&decide (PyData.depthAll (eS ns)+1≤64))=true
 rw[rF,wE];rfl
theorem Av {α:Type} {xs:List α} {i:Nat} {v:α} (h:xs[i]? =some v):nq xs (i:Int)=some v:=wS h
theorem vY {ds:List D} {i:Nat} {d:D} (h:ds[i]? =some d):bC (.tuple ds) (nd i)=some (.fz d):=by
 show(nq ds (i:Int)).map RV.fz=_
 rw[Av h];rfl
theorem jc {ds:List D} {i:Nat} {d:D} (h:ds[i]? =some d):bC (.list ds) (nd i)=some (.fz d):=by
 show(nq ds (i:Int)).map RV.fz=_
 rw[Av h];rfl
end L3
namespace L3
open PySem L2
section
variable {ρ ρ1 ρ2 ρ3:bb} {fa fb fc fe:FE} {pa pb pv:PV} {dx dy d:D} {rv:RV} {ps:List PV} {ds:List D}
theorem ar {i:Nat} (h:ρ[i]? =some (some (.fz d))):ag i ρ= .ok (.fz d,ρ):=by rw[vC,h,zu]
theorem qE {i:Nat} (h:ρ[i]? =some (some (.ow ds))):ag i ρ= .ok (.pl i,ρ):=by rw[vC,h,yZ]
theorem aU:pC d ρ= .ok (.fz d,ρ):=rfl
theorem a8 {f:D→D→Option RV} (ha:fa ρ= .ok (pa,ρ1)) (hb:fb ρ1= .ok (pb,ρ2)) (hx:kF ρ2 (fw pa)=some dx) (hy:kF ρ2 pb=some dy) (hf:f dx dy=some rv):az f fa fb ρ= .ok (rv.pv,ρ2):=by
 unfold az
 rw[ha,Res.bind_ok,hb,Res.bind_ok,hx,bc,Res.bind_ok,hy,bc,Res.bind_ok,hf,bc,Res.bind_ok]
theorem qk {f:D→Option RV} (ha:fa ρ= .ok (pa,ρ1)) (hx:kF ρ1 pa=some dx) (hf:f dx=some rv):qY f fa ρ= .ok (rv.pv,ρ1):=by
 unfold qY
 rw[ha,Res.bind_ok,hx,bc,Res.bind_ok,hf,bc,Res.bind_ok]
theorem aX {b:Bool} (ha:fa ρ= .ok (pa,ρ1)) (hx:kF ρ1 pa=some (.bool b)):aG fa ρ= .ok (b,ρ1):=by
 unfold aG
 rw[ha,Res.bind_ok,hx,bc,Res.bind_ok,tu,bc,Res.bind_ok]
theorem gp {f g:FT} {a b:Bool} (ha:f ρ= .ok (a,ρ1)) (hb:a=true→g ρ1= .ok (b,ρ1)):gb f g ρ= .ok (a&&b,ρ1):=by
 unfold gb
 rw[ha,Res.bind_ok]
 cases a with
 |true=>rw[if_pos rfl,hb rfl,Bool.true_and]
 |false=>rw[if_neg Bool.false_ne_true,Bool.false_and]
theorem hG {f g:FT} {a b:Bool} (ha:f ρ= .ok (a,ρ1)) (hb:a=false→g ρ1= .ok (b,ρ1)):nK f g ρ= .ok (a||b,ρ1):=by
 unfold nK
 rw[ha,Res.bind_ok]
 cases a with
 |true=>rw[if_pos rfl,Bool.true_or]
 |false=>rw[if_neg Bool.false_ne_true,hb rfl,Bool.false_or]
theorem dY {f:FT} {a:Bool} (ha:f ρ= .ok (a,ρ1)):gL f ρ= .ok (!a,ρ1):=by
 unfold gL
 rw[ha,Res.bind_ok]
theorem lO {a b:Bool} (ha:aG fa ρ= .ok (a,ρ1)) (hb:a=true→fb ρ1= .ok (.fz (.bool b),ρ1)):so fa fb ρ= .ok (.fz (.bool (a&&b)),ρ1):=by
 unfold so
 rw[ha,Res.bind_ok]
 cases a with
 |true=>rw[if_pos rfl,hb rfl,Bool.true_and]
 |false=>rw[if_neg Bool.false_ne_true,Bool.false_and]
theorem o6 {a b:Bool} (ha:aG fa ρ= .ok (a,ρ1)) (hb:a=false→fb ρ1= .ok (.fz (.bool b),ρ1)):Ci fa fb ρ= .ok (.fz (.bool (a||b)),ρ1):=by
 unfold Ci
 rw[ha,Res.bind_ok]
 cases a with
 |true=>rw[if_pos rfl,Bool.true_or]
 |false=>rw[if_neg Bool.false_ne_true,hb rfl,Bool.false_or]
theorem Cl {a:Bool} (ha:aG fa ρ= .ok (a,ρ1)):zh fa ρ= .ok (.fz (.bool (!a)),ρ1):=by
 unfold zh
 rw[ha,Res.bind_ok]
theorem aF:am ρ= .ok ([],ρ):=rfl
theorem ao {fr:FA} (ha:fa ρ= .ok (pa,ρ1)) (hr:fr ρ1= .ok (ps,ρ2)):aa fa fr ρ= .ok (fw pa::ps,ρ2):=by
 unfold aa
 rw[ha,Res.bind_ok,hr,Res.bind_ok]
theorem dA {f:List D→Option RV} {fr:FA} (ha:fr ρ= .ok (ps,ρ1)) (hd:jW ρ1 ps=some ds) (hf:f ds=some rv):dh f fr ρ= .ok (rv.pv,ρ1):=by
 unfold dh
 rw[ha,Res.bind_ok,hd,bc,Res.bind_ok,hf,bc,Res.bind_ok]
theorem eN {F:FN} {n:Nat} {fr:FA} (ha:fr ρ= .ok (ps,ρ1)) (hd:jH ρ1 ps=some (ds,ρ2)) (hn:ds.length=n) (hF:F ds= .ok rv):bx F n fr ρ= .ok (rv.pv,ρ2):=by
 unfold bx
 rw[ha,Res.bind_ok,hd,bc,Res.bind_ok]
 dsimp only
 rw[if_pos hn,hF,ug,Res.bind_ok]
theorem da {fr:FA} (ha:fr ρ= .ok (ps,ρ1)) (hd:jH ρ1 ps=some (ds,ρ2)) (hn:ds.length≤1000):aD fr ρ= .ok (.fz (.tuple ds),ρ2):=by
 unfold aD
 rw[ha,Res.bind_ok,hd,bc,Res.bind_ok]
 dsimp only
 rw[if_pos hn]
theorem fE {fr:FA} (ha:fr ρ= .ok (ps,ρ1)) (hd:jH ρ1 ps=some (ds,ρ2)) (hn:ds.length≤1000):cV fr ρ= .ok (.ow ds,ρ2):=by
 unfold cV
 rw[ha,Res.bind_ok,hd,bc,Res.bind_ok]
 dsimp only
 rw[if_pos hn]
theorem Ee {n t:String} (ha:fa ρ= .ok (pa,ρ1)) (hx:kF ρ1 pa=some dx) (ht:Aa dx=some t):yf n fa ρ= .ok (.fz (.bool (Br n t)),ρ1):=by
 unfold yf
 rw[ha,Res.bind_ok,hx,bc,Res.bind_ok,ht,bc,Res.bind_ok]
theorem eP:eD ρ= .ok (none,ρ):=rfl
theorem dR {i:Int} (ha:fa ρ= .ok (pa,ρ1)) (hx:kF ρ1 pa=some (.int i)):cH fa ρ= .ok (some i,ρ1):=by
 unfold cH
 rw[ha,Res.bind_ok,hx,bc,Res.bind_ok,xh,bc,Res.bind_ok]
theorem iV {f:D→Option Int→Option Int→Option RV} {fl fh:FO} {lo hi:Option Int} (ha:fa ρ= .ok (pa,ρ1)) (hl:fl ρ1= .ok (lo,ρ2)) (hh:fh ρ2= .ok (hi,ρ3)) (hx:kF ρ3 (fw pa)=some dx) (hf:f dx lo hi=some rv):kE f fa fl fh ρ= .ok (rv.pv,ρ3):=by
 unfold kE
 rw[ha,Res.bind_ok,hl,Res.bind_ok,hh,Res.bind_ok,hx,bc,Res.bind_ok,hf,bc,Res.bind_ok]
theorem sV {i:Nat} {es:List D} {x:bb} (h0:ρ[i]? =some (some (.ow es))) (ha:fe ρ= .ok (pa,ρ1)) (ht:uj ρ1 pa=some (d,ρ2)) (h1:ρ2[i]? =some (some (.ow ds))) (hl:ds.length<1000000) (hx:ρ2.set i (some (.ow (ds++[d])))=x):oy i fe ρ= .ok (.fz .none,x):=by
 unfold oy
 rw[h0,mn,bc,Res.bind_ok,ha,Res.bind_ok,ht,bc,Res.bind_ok]
 dsimp only
 rw[h1,mn,bc,Res.bind_ok,if_pos hl,hx]
theorem d8 {n:Nat} {fv:List Nat} {fi:FI} {gt:FG} {ft:FT} {cs xs:List D} (hi:fi ρ= .ok (ds,ρ1)) (hc:pY ρ1 fv=some (cs,ρ2)) (hp:jb (dW gt ft fe ds (List.replicate n none++cs.map fun d=>some (.fz d)) [])= .ok xs):eF n fv fi gt ft fe ρ= .ok (.ow xs,ρ2):=by
 unfold eF
 rw[hi,Res.bind_ok]
 dsimp only
 rw[hc,bc,Res.bind_ok]
 dsimp only
 rw[hp,Res.bind_ok]
theorem uX {a:D} {r:List D}:bC (.tuple (a::r)) (.int 0)=some (.fz a):=vY (i:=0) rfl
theorem Ca {a b:D} {r:List D}:bC (.tuple (a::b::r)) (.int 1)=some (.fz b):=vY (i:=1) rfl
theorem Fh {a b c:D} {r:List D}:bC (.tuple (a::b::c::r)) (.int 2)=some (.fz c):=vY (i:=2) rfl
theorem yL {a:D} {r:List D}:bC (.list (a::r)) (.int 0)=some (.fz a):=jc (i:=0) rfl
theorem FR {a b:D} {r:List D}:bC (.list (a::b::r)) (.int 1)=some (.fz b):=jc (i:=1) rfl
theorem ED {f:D→Option D} {p:Nat→Bool} (xs:List Nat) (h:∀x∈xs,f (nd x)=if p x=true then some (nd x) else none):(eS xs).filterMap f=eS (xs.filter p):=by
 induction xs with
 |nil=>rfl
 |cons x r ih=>
  have h1:=h x List.mem_cons_self
  have h2:=ih fun y hy=>h y (List.mem_cons_of_mem _ hy)
  show((nd x)::eS r).filterMap f=_
  cases q:p x with
  |true=>
   rw[q,if_pos rfl] at h1
   rw[List.filterMap_cons_some h1,h2,List.filter_cons_of_pos q]
   rfl
  |false=>
   rw[q,if_neg Bool.false_ne_true] at h1
   rw[List.filterMap_cons_none h1,h2,List.filter_cons_of_neg (by rw[q];exact Bool.false_ne_true)]
theorem ka {es:List D} (ha:fe ρ= .ok (pa,ρ1)) (ht:uj ρ1 pa=some (d,ρ2)) (hs:gj d=some es):nw fe ρ= .ok (es,ρ2):=by
 unfold nw
 rw[ha,Res.bind_ok,ht,bc,Res.bind_ok]
 dsimp only
 rw[hs,bc,Res.bind_ok]
theorem jn {f:List D→Option (List D)} {fr:FA} {es:List D} (ha:fr ρ= .ok (ps,ρ1)) (hd:jW ρ1 ps=some ds) (hf:f ds=some es):ia f fr ρ= .ok (es,ρ1):=by
 unfold ia
 rw[ha,Res.bind_ok,hd,bc,Res.bind_ok,hf,bc,Res.bind_ok]
theorem uC {fr:FA} {es:List D} (ha:fr ρ= .ok (ps,ρ1)) (hd:jH ρ1 ps=some ([d],ρ2)) (hs:gj d=some es):L3.qh fr ρ= .ok (eA 0 es,ρ2):=by
 unfold L3.qh
 rw[ha,Res.bind_ok,hd,bc,Res.bind_ok]
 dsimp only
 rw[hs,bc,Res.bind_ok]
theorem j7 {g:FG} (he:fe ρ= .ok (pv,ρ1)) (hg:g pv ρ1= .ok ρ2) (hn:ρ2=ρ3):bq fe g ρ= .ok (.nx ρ3):=by
 unfold bq
 rw[he,Res.bind_ok]
 dsimp only
 rw[hg,Res.bind_ok,hn]
theorem jf (he:fe ρ= .ok (pv,ρ1)):gi fe ρ= .ok (.nx ρ1):=by
 unfold gi
 rw[he,Res.bind_ok]
theorem vp (he:fe ρ= .ok (pv,ρ1)) (hr:xw ρ1 pv=some rv):ce fe ρ= .ok (.rt rv):=by
 unfold ce
 rw[he,Res.bind_ok]
 dsimp only
 rw[hr,bc,Res.bind_ok]
theorem pK {gt:FG} {ft:FT} {x:D} (hg:gt (.fz d) ρ= .ok ρ1) (ht:ft ρ1= .ok (true,ρ2)) (he:fe ρ2= .ok (pv,ρ3)) {ρ4 ρ5:bb} (hx:uj ρ3 pv=some (x,ρ4)) (hf:dm ρ4=ρ5):iW gt ft fe d ρ= .ok (some x,ρ5):=by
 unfold iW
 rw[hg,Res.bind_ok,ht,Res.bind_ok,if_pos rfl,he,Res.bind_ok,hx,bc,Res.bind_ok,hf]
theorem Ht {gt:FG} {ft:FT} (hg:gt (.fz d) ρ= .ok ρ1) (ht:ft ρ1= .ok (false,ρ2)) {ρ5:bb} (hf:dm ρ2=ρ5):iW gt ft fe d ρ= .ok (none,ρ5):=by
 unfold iW
 rw[hg,Res.bind_ok,ht,Res.bind_ok,if_neg Bool.false_ne_true,hf]
end
end L3
namespace PySem
open Sem (wp)
open Builtin
open AutoSeq1 (wpAny_loadPart')
theorem mh:fillsNumberSlot (.type "tuple") "mul"=pure false:=
 fillsNumberSlot_seq (id:= "tuple.__mul__") (r:=some (.builtin "tuple.__rmul__")) F.slot_tuple_mul.lookup (by decide+kernel) F.slot_tuple_rmul.lookup (by decide+kernel)
theorem rf:seqRepeat? (.type "tuple")=pure (some (.builtin "tuple.__mul__")):=by
 unfold seqRepeat?
 rw[seqSlot_of (T:= "tuple") (name:= "__mul__") (id:= "tuple.__mul__") F.slot_tuple_mul.lookup (by decide+kernel),seqSlot_of (T:= "tuple") (name:= "__rmul__") (id:= "tuple.__rmul__") F.slot_tuple_rmul.lookup (by decide+kernel)]
 rfl
theorem oE (a:Int) (t:Tok) (l:Addr) (items:Array Value) (n:Nat) (dct:Option Addr) (sl:Array (Option Value)):
  Meets (Builtin.«int.__rmul__» ⟨[.int a t,.ref l],[]⟩) (fun _ R s=>s.heap.get? l=some {cls:= .type "tuple",dict:=dct,data:= .seq items n,slots:=sl}∧R (.ok (.ret Value.notImplemented)) s):=
 .of_wp fun prog w A R s h=>by obtain⟨hp,g,d,tk,os⟩:=s;obtain⟨hl,h⟩:=h;wp_walk;exact⟨_,rfl,h⟩
theorem t9 (l:Addr) (items:Array Value) (n:Nat) (dct:Option Addr) (sl:Array (Option Value)) (u:Tok):
  Meets (Builtin.«tuple.__mul__» ⟨[.ref l,.int 1 u],[]⟩) (fun _ R s=>s.heap.get? l=some {cls:= .type "tuple",dict:=dct,data:= .seq items n,slots:=sl}∧R (.ok (.ret (Value.ref l))) s):=
 .of_wp fun prog w A R s h=>by
  obtain⟨hp,g,d,tk,os⟩:=s;obtain⟨hl,h⟩:=h
  wp_walk
  exact⟨_,rfl,h⟩
theorem tW (l:Addr) (items:Array Value) (n:Nat) (dct:Option Addr) (sl:Array (Option Value)) (x:Int) (u:Tok) (h1:2≤x) (h2:x≤1000) (hne:items.isEmpty=false) (hz:items.size≤1000):
  Meets (Builtin.«tuple.__mul__» ⟨[.ref l,.int x u],[]⟩) (fun _ R s=>s.heap.get? l=some {cls:= .type "tuple",dict:=dct,data:= .seq items n,slots:=sl}∧R (.ok (.ret (Value.ref s.heap.objs.size))) {s with heap:=s.heap.push {cls:=Value.type "tuple",data:=Data.seq (List.foldl (fun x1 x2=>x1++x2) #[] (List.replicate x.toNat items))},toks:=s.toks}):=
 .of_wp fun prog w A R s h=>by
  obtain⟨hp,g,d,tk,os⟩:=s;obtain⟨hl,h⟩:=h
  have c1:¬(decide (x< -(2^63))||decide (x≥2^63))=true:=by simp;omega
  have c2:(x==1)=false:=by simp;omega
  have c3:decide (x≤0)=false:=by simp;omega
  have c0:(items.isEmpty||x==1)=false:=by rw[hne,c2];rfl
  have c4:(decide (x≤0)||items.isEmpty)=false:=by rw[hne,c3];rfl
  have hmul:(items.size:Int)*x≤1000000:=by
   have:(items.size:Int)*x≤1000*1000:=Int.mul_le_mul (by omega) h2 (by omega) (by omega)
   omega
  have c5:¬(items.size:Int)*x>(2^63 - 1)/8:=by omega
  have c6:¬Tuple.tupleTooMany ((items.size:Int)*x)=true:=by
   unfold Tuple.tupleTooMany
   simp
   have:(sizeLine:Nat)=16777216:=by decide
   omega
  wp_walk
  rw[if_neg c1]
  wp_walk using wpAny_loadPart' hl
  rw[if_neg c5]
  dsimp only
  rw[if_neg c6]
  have hz2:(List.foldl (fun x1 x2=>x1++x2) #[] (List.replicate x.toNat items)).size≤sizeLine:=by
   have f0:∀(m:Nat) (b:Array Value),(List.foldl (fun x1 x2=>x1++x2) b (List.replicate m items)).size=b.size+m*items.size:=by
    intro m
    induction m with
    |zero=>intro b;simp
    |succ m ih=>intro b;rw[List.replicate_succ,List.foldl_cons,ih,Array.size_append,Nat.succ_mul];omega
   rw[f0]
   have h3:x.toNat*items.size≤1000*1000:=Nat.mul_le_mul (by omega) hz
   have:(sizeLine:Nat)=16777216:=by decide
   simp
   omega
  wp_walk
  exact⟨_,rfl,h⟩
end PySem
namespace L3
open PySem PySem.Spec PyProof.Rows L2
noncomputable def Dg (K:PySem.W.Frag):R2:=fun x y H Q=>∃(a:Addr) (k:Nat) (xs:List V),x= .ref a∧y= .int (k:Int)∧SqT K H a xs∧xs≠[]∧1≤k∧k≤1000∧xs.length≤1000∧
 (k=1→Q (.ref a) H)∧(2≤k→∀p,H p=none→Q (.ref p) (cU H p (.tup (List.replicate k xs).flatten)))
theorem Bm {X:Cx}:OpR X (binaryOp .Mult) (Dg X.K):=by
 intro pins s σ H x y v u Q I rx ry h
 obtain⟨a,k,xs,rfl,rfl,hx,hne,h1,h2,hl,q1,q2⟩:=h
 cases rx
 obtain⟨t,rfl⟩:=ry
 obtain⟨its,r,ht,hz⟩:=I.tuple hx
 obtain⟨⟨cls,dd,data,sl⟩,ho,hc,n,hd⟩:=id ht
 simp only at hc hd
 subst hc hd
 have hlen:=r.length
 refine wpAny_binaryOp_repeat_ref (T:= "tuple") (U:= "int") (by decide) ⟨_,ho,rfl⟩ (fun s'=>typeIs_int s' k t) mh F.fills_int_mul F.slot_int_rmul rf F.slot_int_index.lookup
  (call_meets F.slot_int_rmul (typeIs_int s k t) F.entry_int_rmul (F.args_int_rmul_2 _ _) (oE k t a its.toArray n dd sl) ⟨ho,rfl,⟨_,ho,rfl⟩,?_⟩)
 by_cases hk:k=1
 ·subst hk
  exact call_meets F.slot_tuple_mul ⟨_,ho,rfl⟩ F.entry_tuple_mul (F.args_tuple_mul_2 _ _) (t9 a its.toArray n dd sl t) ⟨ho,⟨.ref a,H,I,rfl,q1 rfl⟩⟩
 ·refine call_meets F.slot_tuple_mul ⟨_,ho,rfl⟩ F.entry_tuple_mul (F.args_tuple_mul_2 _ _) (tW a its.toArray n dd sl k t (by omega) (by omega) ?_ (by rw[List.size_toArray];omega)) ⟨ho,?_⟩
  ·cases its with
   |nil=>cases r;exact absurd rfl hne
   |cons y ys=>rfl
  ·have f0:List.foldl (fun x1 x2=>x1++x2) #[] (List.replicate ((k:Nat):Int).toNat its.toArray)=(List.replicate k its).flatten.toArray:=by
    have:=mf its k []
    rw[List.nil_append] at this
    rw[Int.toNat_natCast]
    exact this
   rw[f0]
   refine⟨.ref s.heap.objs.size,_,I.laid (t':=s.toks) (o:= .tup (List.replicate k xs).flatten) (fun b ob q=>Heap.get?_push_of_some _ q) (Nat.le_refl _) ?_,rfl,q2 (by omega) _ (I.hok.fresh (Nat.le_refl _))⟩
   refine⟨?_,_,r.rep k,IsTup.new _ _⟩
   rw[vZ]
   exact Nat.le_trans (Nat.mul_le_mul h2 hl) (by decide)
noncomputable def CI (K:PySem.W.Frag):R2:=fun x y H Q=>y1 K x y H Q∨Dg K x y H Q
theorem fU {X:Cx}:OpR X (binaryOp .Mult) (CI X.K):=OpR.or B0 Bm
noncomputable def fH:D→D→Option RV
 | .tuple xs,.int k=>if xs≠[]∧1≤k∧k≤1000∧xs.length≤1000 then some (.fz (.tuple (List.replicate k.toNat xs).flatten)) else none
 |d,e=>xL d e
theorem eT {K:PySem.W.Frag}:l4 K (CI K) fH:=by
 intro O H x y dx dy rv Q n hx hy e q
 unfold fH at e
 split at e
 ·rename_i ds k
  split at e
  ·rename_i hc
   cases e
   cases hy
   obtain⟨a,xs,rfl,h1,h2⟩:=uL hx
   obtain⟨m,rfl⟩:∃m:Nat,k=(m:Int):=⟨k.toNat,by omega⟩
   rw[Int.toNat_natCast] at q
   refine .inr ⟨a,m,xs,rfl,rfl,h1.1,fun z=>hc.1 (h2.ne.mp z),by omega,by omega,by rw[h2.length];exact hc.2.2.2,fun e=> ?_,fun _=>Fin.newT (h2.flat m) n q⟩
   subst e
   have e1:(List.replicate 1 ds).flatten=ds:=by simp
   rw[e1] at q
   exact q.at (.tup h1 h2)
  ·cases e
 ·exact .inl (B3 O H x y dx dy rv Q n hx hy e q)
theorem tY (i j:Int):fH (.int i) (.int j)=xL (.int i) (.int j):=rfl
theorem gu {i j:Int} (h: -(2^64)<i∧i<2^64):fH (.int i) (.int j)=some (.fz (.int (i*j))):=(tY i j).trans (Bb h)
theorem Aj {i j:Int} (h: -(2^64)<j∧j<2^64):fH (.int i) (.int j)=some (.fz (.int (i*j))):=(tY i j).trans (Cf h)
end L3
namespace PySem
open Sem (wp)
open Builtin Builtin.Str
noncomputable def itAt:Bool→Heap→Addr→Addr→Nat→Prop
 |true,h,it,a,i=>h.IsTupleIter it a i
 |false,h,it,a,i=>h.IsListIter it a i
noncomputable def sqAt:Bool→Heap→Addr→Array Value→Prop
 |true,h,a,xs=>h.IsTuple a xs
 |false,h,a,xs=>h.IsList a xs
noncomputable def tw:Bool→String
 |true=> "tuple_iterator"
 |false=> "list_iterator"
theorem itAt.ext {b:Bool} {h h':Heap} {it a c:Addr} {i:Nat} (x:itAt b h it a i) (e:Heap.ExtBut c h h') (n:it≠c):itAt b h' it a i:=by
 cases b with
 |true=>exact Heap.IsTupleIter.extBut x e n
 |false=>exact Heap.IsListIter.extBut x e n
theorem itAt.to {b:Bool} {h h':Heap} {it a:Addr} {i:Nat} (x:itAt b h it a i) (e:∀o,h.get? it=some o→h'.get? it=some o):itAt b h' it a i:=by
 cases b with
 |true=>exact Heap.IsTupleIter.at x e
 |false=>exact Heap.IsListIter.at x e
theorem itAt.live {b:Bool} {h:Heap} {it a:Addr} {i:Nat} (x:itAt b h it a i):∃o,h.get? it=some o∧∀v,o.data≠ .cell v:=by
 cases b with
 |true=>obtain⟨o,ho,_,d⟩:=(show h.IsTupleIter it a i from x);exact⟨o,ho,fun v z=>by rw[d] at z;cases z⟩
 |false=>obtain⟨o,ho,_,d⟩:=(show h.IsListIter it a i from x);exact⟨o,ho,fun v z=>by rw[d] at z;cases z⟩
theorem sqAt.ext {b:Bool} {h h':Heap} {a c:Addr} {xs:Array Value} (x:sqAt b h a xs) (e:Heap.ExtBut c h h') (n:a≠c):sqAt b h' a xs:=by
 cases b with
 |true=>exact Heap.IsTuple.extBut x e n
 |false=>exact Heap.IsList.extBut x e n
theorem sqAt.psh {b:Bool} {h:Heap} {a:Addr} {xs:Array Value} (x:sqAt b h a xs) (o:Obj):sqAt b (h.push o) a xs:=by
 cases b with
 |true=>exact Heap.IsTuple.push x o
 |false=>exact Heap.IsList.push x o
theorem sqAt.lt {b:Bool} {h:Heap} {a:Addr} {xs:Array Value} (x:sqAt b h a xs):a<h.objs.size:=by
 cases b with
 |true=>obtain⟨o,e,_⟩:=(show h.IsTuple a xs from x);exact Heap.lt_size e
 |false=>obtain⟨o,e,_⟩:=(show h.IsList a xs from x);exact Heap.lt_size e
section
variable {prog:Program} {w:World} {A:Around} {E:Value→Shared→Prop} {s:Shared}
theorem tf {b:Bool} {it l:Addr} {i:Nat} {xs:Array Value} {x:Value} {Q:Value→Shared→Prop} (hi:itAt b s.heap it l i) (hl:sqAt b s.heap l xs) (hx:xs[i]? =some x)
  (q:∀h',itAt b h' it l (i+1)→Heap.SameBut it s.heap h'→Q x {s with heap:=h'}):wpAny (model prog w) A (SmallTypes.nextOf (.ref it)) Q E s:=by
 cases b with
 |true=>exact iG hi hl hx q
 |false=>exact wpAny_nextOf_list_item hi hl hx q
theorem w9 {b:Bool} {it l:Addr} {i:Nat} {xs:Array Value} {Q:Value→Shared→Prop} (hh:A.handled=none) (hi:itAt b s.heap it l i) (hl:sqAt b s.heap l xs) (hx:xs[i]? =none)
  (q:∀h' e,Heap.ExtBut it s.heap h'→(∃o,h'.get? e=some o∧o.cls= .type "StopIteration")→E (.ref e) {s with heap:=h'}):wpAny (model prog w) A (SmallTypes.nextOf (.ref it)) Q E s:=by
 cases b with
 |true=>exact gH hh hi hl hx q
 |false=>exact wpAny_nextOf_list_end hh hi hl hx q
theorem xm {b:Bool} {l:Addr} {xs:Array Value} {Q:Value→Shared→Prop} (hl:sqAt b s.heap l xs)
  (q:Q (.ref s.heap.objs.size) {s with heap:=s.heap.push {cls:= .type (tw b),data:= .fields #[.ref l,.int 0 0]}}):wpAny (model prog w) A (pyIter (.ref l)) Q E s:=by
 cases b with
 |true=>exact wpAny_pyIter_tuple hl q
 |false=>exact wpAny_pyIter_list hl q
theorem yg {z TI TO i1 i2 l1 l2:Addr} {b1 b2:Bool} {n:Nat} {xs ys:Array Value} {x y a b:Value} {Q:Value→Shared→Prop} (D:ZipApart z TI TO i1 i2 l1 l2) (hz:IsZip s.heap z TI TO .none)
  (hTI:IsPair s.heap TI (.ref i1) (.ref i2)) (hTO:IsPair s.heap TO a b) (h1:itAt b1 s.heap i1 l1 n) (h2:itAt b2 s.heap i2 l2 n) (hl1:sqAt b1 s.heap l1 xs) (hl2:sqAt b2 s.heap l2 ys) (hx:xs[n]? =some x) (hy:ys[n]? =some y)
  (q:∀h',IsZip h' z TI TO (rawInt s.heap.objs.size)→IsPair h' TO x y→itAt b1 h' i1 l1 (n+1)→itAt b2 h' i2 l2 (n+1)→IsPair h' s.heap.objs.size x y→h'.objs.size=s.heap.objs.size+1→
   (∀c o,c≠z→c≠TO→c≠i1→c≠i2→s.heap.get? c=some o→h'.get? c=some o)→Q (.ref s.heap.objs.size) {s with heap:=h'}):
  wpAny (model prog w) A (Builtin.«zip.__next__» ⟨[.ref z],[]⟩) (fun fin s'=>∃v,fin= .done (.ret v)∧Q v s') E s:=by
 show wpAny _ _ (field (.ref z) 2>>=_) _ _ _;refine wpAny_bind (wpAny_field hz rfl (x:= .bool false) rfl ?_);show wpAny _ _ (field (.ref z) 3>>=_) _ _ _
 refine wpAny_bind (wpAny_field hz rfl (x:= .ref TI) rfl ?_);refine wpAny_bind (wpAny_seqItems hTI rfl ?_);show wpAny _ _ (SmallTypes.ownedTupleIsFree (.ref z)>>=_) _ _ _
 refine wpAny_bind ?_;unfold SmallTypes.ownedTupleIsFree;refine wpAny_bind (wpAny_field hz rfl (x:= .none) rfl (wpAny_pure ?_));simp only[if_true]
 refine wpAny_bind (wpAny_rule ?_);refine wpAny_bind (wpAny_field hz rfl (x:= .ref TO) rfl ?_);refine wpAny_bind (wpAny_setField_rec hz (by simp) fun k₁ hz₁ e₁=> ?_)
 have hz₁':IsZip k₁ z TI TO .ellipsis:=hz₁
 clear hz₁
 refine wpAny_bind ?_;simp only[List.zipIdx_cons,List.zipIdx_nil,List.forIn_cons,List.forIn_nil]
 refine wpAny_bind (wpAny_bind (wpAny_onRaise ?_));show wpAny _ _ (SmallTypes.nextOf (.ref i1)>>=_) _ _ _
 refine wpAny_bind (tf (h1.ext e₁.extBut D.i1z) (hl1.ext e₁.extBut D.l1z) hx fun k₂ g₂ e₂=>wpAny_pure ?_)
 have o₂:IsPair k₂ TO a b:=e₂.extBut _ _ D.TOi1 (e₁.extBut _ _ D.TOz hTO)
 refine wpAny_bind (wpAny_seqItems o₂ rfl ?_);refine wpAny_bind (wpAny_updateSeq_pair o₂ fun k₃ o₃ e₃=> ?_)
 have o₃':IsPair k₃ TO x b:=o₃
 clear o₃
 refine wpAny_bind (wpAny_letGo (wpAny_pure ?_));refine wpAny_bind (wpAny_bind (wpAny_onRaise ?_));show wpAny _ _ (SmallTypes.nextOf (.ref i2)>>=_) _ _ _
 refine wpAny_bind (tf (((h2.ext e₁.extBut D.i2z).ext e₂.extBut D.i12.symm).ext e₃.extBut D.TOi2.symm) (((hl2.ext e₁.extBut D.l2z).ext e₂.extBut D.l2i1).ext e₃.extBut D.l2TO) hy fun k₄ g₄ e₄=>wpAny_pure ?_)
 have o₄:IsPair k₄ TO x b:=e₄.extBut _ _ D.TOi2 o₃'
 refine wpAny_bind (wpAny_seqItems o₄ rfl ?_);refine wpAny_bind (wpAny_updateSeq_pair o₄ fun k₅ o₅ e₅=> ?_)
 have o₅':IsPair k₅ TO x y:=o₅
 clear o₅
 refine wpAny_bind (wpAny_letGo (wpAny_pure (wpAny_pure ?_)));refine wpAny_bind (wpAny_seqItems o₅' rfl ?_);refine wpAny_bind (wpAny_newTuple ?_)
 have hsz:k₅.objs.size=s.heap.objs.size:=by rw[e₅.1,e₄.1,e₃.1,e₂.1,e₁.1]
 have z₅:IsZip k₅ z TI TO .ellipsis:=e₅.extBut _ _ D.TOz.symm (e₄.extBut _ _ D.i2z.symm (e₃.extBut _ _ D.TOz.symm (e₂.extBut _ _ D.i1z.symm hz₁')))
 have kp:∀c o,c≠z→c≠TO→c≠i1→c≠i2→s.heap.get? c=some o→k₅.get? c=some o:=fun c o c1 c2 c3 c4 e=>
  e₅.extBut _ _ c2 (e₄.extBut _ _ c4 (e₃.extBut _ _ c2 (e₂.extBut _ _ c3 (e₁.extBut _ _ c1 e))))
 have u₁:itAt b1 k₅ i1 l1 (n+1):=((g₂.ext e₃.extBut D.TOi1.symm).ext e₄.extBut D.i12).ext e₅.extBut D.TOi1.symm
 have u₂:itAt b2 k₅ i2 l2 (n+1):=g₄.ext e₅.extBut D.TOi2.symm
 have hlt:z<k₅.objs.size:=Heap.lt_size z₅
 show wpAny _ _ (SmallTypes.ownedTupleHandOut (.ref z) (.ref k₅.objs.size)>>=_) _ _ _;refine wpAny_bind ?_;unfold SmallTypes.ownedTupleHandOut
 have z₆:IsZip (k₅.push {cls:= .type "tuple",data:= .seq #[x,y]}) z TI TO .ellipsis:=Heap.get?_push_of_some _ z₅
 refine wpAny_bind (wpAny_setField_rec z₆ (by simp) fun k₇ z₇ e₇=> ?_)
 have z₇':IsZip k₇ z TI TO (rawInt k₅.objs.size):=z₇
 refine wpAny_setField_rec z₇' (by simp) fun k₈ z₈ e₈=> ?_
 have z₈':IsZip k₈ z TI TO (rawInt k₅.objs.size):=z₈
 have up:∀c o,c≠z→k₅.get? c=some o→k₈.get? c=some o:=fun c o c1 e=>e₈.extBut _ _ c1 (e₇.extBut _ _ c1 (Heap.get?_push_of_some _ e))
 have t₈:IsPair k₈ k₅.objs.size x y:=e₈.extBut _ _ (Nat.ne_of_gt hlt) (e₇.extBut _ _ (Nat.ne_of_gt hlt) (Heap.get?_push_size _ rfl))
 have n₈:k₈.objs.size=k₅.objs.size+1:=by rw[e₈.1,e₇.1,Heap.size_push]
 rw[hsz] at z₈' t₈ n₈
 refine wpAny_pure ⟨_,rfl,?_⟩
 show Q (.ref k₅.objs.size) _
 rw[hsz]
 exact q k₈ z₈' (up _ _ D.TOz o₅') (u₁.to fun o e=>up _ o D.i1z e) (u₂.to fun o e=>up _ o D.i2z e) t₈ n₈ fun c o c1 c2 c3 c4 e=>up c o c1 (kp c o c1 c2 c3 c4 e)
theorem zQ {z TI TO i1 i2 l1 l2:Addr} {b1 b2:Bool} {n:Nat} {xs ys:Array Value} {a b:Value} {Q:Fin→Shared→Prop} (hh:A.handled=none) (D:ZipApart z TI TO i1 i2 l1 l2) (hz:IsZip s.heap z TI TO .none)
  (hTI:IsPair s.heap TI (.ref i1) (.ref i2)) (hTO:IsPair s.heap TO a b) (h1:itAt b1 s.heap i1 l1 n) (h2:itAt b2 s.heap i2 l2 n) (hl1:sqAt b1 s.heap l1 xs) (hl2:sqAt b2 s.heap l2 ys) (hend:xs[n]? =none∨ys[n]? =none)
  (q:∀h' e,(∀c o,c≠z→c≠TO→c≠i1→c≠i2→s.heap.get? c=some o→h'.get? c=some o)→(∃o,h'.get? e=some o∧o.cls= .type "StopIteration")→E (.ref e) {s with heap:=h'}):
  wpAny (model prog w) A (Builtin.«zip.__next__» ⟨[.ref z],[]⟩) Q E s:=by
 show wpAny _ _ (field (.ref z) 2>>=_) _ _ _;refine wpAny_bind (wpAny_field hz rfl (x:= .bool false) rfl ?_);show wpAny _ _ (field (.ref z) 3>>=_) _ _ _
 refine wpAny_bind (wpAny_field hz rfl (x:= .ref TI) rfl ?_);refine wpAny_bind (wpAny_seqItems hTI rfl ?_);show wpAny _ _ (SmallTypes.ownedTupleIsFree (.ref z)>>=_) _ _ _
 refine wpAny_bind ?_;unfold SmallTypes.ownedTupleIsFree;refine wpAny_bind (wpAny_field hz rfl (x:= .none) rfl (wpAny_pure ?_));simp only[if_true]
 refine wpAny_bind (wpAny_rule ?_);refine wpAny_bind (wpAny_field hz rfl (x:= .ref TO) rfl ?_);refine wpAny_bind (wpAny_setField_rec hz (by simp) fun k₁ hz₁ e₁=> ?_)
 have hz₁':IsZip k₁ z TI TO .ellipsis:=hz₁
 refine wpAny_bind ?_;simp only[List.zipIdx_cons,List.zipIdx_nil,List.forIn_cons,List.forIn_nil]
 refine wpAny_bind (wpAny_bind (wpAny_onRaise ?_));show wpAny _ _ (SmallTypes.nextOf (.ref i1)>>=_) _ _ _
 cases hx:xs[n]? with
 |none=>
  refine wpAny_bind (w9 hh (h1.ext e₁.extBut D.i1z) (hl1.ext e₁.extBut D.l1z) hx fun k₂ e e₂ he=> ?_)
  obtain⟨oe,hoe,hce⟩:=he
  have z₂:IsZip k₂ z TI TO .ellipsis:=e₂ _ _ D.i1z.symm hz₁'
  have ne:e≠z:=fun t=>by subst t;rw[z₂] at hoe;cases hoe;simp at hce
  exact wpAny_setField_rec z₂ (by simp) fun k₃ _ e₃=>q k₃ e (fun c o c1 _ c3 _ t=>e₃.extBut _ _ c1 (e₂ _ _ c3 (e₁.extBut _ _ c1 t))) ⟨oe,e₃.extBut _ _ ne hoe,hce⟩
 |some x=>
  have hy:ys[n]? =none:=by
   rcases hend with t|t
   ·rw[hx] at t;cases t
   ·exact t
  refine wpAny_bind (tf (h1.ext e₁.extBut D.i1z) (hl1.ext e₁.extBut D.l1z) hx fun k₂ g₂ e₂=>wpAny_pure ?_)
  have o₂:IsPair k₂ TO a b:=e₂.extBut _ _ D.TOi1 (e₁.extBut _ _ D.TOz hTO)
  refine wpAny_bind (wpAny_seqItems o₂ rfl ?_);refine wpAny_bind (wpAny_updateSeq_pair o₂ fun k₃ o₃ e₃=> ?_)
  refine wpAny_bind (wpAny_letGo (wpAny_pure ?_));refine wpAny_bind (wpAny_bind (wpAny_onRaise ?_));show wpAny _ _ (SmallTypes.nextOf (.ref i2)>>=_) _ _ _
  refine wpAny_bind (w9 hh (((h2.ext e₁.extBut D.i2z).ext e₂.extBut D.i12.symm).ext e₃.extBut D.TOi2.symm) (((hl2.ext e₁.extBut D.l2z).ext e₂.extBut D.l2i1).ext e₃.extBut D.l2TO) hy fun k₄ e e₄ he=> ?_)
  obtain⟨oe,hoe,hce⟩:=he
  have z₄:IsZip k₄ z TI TO .ellipsis:=e₄ _ _ D.i2z.symm (e₃.extBut _ _ D.TOz.symm (e₂.extBut _ _ D.i1z.symm hz₁'))
  have ne:e≠z:=fun t=>by subst t;rw[z₄] at hoe;cases hoe;simp at hce
  exact wpAny_setField_rec z₄ (by simp) fun k₅ _ e₅=>q k₅ e (fun c o c1 c2 c3 c4 t=>e₅.extBut _ _ c1 (e₄ _ _ c4 (e₃.extBut _ _ c2 (e₂.extBut _ _ c3 (e₁.extBut _ _ c1 t))))) ⟨oe,e₅.extBut _ _ ne hoe,hce⟩
end
end PySem
namespace PySem
open Sem (wp)
open Builtin Builtin.Str
section
variable {prog:Program} {w:World} {A:Around} {E:Value→Shared→Prop} {s:Shared}
theorem tS {z TI TO i1 i2 l1 l2:Addr} {b1 b2:Bool} {n:Nat} {xs ys:Array Value} {x y a b:Value} {Q:Option Value→Shared→Prop} (D:ZipApart z TI TO i1 i2 l1 l2) (hz:IsZip s.heap z TI TO .none)
  (hTI:IsPair s.heap TI (.ref i1) (.ref i2)) (hTO:IsPair s.heap TO a b) (h1:itAt b1 s.heap i1 l1 n) (h2:itAt b2 s.heap i2 l2 n) (hl1:sqAt b1 s.heap l1 xs) (hl2:sqAt b2 s.heap l2 ys) (hx:xs[n]? =some x) (hy:ys[n]? =some y)
  (q:∀h',IsZip h' z TI TO (rawInt s.heap.objs.size)→IsPair h' TO x y→itAt b1 h' i1 l1 (n+1)→itAt b2 h' i2 l2 (n+1)→IsPair h' s.heap.objs.size x y→h'.objs.size=s.heap.objs.size+1→
   (∀c o,c≠z→c≠TO→c≠i1→c≠i2→s.heap.get? c=some o→h'.get? c=some o)→Q (some (.ref s.heap.objs.size)) {s with heap:=h'}):
  wpAny (model prog w) A (pyNext (.ref z)) Q E s:=by
 have hT:s.TypeIs (.ref z) "zip":=⟨_,hz,rfl⟩
 unfold pyNext
 refine wpAny_bind (wpAny_attempt (wpAny_callSpecial?_slot (name:=Str.ofString "__next__") hT F.slot_zip_next ?_))
 exact wpAny_call_entry F.slot_zip_next hT F.entry_zip_next (yg D hz hTI hTO h1 h2 hl1 hl2 hx hy fun h' a1 a2 a3 a4 a5 a6 a7=>wpAny_pure (q h' a1 a2 a3 a4 a5 a6 a7)) (F.args_zip_next_1 _)
theorem tO {z TI TO i1 i2 l1 l2:Addr} {b1 b2:Bool} {n:Nat} {xs ys:Array Value} {a b:Value} {Q:Option Value→Shared→Prop} (hh:A.handled=none) (D:ZipApart z TI TO i1 i2 l1 l2) (hz:IsZip s.heap z TI TO .none)
  (hTI:IsPair s.heap TI (.ref i1) (.ref i2)) (hTO:IsPair s.heap TO a b) (h1:itAt b1 s.heap i1 l1 n) (h2:itAt b2 s.heap i2 l2 n) (hl1:sqAt b1 s.heap l1 xs) (hl2:sqAt b2 s.heap l2 ys) (hend:xs[n]? =none∨ys[n]? =none)
  (q:∀h',(∀c o,c≠z→c≠TO→c≠i1→c≠i2→s.heap.get? c=some o→h'.get? c=some o)→Q none {s with heap:=h'}):wpAny (model prog w) A (pyNext (.ref z)) Q E s:=by
 have hT:s.TypeIs (.ref z) "zip":=⟨_,hz,rfl⟩
 unfold pyNext
 refine wpAny_bind (wpAny_attempt (wpAny_callSpecial?_slot (name:=Str.ofString "__next__") hT F.slot_zip_next ?_))
 refine wpAny_call_entry F.slot_zip_next hT F.entry_zip_next (zQ hh D hz hTI hTO h1 h2 hl1 hl2 hend fun h' e hk he=> ?_) (F.args_zip_next_1 _)
 obtain⟨o,ho,hc⟩:=he
 exact wpAny_bind (wpAny_isInstance (T:= "StopIteration") (b:=true) ⟨o,ho,hc⟩ isSubtype_stop (wpAny_pure (q _ hk)))
end
noncomputable abbrev E3 (h:Heap) (b1:Bool) (l1:Addr):Heap:=h.push {cls:= .type (tw b1),data:= .fields #[.ref l1,.int 0 0]}
noncomputable abbrev E9 (h:Heap) (b1 b2:Bool) (l1 l2:Addr):Heap:=(E3 h b1 l1).push {cls:= .type (tw b2),data:= .fields #[.ref l2,.int 0 0]}
noncomputable abbrev E8 (h:Heap) (b1 b2:Bool) (l1 l2:Addr):Heap:=(E9 h b1 b2 l1 l2).push {cls:= .type "tuple",data:= .seq #[.ref h.objs.size,.ref (E3 h b1 l1).objs.size]}
noncomputable abbrev E5 (h:Heap) (b1 b2:Bool) (l1 l2:Addr):Heap:=(E8 h b1 b2 l1 l2).push {cls:= .type "tuple",data:= .seq #[.none,.none]}
noncomputable abbrev Ea (h:Heap) (b1 b2:Bool) (l1 l2:Addr):Heap:=(E5 h b1 b2 l1 l2).push {cls:= .type "zip",data:= .fields #[.none,.bool false,.bool false,.ref (E9 h b1 b2 l1 l2).objs.size,.ref (E8 h b1 b2 l1 l2).objs.size]}
theorem oV (b1 b2:Bool) (l1 l2:Addr) (xs ys:Array Value):
  Meets (Builtin.«zip.__new__» ⟨[.type "zip",.ref l1,.ref l2],[]⟩) (fun _ R s=>sqAt b1 s.heap l1 xs∧sqAt b2 s.heap l2 ys∧R (.ok (.ret (.ref (E5 s.heap b1 b2 l1 l2).objs.size))) {s with heap:=Ea s.heap b1 b2 l1 l2}):=
 .of_wp fun prog w A R s h=>by
  obtain⟨hp,g,d,tk,os⟩:=s;obtain⟨hl1,hl2,h⟩:=h
  have hsub:=sub_zip
  have hL1:sqAt b1 (Shared.heap ⟨hp,g,d,tk,os⟩) l1 xs:=hl1
  have hL2:sqAt b2 (Shared.heap ⟨hp.push {cls:= .type (tw b1),data:= .fields #[.ref l1,.int 0 0]},g,d,tk,os⟩) l2 ys:=sqAt.psh hl2 _
  wp_walk using xm hL1,xm hL2
  exact⟨_,rfl,h⟩
section
variable {prog:Program} {w:World} {A:Around} {E:Value→Shared→Prop} {s:Shared}
theorem Ao {b:Bool} {h:Heap} {it l:Addr} (e:h.get? it=some {cls:= .type (tw b),data:= .fields #[.ref l,.int 0 0]}):itAt b h it l 0:=by
 cases b with
 |true=>exact⟨_,e,rfl,rfl⟩
 |false=>exact⟨_,e,rfl,rfl⟩
theorem xH {b1 b2:Bool} {l1 l2:Addr} {xs ys:Array Value} {Q:Value→Shared→Prop} (hl1:sqAt b1 s.heap l1 xs) (hl2:sqAt b2 s.heap l2 ys)
  (q:∀h',IsZip h' (s.heap.objs.size+4) (s.heap.objs.size+2) (s.heap.objs.size+3) .none→IsPair h' (s.heap.objs.size+2) (.ref s.heap.objs.size) (.ref (s.heap.objs.size+1))→
   IsPair h' (s.heap.objs.size+3) .none .none→itAt b1 h' s.heap.objs.size l1 0→itAt b2 h' (s.heap.objs.size+1) l2 0→(∀c o,s.heap.get? c=some o→h'.get? c=some o)→Q (.ref (s.heap.objs.size+4)) {s with heap:=h'}):
  wpAny (model prog w) A (call (.type "zip") [.ref l1,.ref l2]) Q E s:=by
 refine callType_new F.called_zip (by decide) (F.typeCall_zip_2 _ _) (F.newCall_zip_2 _ _) (fun obj=>F.args_object_init_3 obj _ _) F.entry_zip_new (oV b1 b2 l1 l2 xs ys) ⟨hl1,hl2,?_⟩
 have n1:(E3 s.heap b1 l1).objs.size=s.heap.objs.size+1:=Heap.size_push ..
 have n2:(E9 s.heap b1 b2 l1 l2).objs.size=s.heap.objs.size+2:=by rw[Heap.size_push,n1]
 have n3:(E8 s.heap b1 b2 l1 l2).objs.size=s.heap.objs.size+3:=by rw[Heap.size_push,n2]
 have n4:(E5 s.heap b1 b2 l1 l2).objs.size=s.heap.objs.size+4:=by rw[Heap.size_push,n3]
 have u1:∀c o,s.heap.get? c=some o→(E3 s.heap b1 l1).get? c=some o:=fun c o e=>Heap.get?_push_of_some _ e
 have u2:∀c o,(E3 s.heap b1 l1).get? c=some o→(E9 s.heap b1 b2 l1 l2).get? c=some o:=fun c o e=>Heap.get?_push_of_some _ e
 have u3:∀c o,(E9 s.heap b1 b2 l1 l2).get? c=some o→(E8 s.heap b1 b2 l1 l2).get? c=some o:=fun c o e=>Heap.get?_push_of_some _ e
 have u4:∀c o,(E8 s.heap b1 b2 l1 l2).get? c=some o→(E5 s.heap b1 b2 l1 l2).get? c=some o:=fun c o e=>Heap.get?_push_of_some _ e
 have u5:∀c o,(E5 s.heap b1 b2 l1 l2).get? c=some o→(Ea s.heap b1 b2 l1 l2).get? c=some o:=fun c o e=>Heap.get?_push_of_some _ e
 have g5:(Ea s.heap b1 b2 l1 l2).get? (E5 s.heap b1 b2 l1 l2).objs.size=some _:=Heap.get?_push_size _ rfl
 have g4:(Ea s.heap b1 b2 l1 l2).get? (E8 s.heap b1 b2 l1 l2).objs.size=some _:=u5 _ _ (Heap.get?_push_size _ rfl)
 have g3:(Ea s.heap b1 b2 l1 l2).get? (E9 s.heap b1 b2 l1 l2).objs.size=some _:=u5 _ _ (u4 _ _ (Heap.get?_push_size _ rfl))
 have g2:(Ea s.heap b1 b2 l1 l2).get? (E3 s.heap b1 l1).objs.size=some _:=u5 _ _ (u4 _ _ (u3 _ _ (Heap.get?_push_size _ rfl)))
 have g1:(Ea s.heap b1 b2 l1 l2).get? s.heap.objs.size=some _:=u5 _ _ (u4 _ _ (u3 _ _ (u2 _ _ (Heap.get?_push_size _ rfl))))
 show _∧_
 rw[n2,n3,n4] at g5;rw[n1,n2] at g3;rw[n3] at g4;rw[n1] at g2;rw[n4]
 exact⟨⟨_,g5,rfl⟩,q _ g5 g3 g4 (Ao g1) (Ao g2) fun c o e=>u5 _ _ (u4 _ _ (u3 _ _ (u2 _ _ (u1 _ _ e))))⟩
end
end PySem
namespace L3
open PySem PySem.Spec PyProof.Rows L2
noncomputable def yA (b:Bool) (K:PySem.W.Frag) (H:Hp) (a:Addr) (xs:List V):Prop:=match b with
 |true=>SqT K H a xs
 |false=>SqL K H a xs
noncomputable def Hj (K:PySem.W.Frag) (b1 b2:Bool) (a c:Addr):It:=
 ⟨fun i H=>∃xs ys x y,yA b1 K H a xs∧yA b2 K H c ys∧xs[i]? =some x∧ys[i]? =some y,
  fun i H v H'=>∃p x y,H p=none∧v= .ref p∧(∀xs,yA b1 K H a xs→xs[i]? =some x)∧(∀ys,yA b2 K H c ys→ys[i]? =some y)∧H'=cU H p (.tup [x,y]),
  fun i H=>∃xs ys,yA b1 K H a xs∧yA b2 K H c ys∧(xs.length≤i∨ys.length≤i)⟩
theorem Bp {X:Cx} {pins:List (Addr×Obj)} {σ:L2.St} {H:Hp} {s:Shared} {a:Addr} {xs ys:List V} (I:Inv X pins σ H s) (h1:SqL X.K H a xs) (h2:SqL X.K H a ys):xs=ys:=by
 obtain⟨its,r1,⟨o,k,e1,_,n,d1⟩,_⟩:=I.list h1
 obtain⟨its2,r2,⟨o2,k2,e2,_,n2,d2⟩,_⟩:=I.list h2
 rw[e1] at e2
 cases e2
 have:its=its2:=by
  have q:its.toArray=its2.toArray:=by injection d1.symm.trans d2
  simpa using q
 subst this
 exact r1.inj r2
theorem mj {X:Cx} {pins:List (Addr×Obj)} {σ:L2.St} {H:Hp} {s:Shared} {b:Bool} {a:Addr} {xs:List V} (I:Inv X pins σ H s) (h:yA b X.K H a xs):∃its,Vals xs its∧sqAt b s.heap a its.toArray:=by
 cases b with
 |true=>obtain⟨its,rv,p,hz⟩:=I.tuple h;exact⟨its,rv,p⟩
 |false=>obtain⟨its,rv,p,hz⟩:=I.list h;exact⟨its,rv,p.isList⟩
theorem wl {X:Cx} {pins:List (Addr×Obj)} {σ:L2.St} {H:Hp} {s:Shared} {b:Bool} {a:Addr} {xs ys:List V} (I:Inv X pins σ H s) (h1:yA b X.K H a xs) (h2:yA b X.K H a ys):xs=ys:=by
 cases b with
 |true=>exact wO I h1 h2
 |false=>exact Bp I h1 h2
theorem yn {X:Cx} {pins:List (Addr×Obj)} {σ:L2.St} {H:Hp} {s:Shared} {h':Heap} {t':Nat} {ch:List Addr} (I:Inv X pins σ H s) (hf:∀b∈ch,lY X pins H b)
  (k:∀b u,b∉ch→s.heap.get? b=some u→h'.get? b=some u):Inv X pins σ H {s with heap:=h',toks:=t'}:=by
 have nch:∀b u,H b=some u→b∉ch:=fun b u e z=>by rw[(hf b z).1] at e;cases e
 refine I.step (g':=s.gens) (d':=s.drawn) (ch:=ch) (fun b hb=> ?_) (fun b u _ _ hc e _=>k b u hc e) (fun b u _ _ hc e _=>⟨u.slots,k b u hc e⟩) (fun _ _ _ _ n=>n)
  (fun b u hc e=>⟨u,k b u hc e⟩) (fun _ _ e=>e) (fun _ _ _ e=>e) (fun b ps e=>⟨#[],by rw[e];simp⟩) (fun m hm=> ?_) (fun b u e=> ?_) I.bare
 ·obtain⟨_,h2,_,h4,h5,h6⟩:=hf b hb
  exact⟨h4,h2,h5,h6⟩
 ·obtain⟨ob,es,ep,ho,r⟩:=hm
  exact⟨ob,es,ep,k _ ob (fun z=>(hf _ z).2.1 rfl) ho,r⟩
 ·refine(I.hok b u e).stay (fun c v hc q=>k c v ?_ q) (fun _ q=>q) fun _ _ q=>q
  rcases hc with z|z
  ·rw[z];exact nch b u e
  ·exact nch c _ z
theorem Al {P:Program} {w:World} {K:PySem.W.Frag} {elts:List Expr} {kk} {tp:Pos} (b1 b2:Bool) (z TI TO i1 i2 l1 l2:Addr) (D:ZipApart z TI TO i1 i2 l1 l2):
  Turn P w K (.Tuple elts kk tp) (Hj K b1 b2 l1 l2) [z,TI,TO,i1,i2] z (fun i h=>IsZip h z TI TO .none∧IsPair h TI (.ref i1) (.ref i2)∧(∃a b,IsPair h TO a b)∧itAt b1 h i1 l1 i∧itAt b2 h i2 l2 i) where
 mem:=by simp
 obj:=fun i h st b hb=>by
  obtain⟨hz,hI,⟨a,c,hO⟩,h1,h2⟩:=st
  simp only[List.mem_cons,List.not_mem_nil,or_false] at hb
  rcases hb with rfl|rfl|rfl|rfl|rfl
  ·exact⟨_,hz,fun v q=>by cases(show Data.fields _=Data.cell v from q)⟩
  ·exact⟨_,hI,fun v q=>by cases(show Data.seq _ _=Data.cell v from q)⟩
  ·exact⟨_,hO,fun v q=>by cases(show Data.seq _ _=Data.cell v from q)⟩
  ·exact h1.live
  ·exact h2.live
 keep:=fun i h h' st k=>by
  obtain⟨hz,hI,⟨a,c,hO⟩,h1,h2⟩:=st
  exact⟨k z (by simp) _ hz,k TI (by simp) _ hI,⟨a,c,k TO (by simp) _ hO⟩,h1.to fun o q=>k i1 (by simp) o q,h2.to fun o q=>k i2 (by simp) o q⟩
 item:=by
  intro X hP hw hK hc i pins s σ H E I hf st hg
  subst hP hw hK
  obtain⟨hz,hI,⟨a,c,hO⟩,h1,h2⟩:=st
  obtain⟨xs,ys,x,y,sx,sy,hx,hy⟩:=hg
  obtain⟨its,rx,px⟩:=mj I sx
  obtain⟨jts,ry,py⟩:=mj I sy
  obtain⟨u,hu,ru⟩:=rx.get hx
  obtain⟨t,ht,rt⟩:=ry.get hy
  refine tS (x:=u) (y:=t) D hz hI hO h1 h2 px py (by simpa using hu) (by simpa using ht) fun k z1 o1 g1 g2 pr sz kp=>⟨_,rfl,?_⟩
  refine wpAny_letOwnedTupleGo_zip (s:={s with heap:=k}) z1 fun h2' z2 e2=> ?_
  have hzl:z<s.heap.objs.size:=Heap.lt_size hz
  have hIl:TI<s.heap.objs.size:=Heap.lt_size hI
  have hOl:TO<s.heap.objs.size:=Heap.lt_size hO
  have h1l:i1<s.heap.objs.size:=by obtain⟨_,q,_⟩:=h1.live;exact Heap.lt_size q
  have h2l:i2<s.heap.objs.size:=by obtain⟨_,q,_⟩:=h2.live;exact Heap.lt_size q
  have hn:H s.heap.objs.size=none:=I.hok.fresh (Nat.le_refl _)
  have kk:∀b o,b∉[z,TI,TO,i1,i2]→s.heap.get? b=some o→h2'.get? b=some o:=fun b o hb q=>by
   simp only[List.mem_cons,List.not_mem_nil,or_false,not_or] at hb
   exact(e2.2 b hb.1).trans (kp b o hb.1 hb.2.2.1 hb.2.2.2.1 hb.2.2.2.2 q)
  have hT2:h2'.get? s.heap.objs.size=some {cls:= .type "tuple",data:= .seq #[u,t]}:=(e2.2 _ (Nat.ne_of_gt hzl)).trans pr
  have I2:Inv X pins σ (cU H s.heap.objs.size (.tup [x,y])) {s with heap:=h2'}:=
   I.turnedLaid (t':=s.toks) (ch:=[z,TI,TO,i1,i2]) hf kk (Nat.le_refl _) ⟨by show 2≤sizeLine;decide,[u,t],.cons ru (.cons rt .nil),⟨_,hT2,rfl,_,rfl⟩⟩
  have oth:∀b o,b≠z→k.get? b=some o→h2'.get? b=some o:=fun b o n q=>(e2.2 b n).trans q
  refine⟨.ref s.heap.objs.size,_,I2,rfl,⟨_,x,y,hn,rfl,fun zs hs=>by rw[wl I hs sx];exact hx,fun zs hs=>by rw[wl I hs sy];exact hy,rfl⟩,
   ⟨z2,oth _ _ D.TIz (kp _ _ D.TIz D.TITO D.TIi1 D.TIi2 hI),⟨_,_,oth _ _ D.TOz o1⟩,g1.to fun o q=>oth _ _ D.i1z q,g2.to fun o q=>oth _ _ D.i2z q⟩,fun b hb=> ?_⟩
  have hb2:b<s.heap.objs.size:=by
   simp only[List.mem_cons,List.not_mem_nil,or_false] at hb
   rcases hb with rfl|rfl|rfl|rfl|rfl<;>assumption
  rw[aK (Nat.ne_of_lt hb2)]
  exact(hf b hb).1
 done:=by
  intro X hP hw hK hc i pins s σ H E I hf st hg
  subst hP hw hK
  obtain⟨hz,hI,⟨a,c,hO⟩,h1,h2⟩:=st
  obtain⟨xs,ys,sx,sy,hxy⟩:=hg
  obtain⟨its,rx,px⟩:=mj I sx
  obtain⟨jts,ry,py⟩:=mj I sy
  have hl1:=rx.length
  have hl2:=ry.length
  have hd:its.toArray[i]? =none∨jts.toArray[i]? =none:=by
   rcases hxy with q|q
   ·exact .inl (by simp;omega)
   ·exact .inr (by simp;omega)
  refine tO (I.ok.hd hc) D hz hI hO h1 h2 px py hd fun k kp=>⟨rfl,?_⟩
  exact yn I (t':=s.toks) (ch:=[z,TI,TO,i1,i2]) hf fun b o hb q=>by
   simp only[List.mem_cons,List.not_mem_nil,or_false,not_or] at hb
   exact kp b o hb.1 hb.2.2.1 hb.2.2.2.1 hb.2.2.2.2 q
 self:=fun _ _ _ _ _ st h=>wpAny_pyIter_zip st.1 h
theorem x9 (n l1 l2:Nat) (h1:l1<n) (h2:l2<n):ZipApart (n+4) (n+2) (n+3) n (n+1) l1 l2:=by constructor<;>(show(_:Nat)≠_;omega)
noncomputable def Cz (K:PySem.W.Frag) (ta:TA):TI:=fun σ H R=>ta σ H fun vs H1=>∃a c b1 b2,vs=[.ref a,.ref c]∧(∃xs,yA b1 K H1 a xs)∧(∃ys,yA b2 K H1 c ys)∧R (Hj K b1 b2 a c) H1
theorem zk:bootBuiltins "zip"=some (.type "zip"):=by decide+kernel
theorem Eb {X:Cx} {l m:Expr} {ta:TA} {p pos tp:Pos} {elts:List Expr} {kk} (hg:Gl X "zip") (hm:X.mg "zip"=none) (ha:PA X [l,m] ta) (hs:starEach [l,m] X.env=(false,eval l X.env)::starEach [m] X.env:=by rfl) (hp:(backTo pos (starEach [m] X.env)).any (·.1)=false:=by rfl):
  PI X (.Tuple elts kk tp) (.Call (.Name "zip" p) [l,m] [] pos) (Cz X.K ta):=by
 intro pins s σ H R I h
 refine Call_ (mq I hg hm zk (PyProof.Rows.callWith_type1 (eJ (ha pos pins s σ H _ I h) fun us s1 ⟨vs,H1,I1,r1,q1⟩=> ?_) hs hp))
 obtain⟨a,c,b1,b2,e,⟨xs,sx⟩,⟨ys,sy⟩,q⟩:=q1
 subst e
 obtain⟨u,t,rfl,ru,rt⟩:=pX r1
 cases ru;cases rt
 obtain⟨its,rx,px⟩:=mj I1 sx
 obtain⟨jts,ry,py⟩:=mj I1 sy
 have fp:∀b∈[s1.heap.objs.size+4,s1.heap.objs.size+2,s1.heap.objs.size+3,s1.heap.objs.size,s1.heap.objs.size+1],lY X pins H1 b:=fun b hb=>by
  have hb2:s1.heap.objs.size≤b:=by
   simp only[List.mem_cons,List.not_mem_nil,or_false] at hb
   have hb':(b:Nat)=s1.heap.objs.size+4∨(b:Nat)=s1.heap.objs.size+2∨(b:Nat)=s1.heap.objs.size+3∨(b:Nat)=s1.heap.objs.size∨(b:Nat)=s1.heap.objs.size+1:=hb
   show(s1.heap.objs.size:Nat)≤b
   omega
  exact I1.fpOk hb2 (I1.hok.fresh hb2)
 refine xH px py fun h1 z1 p1 p2 t1 t2 hk=> ?_
 refine wpAny_pyIter_zip (s:={s1 with heap:=h1}) z1 ?_
 exact⟨s1.heap.objs.size+4,_,_,_,H1,rfl,I1.kept (t':=s1.toks) hk,Al b1 b2 _ _ _ _ _ a c (x9 _ _ _ px.lt py.lt),⟨z1,p1,⟨_,_,p2⟩,t1,t2⟩,fp,q⟩
noncomputable def d9:Expr→Bool
 | .Starred _ _=>true
 |_=>false
theorem xT (e:Expr) (es:List Expr) (env:Env) (h:d9 e=false):starEach (e::es) env=(false,eval e env)::starEach es env:=by
 cases e<;>first|rfl|cases h
theorem jt {X:Cx} {e:Expr} {es:List Expr} {te:TE} {t:TA} (ha:PE X e te) (hr:PA X es t) (hs:d9 e=false:=by rfl):PA X (e::es) (lD te t):=ac ha hr (xT e es X.env hs)
section
variable {X:Cx} {a b c e:Expr} {ta tb tc td:TE} {k:Nat} {pos:Pos}
end
noncomputable def kz:List D→List D→List D
 |x::r,y::q=> .tuple [x,y]::kz r q
 |_,_=>[]
theorem ur:∀(xs ys:List D),(kz xs ys).length=min xs.length ys.length
 |[],_=>by simp[kz]
 |_::_,[]=>by simp[kz]
 |_::r,_::q=>by simp only[kz,List.length_cons,ur r q];omega
theorem ue:∀(xs ys:List D) (i:Nat),(kz xs ys)[i]? =(xs[i]?).bind fun x=>(ys[i]?).map fun y=> .tuple [x,y]
 |[],_,_=>by simp[kz]
 |x::r,[],i=>by cases i<;>simp[kz]
 |x::r,y::q,0=>by simp[kz]
 |x::r,y::q,i+1=>by simp only[kz,List.getElem?_cons_succ];exact ue r q i
section
variable {K:PySem.W.Frag} {E:XK} {B O O':dw} {H0 H H':Hp} {σ:L2.St} {ρ ρ':bb} {v:V}
noncomputable def SqBO (b:Bool) (O:dw) (K:PySem.W.Frag) (H:Hp) (a:Addr) (xs:List V):Prop:=match b with
 |true=>SqTO O K H a xs
 |false=>SqLO O K H a xs
theorem SqBO.ev {b:Bool} {a:Addr} {xs:List V} (h:SqBO b O K H a xs) (e:Ev O H O' H'):SqBO b O' K H' a xs:=by
 cases b with
 |true=>exact SqTO.ev h e
 |false=>exact SqLO.ev h e
theorem SqBO.at {b:Bool} {a:Addr} {xs:List V} (h:SqBO b O K H a xs):yA b K H a xs:=by
 cases b with
 |true=>exact(show SqTO O K H a xs from h).1
 |false=>exact(show SqLO O K H a xs from h).1.sq
theorem EL {b1 b2:Bool} {a c:Addr} {xs ys:List V} {ds es:List D} (h:SqBO b1 O K H a xs) (hd:DVs O K H xs ds) (g:SqBO b2 O K H c ys) (gd:DVs O K H ys es):vN K (Hj K b1 b2 a c) O H (kz ds es):=by
 intro O' H' e n
 have h':=h.ev e
 have hd':=hd.ev e
 have g':=g.ev e
 have gd':=gd.ev e
 rw[ur]
 refine⟨fun i hi=> ?_,⟨xs,ys,h'.at,g'.at,?_⟩⟩
 ·have i1:i<ds.length:=by omega
  have i2:i<es.length:=by omega
  obtain⟨x,hx,dx⟩:=hd'.get (List.getElem?_eq_getElem i1)
  obtain⟨y,hy,dy⟩:=gd'.get (List.getElem?_eq_getElem i2)
  refine⟨⟨xs,ys,x,y,h'.at,g'.at,hx,hy⟩,?_⟩
  rintro t H'' ⟨p,x',y',hp,rfl,hx',hy',rfl⟩
  have q1:=hx' xs h'.at
  have q2:=hy' ys g'.at
  rw[hx] at q1
  rw[hy] at q2
  cases q1;cases q2
  refine⟨b9 hp _,.tuple [ds[i],es[i]],?_,.tup ⟨SqT.of bj,fun q=>absurd q (n p hp)⟩ (.cons (dx.ev (Ev.grow (b9 hp _))) (.cons (dy.ev (Ev.grow (b9 hp _))) .nil))⟩
  rw[ue,List.getElem?_eq_getElem i1,List.getElem?_eq_getElem i2]
  rfl
 ·rw[hd.length,gd.length]
  omega
theorem CU {d:D} {ds:List D} (h:DV O K H v d) (q:gj d=some ds):∃b a xs,v= .ref a∧SqBO b O K H a xs∧DVs O K H xs ds:=by
 cases h with
 |tup h hs=>cases q;exact⟨true,_,_,rfl,h,hs⟩
 |lst h hs=>cases q;exact⟨false,_,_,rfl,h,hs⟩
 |_=>cases q
noncomputable def BM (fa:FA):FI:=fun ρ=>(fa ρ).bind fun a=>(Res.ofO (jH a.2 a.1)).bind fun b=>match b.1 with
 |[d,e]=>(Res.ofO (gj d)).bind fun ds=>(Res.ofO (gj e)).bind fun es=> .ok (kz ds es,b.2)
 |_=> .bad
theorem D6 {ta:TA} {fa:FA} (h:AO K E ta fa):IO K E (Cz K ta) (BM fa):=by
 intro B H0 O σ H ρ R' R w
 refine h B H0 O σ H ρ _ R (w.bind.imp fun a w1 O1 vs H1 e1 R1 p1=> ?_)
 obtain⟨⟨ds,ρ2⟩,q,w1⟩:=w1.ofO
 obtain⟨O2,e2,R2,dv⟩:=kR R1 p1 q
 dsimp only at w1
 cases dv with
 |nil=>exact w1.elim
 |cons h1 h2=>
  cases h2 with
  |nil=>exact w1.elim
  |cons h2 h3=>
   cases h3 with
   |cons _ _=>exact w1.elim
   |nil=>
    obtain⟨es,qs,w1⟩:=WR.ofO w1
    obtain⟨fs,qt,w1⟩:=WR.ofO w1
    obtain⟨b1,a1,xs,rfl,s1,d1⟩:=CU h1 qs
    obtain⟨b2,a2,ys,rfl,s2,d2⟩:=CU h2 qt
    exact⟨a1,a2,b1,b2,rfl,⟨_,s1.at⟩,⟨_,s2.at⟩,w1 O2 _ H1 (e1.trans e2) R2 (EL s1 d1 s2 d2)⟩
noncomputable def Gy (d e:D):Option RV:=match d,e with
 | .str z,.int i=>if z.length≤1000000 then(nq z.cps.toList i).map fun c=> .fz (.str ⟨#[c]⟩) else none
 |_,_=>none
theorem BF:l4 K (Ha K) Gy:=by
 intro O H x y dx dy rv Q n hx hy e q
 unfold Gy at e
 split at e
 ·split at e
  ·rename_i z i hl
   cases qa:nq z.cps.toList i with
   |none=>rw[qa] at e;cases e
   |some c=>
    rw[qa] at e
    cases e
    cases hx;cases hy
    exact .inr (.inr ⟨z,i,c,rfl,rfl,tI hl,qa,q.at (.str _)⟩)
  ·cases e
 ·cases e
noncomputable def A2:List D→Option RV
 |[.str z]=>if z.length≤1000000 then some (.fz (.int z.length)) else none
 |_=>none
theorem wK:A6 K (fun xs H Q=>∃x n,xs=[x]∧Dy K x H n∧Q (.int n) H) A2:=by
 intro O H xs ds rv Q n hp e q
 unfold A2 at e
 split at e
 ·split at e
  ·rename_i z hl
   cases e
   cases hp with
   |cons h1 h2=>
    cases h2;cases h1
    exact⟨_,z.length,rfl,⟨tI hl,rfl⟩,q.at (.int _)⟩
  ·cases e
 ·cases e
noncomputable def EI (g:Str→Str→Bool):R2:=fun x y H Q=>∃i j,x= .str i∧y= .str j∧Q (.bl (g i j)) H
noncomputable def fS (g:Str→Str→Bool):D→D→Option RV
 | .str i,.str j=>some (.fz (.bool (g i j)))
 |_,_=>none
theorem Fv {g:Str→Str→Bool}:l4 K (EI g) (fS g):=by
 intro O H x y dx dy rv Q n hx hy e q
 unfold fS at e
 split at e
 ·cases e
  cases hx;cases hy
  exact⟨_,_,rfl,rfl,q.at (.bl _)⟩
 ·cases e
noncomputable def D0 (i j:Str):Bool:= !decide (j.cps.toList<i.cps.toList)
theorem ri {X:Cx}:OpR X (compareOp .LtE) (EI D0):=by
 intro pins s σ H x y v u Q I rx ry h
 obtain⟨i,j,rfl,rfl,q⟩:=h
 obtain⟨t,rfl⟩:=rx
 obtain⟨t',rfl⟩:=ry
 exact PySem.P.le_str (cw I q rfl)
noncomputable def BL:=fS D0
theorem nM:l4 K (EI D0) BL:=Fv
end
end L3
namespace L3
open PySem L2
noncomputable def HQ (N C:bb→Prop) (T:RV→Prop):Res Fl→Prop
 | .ok (.nx ρ)=>N ρ
 | .ok (.ct ρ)=>C ρ
 | .ok (.rt v)=>T v
 |_=>False
structure Go (r:Res Fl) (N C:bb→Prop) (T:RV→Prop):Prop where
 out:HQ N C T r
section
variable {ρ ρ1 ρ2 ρ3:bb} {f g:FS} {fe:FE} {pv:PV} {d:D} {rv:RV} {ds:List D} {N C:bb→Prop} {T:RV→Prop}
theorem Go.eq {r r':Res Fl} (e:r=r') (h:Go r' N C T):Go r N C T:=by rw[e];exact h
theorem Go.imp {r:Res Fl} {N' C':bb→Prop} {T':RV→Prop} (h:Go r N C T) (hN:∀ρ,N ρ→N' ρ) (hC:∀ρ,C ρ→C' ρ) (hT:∀v,T v→T' v):Go r N' C' T':=by
 refine⟨?_⟩
 have h:=h.out
 cases r with
 |bad=>exact h
 |er x=>exact h
 |ok fl=>
  cases fl with
  |nx r=>exact hN _ h
  |ct r=>exact hC _ h
  |rt v=>exact hT _ h
  |bk r=>exact h
theorem ej (h:Go (f ρ) (fun r=>Go (g r) N C T) C T):Go (aO f g ρ) N C T:=by
 refine⟨?_⟩
 have h:=h.out
 unfold aO
 cases q:f ρ with
 |bad=>rw[q] at h;exact h.elim
 |er x=>rw[q] at h;exact h.elim
 |ok fl=>
  rw[q] at h
  cases fl with
  |nx r=>exact(show Go (g r) N C T from h).out
  |ct r=>exact h
  |rt v=>exact h
  |bk r=>exact h.elim
theorem eO {c:FT} {b:Bool} (hc:c ρ= .ok (b,ρ1)) (ht:b=true→Go (f ρ1) N C T) (hf:b=false→Go (g ρ1) N C T):Go (et c f g ρ) N C T:=by
 unfold et
 rw[hc,Res.bind_ok]
 cases b with
 |true=>exact ht rfl
 |false=>exact hf rfl
theorem dn {gt:FG} (he:fe ρ= .ok (pv,ρ1)) (hg:gt pv ρ1= .ok ρ2) (h:N ρ2):Go (bq fe gt ρ) N C T:= .eq (j7 he hg rfl) ⟨h⟩
theorem kq (he:fe ρ= .ok (pv,ρ1)) (h:N ρ1):Go (gi fe ρ) N C T:= .eq (jf he) ⟨h⟩
theorem cb (he:fe ρ= .ok (pv,ρ1)) (hr:xw ρ1 pv=some rv) (h:T rv):Go (ce fe ρ) N C T:= .eq (vp he hr) ⟨h⟩
theorem cN (h:N ρ):Go (bv ρ) N C T:=⟨h⟩
theorem wa {gt:FG} {b:FS} (I:Nat→bb→Prop):∀(ds:List D) (k:Nat) (ρ:bb),I k ρ→(∀i d ρ,ds[i]? =some d→I (k+i) ρ→∃ρ1,gt (.fz d) ρ= .ok ρ1∧Go (b ρ1) (I (k+i+1)) (I (k+i+1)) T)→Go (oW gt b ds ρ) (I (k+ds.length)) C T
 |[],k,ρ,h0,_=>⟨h0⟩
 |d::r,k,ρ,h0,hs=>by
  obtain⟨ρ1,h1,h2⟩:=hs 0 d ρ rfl h0
  have h2:=h2.out
  have rest:∀ρ',I (k+1) ρ'→Go (oW gt b r ρ') (I (k+(r.length+1))) C T:=fun ρ' h=>by
   have e:k+(r.length+1)=k+1+r.length:=by omega
   rw[e]
   refine wa I r (k+1) ρ' h fun i d' ρ'' hi hI=> ?_
   have e:k+1+i=k+(i+1):=by omega
   rw[e] at hI⊢
   exact hs (i+1) d' ρ'' (by simpa using hi) hI
  refine⟨?_⟩
  show HQ _ _ _ ((gt (.fz d) ρ).bind _)
  rw[h1,Res.bind_ok]
  cases q:b ρ1 with
  |bad=>rw[q] at h2;exact h2.elim
  |er x=>rw[q] at h2;exact h2.elim
  |ok fl=>
   rw[q] at h2
   cases fl with
   |nx r=>exact(rest _ h2).out
   |ct r=>exact(rest _ h2).out
   |rt v=>exact h2
   |bk r=>exact h2.elim
theorem uQ {fi:FI} {gt:FG} {b:FS} (I:Nat→bb→Prop) (hi:fi ρ= .ok (ds,ρ1)) (h0:I 0 ρ1) (hs:∀i d ρ,ds[i]? =some d→I i ρ→∃ρ1,gt (.fz d) ρ= .ok ρ1∧Go (b ρ1) (I (i+1)) (I (i+1)) T) (hN:∀ρ',I ds.length ρ'→N ρ'):Go (iU fi gt b ρ) N C T:=by
 have:=wa (C:=C) (T:=T) I ds 0 ρ1 h0 (by simpa using hs)
 rw[Nat.zero_add] at this
 exact .eq (oJ hi) (this.imp hN (fun _ h=>h) fun _ h=>h)
theorem jD {n:Nat} {g:FS} {T:RV→Prop} (hρ:ds.map (fun d=>some (.fz d))++List.replicate (n - ds.length) none=ρ) (h:Go (g ρ) (fun _=>T (.fz .none)) (fun _=>False) T):∃rv,fq n g ds= .ok rv∧T rv:=by
 have h:=h.out
 unfold fq
 rw[hρ]
 cases q:g ρ with
 |bad=>rw[q] at h;exact h.elim
 |er x=>rw[q] at h;exact h.elim
 |ok fl=>
  rw[q] at h
  cases fl with
  |nx r=>exact⟨_,rfl,h⟩
  |ct r=>exact h.elim
  |rt v=>exact⟨_,rfl,h⟩
  |bk r=>exact h.elim
theorem ey {n:Nat} {g:FS} {v:RV} (hρ:ds.map (fun d=>some (.fz d))++List.replicate (n - ds.length) none=ρ) (h:Go (g ρ) (fun _=>RV.fz .none=v) (fun _=>False) (fun r=>r=v)):fq n g ds= .ok v:=by
 obtain⟨rv,h1,h2⟩:=jD (T:=fun r=>r=v) hρ h
 rw[h1,h2]
theorem cK {gt:FG} (he:fe ρ= .ok (pv,ρ1)) (hg:gt pv ρ1= .ok ρ2) (hn:ρ2=ρ3) (h:Go (g ρ3) N C T):Go (aO (bq fe gt) g ρ) N C T:= .eq (hW (j7 he hg hn)) h
theorem yG {gt:FG} (he:fe ρ= .ok (pv,ρ1)) (hg:gt pv ρ1= .ok ρ2) (hn:ρ2=ρ3) (h:N ρ3):Go (bq fe gt ρ) N C T:= .eq (j7 he hg hn) ⟨h⟩
theorem rh (he:fe ρ= .ok (pv,ρ1)) (h:Go (g ρ1) N C T):Go (aO (gi fe) g ρ) N C T:= .eq (hW (jf he)) h
theorem eW (he:fe ρ= .ok (pv,ρ1)) (hr:xw ρ1 pv=some rv) (h:T rv):Go (aO (ce fe) g ρ) N C T:= .eq (Eh (vp he hr)) ⟨h⟩
theorem cG (h:Go (g ρ) N C T):Go (aO bv g ρ) N C T:= .eq rfl h
theorem xG {f1 f2:FS}:aO (aO f1 f2) g ρ=aO f1 (aO f2 g) ρ:=by
 unfold aO
 cases f1 ρ with
 |bad=>rfl
 |er x=>rfl
 |ok fl=>cases fl<;>rfl
theorem Dt {f1 f2:FS} (h:Go (aO f1 (aO f2 g) ρ) N C T):Go (aO (aO f1 f2) g ρ) N C T:= .eq xG h
theorem e8 {c:FT} {f1 f2:FS} {b:Bool} (hc:c ρ= .ok (b,ρ1)) (ht:b=true→Go (aO f1 g ρ1) N C T) (hf:b=false→Go (aO f2 g ρ1) N C T):Go (aO (et c f1 f2) g ρ) N C T:=by
 have e:aO (et c f1 f2) g ρ=if b=true then aO f1 g ρ1 else aO f2 g ρ1:=by
  unfold aO et
  rw[hc,Res.bind_ok]
  cases b<;>rfl
 refine .eq e ?_
 cases b with
 |true=>exact ht rfl
 |false=>exact hf rfl
theorem iC {fi:FI} {gt:FG} {b:FS} (I:Nat→bb→Prop) (hi:fi ρ= .ok (ds,ρ1)) (h0:I 0 ρ1) (hs:∀i d ρ,ds[i]? =some d→I i ρ→∃ρ1,gt (.fz d) ρ= .ok ρ1∧Go (b ρ1) (I (i+1)) (I (i+1)) T) (hN:∀ρ',I ds.length ρ'→Go (g ρ') N C T):Go (aO (iU fi gt b) g ρ) N C T:=
 ej (uQ I hi h0 hs hN)
theorem qp {gt:FG} {ft:FT} {fe:FE} (I:bb→Prop) (P:Nat→D→Prop):∀(ds:List D) (k:Nat) (ρ:bb) (acc:List D),I ρ→acc.length+ds.length≤1000000→(∀i d,ds[i]? =some d→∀ρ,I ρ→∃x ρ',iW gt ft fe d ρ= .ok (some x,ρ')∧I ρ'∧P (k+i) x)→
  ∃xs,dW gt ft fe ds ρ acc= .ok (acc++xs)∧xs.length=ds.length∧∀i x,xs[i]? =some x→P (k+i) x
 |[],k,ρ,acc,_,_,_=>⟨[],by show Res.ok acc=_;simp,rfl,fun i x h=>by simp at h⟩
 |d::r,k,ρ,acc,h0,hl,hs=>by
  obtain⟨x,ρ',h1,h2,h3⟩:=hs 0 d rfl ρ h0
  rw[List.length_cons] at hl
  obtain⟨xs,g1,g2,g3⟩:=qp I P r (k+1) ρ' (acc++[x]) h2 (by rw[List.length_append];simp;omega) fun i d' hi ρ'' hI=>by
   have e:k+1+i=k+(i+1):=by omega
   rw[e]
   exact hs (i+1) d' (by simpa using hi) ρ'' hI
  refine⟨x::xs,?_,by rw[List.length_cons,g2,List.length_cons],fun i y hy=> ?_⟩
  ·rw[nY h1 (by omega)]
   show dW gt ft fe r ρ' (acc++[x])=_
   rw[g1,List.append_assoc]
   rfl
  ·cases i with
   |zero=>cases(show some x=some y from hy);exact h3
   |succ i=>
    have e:k+(i+1)=k+1+i:=by omega
    rw[e]
    exact g3 i y (by simpa using hy)
theorem i4 {gt:FG} {ft:FT} {fe:FE} (I:bb→Prop) (P:Nat→D→Prop) (h0:I ρ) (hl:ds.length≤1000000) (hs:∀i d,ds[i]? =some d→∀ρ,I ρ→∃x ρ',iW gt ft fe d ρ= .ok (some x,ρ')∧I ρ'∧P i x):
  ∃xs,jb (dW gt ft fe ds ρ [])= .ok xs∧xs.length=ds.length∧∀i x,xs[i]? =some x→P i x:=by
 obtain⟨xs,g1,g2,g3⟩:=qp I P ds 0 ρ [] h0 (by simpa using hl) (by simpa using hs)
 exact⟨xs,by rw[g1];rfl,g2,by simpa using g3⟩
theorem lF {α:Type} {f:α→D} {Q:Nat→α→Prop}:∀(xs:List D) (k:Nat),(∀i x,xs[i]? =some x→∃a,x=f a∧Q (k+i) a)→∃as:List α,xs=as.map f∧∀i a,as[i]? =some a→Q (k+i) a
 |[],_,_=>⟨[],rfl,fun i a h=>by simp at h⟩
 |x::r,k,h=>by
  obtain⟨a,e,q⟩:=h 0 x rfl
  obtain⟨as,e2,q2⟩:=lF (f:=f) (Q:=Q) r (k+1) fun i y hy=>by
   have e:k+1+i=k+(i+1):=by omega
   rw[e]
   exact h (i+1) y (by simpa using hy)
  refine⟨a::as,by rw[e,e2];rfl,fun i b hb=> ?_⟩
  cases i with
  |zero=>cases(show some a=some b from hb);exact q
  |succ i=>
   have e:k+(i+1)=k+1+i:=by omega
   rw[e]
   exact q2 i b (by simpa using hb)
theorem HF {a b:Str} (ha:PyData.strOk a=true) (hb:PyData.strOk b=true):fO (.str a) (.str b)=some (.fz (.bool (a==b))):=by
 unfold fO
 rw[show kL (.str a)=true by unfold kL;rw[show PyData.canLay0 (.str a)=true from ha];rfl,show PyData.canLay0 (.str b)=true from hb,Bool.and_self,if_pos rfl]
 rfl
theorem AZ {a:Str} (ha:PyData.strOk a=true):fO (.str a) (.str a)=some (.fz (.bool true)):=by rw[HF ha ha,beq_self_eq_true]
theorem ik {a b:Str} (ha:PyData.strOk a=true) (hb:PyData.strOk b=true) (h:(a==b)=false):fO (.str a) (.str b)=some (.fz (.bool false)):=by rw[HF ha hb,h]
theorem GR {a b c:Str} (ha:PyData.strOk a=true) (hb:PyData.strOk b=true) (hc:PyData.strOk c=true):ng (.str a) (.tuple [.str b,.str c])=some (.fz (.bool (b==a||c==a))):=by
 show(if(kL (.str a)&&(PyData.strOk b&&(PyData.strOk c&&true)))=true then some (RV.fz (.bool (PyData.eqv (.str b) (.str a)||(PyData.eqv (.str c) (.str a)||false)))) else none)=_
 rw[show kL (.str a)=true by unfold kL;rw[show PyData.canLay0 (.str a)=true from ha];rfl,hb,hc,Bool.or_false]
 rfl
theorem G7 {a b c e:Str} (ha:PyData.strOk a=true) (hb:PyData.strOk b=true) (hc:PyData.strOk c=true) (he:PyData.strOk e=true):ng (.str a) (.tuple [.str b,.str c,.str e])=some (.fz (.bool (b==a||(c==a||e==a)))):=by
 show(if(kL (.str a)&&(PyData.strOk b&&(PyData.strOk c&&(PyData.strOk e&&true))))=true then some (RV.fz (.bool (PyData.eqv (.str b) (.str a)||(PyData.eqv (.str c) (.str a)||(PyData.eqv (.str e) (.str a)||false))))) else none)=_
 rw[show kL (.str a)=true by unfold kL;rw[show PyData.canLay0 (.str a)=true from ha];rfl,hb,hc,he,Bool.or_false]
 rfl
theorem rR {α:Type} {xs:List α} {i:Int} {v:α} (h0:0≤i) (h:xs[i.toNat]? =some v):nq xs i=some v:=DU h0 h
theorem Gh {i:Int} (h0:0≤i) (h:ds[i.toNat]? =some d):bC (.tuple ds) (.int i)=some (.fz d):=by
 show(nq ds i).map RV.fz=_
 rw[rR h0 h];rfl
theorem tR {i:Int} (h0:0≤i) (h:ds[i.toNat]? =some d):bC (.list ds) (.int i)=some (.fz d):=by
 show(nq ds i).map RV.fz=_
 rw[rR h0 h];rfl
theorem jA {n:Int} (h0:0≤n) (h:n≤1000000):fK [.int n]=some (eS (List.range n.toNat)):=by
 rw[xk (by unfold jx;omega),uy]
theorem Hr:ji (.int 10) (.int 8)=some (.fz (.int (10^8))):=qM (j:=8) ⟨by decide,by decide⟩
theorem Gn:ji (.int 10) (.int 24)=some (.fz (.int (10^24))):=qM (j:=24) ⟨by decide,by decide⟩
theorem bR {f:D→D→Option RV} {fa fb:FE} {pa pb:PV} {dx dy:D} {b:Bool} (ha:fa ρ= .ok (pa,ρ1)) (hb:fb ρ1= .ok (pb,ρ2)) (hx:kF ρ2 (fw pa)=some dx) (hy:kF ρ2 pb=some dy) (hf:f dx dy=some (.fz (.bool b))):az f fa fb ρ= .ok (.fz (.bool b),ρ2):=a8 (rv:= .fz (.bool b)) ha hb hx hy hf
theorem rz {f:List D→Option RV} {fr:FA} {ps:List PV} {b:Bool} (ha:fr ρ= .ok (ps,ρ1)) (hd:jW ρ1 ps=some ds) (hf:f ds=some (.fz (.bool b))):dh f fr ρ= .ok (.fz (.bool b),ρ1):=dA (rv:= .fz (.bool b)) ha hd hf
theorem fZ {F:FN} {n:Nat} {fr:FA} {ps:List PV} {b:Bool} (ha:fr ρ= .ok (ps,ρ1)) (hd:jH ρ1 ps=some (ds,ρ2)) (hn:ds.length=n) (hF:F ds= .ok (.fz (.bool b))):bx F n fr ρ= .ok (.fz (.bool b),ρ2):=eN (rv:= .fz (.bool b)) ha hd hn hF
theorem Ck {s:List Nat} {n:Nat} (hp:s.Pairwise (·<·)) (h:∀k∈s,k<n):s.length≤n:=by
 have:∀(s:List Nat) (a:Nat),s.Pairwise (·<·)→(∀k∈s,a≤k∧k<n)→s.length≤n - a:=by
  intro s
  induction s with
  |nil=>intro a _ _;exact Nat.zero_le _
  |cons x r ih=>
   intro a hp h
   obtain⟨h1,h2⟩:=List.pairwise_cons.mp hp
   have hx:=h x List.mem_cons_self
   have:=ih (x+1) h2 fun k hk=>⟨h1 k hk,(h k (List.mem_cons_of_mem _ hk)).2⟩
   rw[List.length_cons]
   omega
 exact this s 0 hp fun k hk=>⟨Nat.zero_le _,h k hk⟩
theorem xp {fr:FA} {ps:List PV} {e:D} {es fs:List D} (ha:fr ρ= .ok (ps,ρ1)) (hd:jH ρ1 ps=some ([d,e],ρ2)) (hs:gj d=some es) (ht:gj e=some fs):BM fr ρ= .ok (kz es fs,ρ2):=by
 unfold BM
 rw[ha,Res.bind_ok,hd,bc,Res.bind_ok]
 dsimp only
 rw[hs,bc,Res.bind_ok,ht,bc,Res.bind_ok]
theorem gz {f g:D→D→Option RV} {fa fb fc:FE} {pa pb pc:PV} {dx dy dz:D} {b1 b2:Bool} (ha:fa ρ= .ok (pa,ρ)) (hb:fb ρ= .ok (pb,ρ)) (hc:fc ρ= .ok (pc,ρ)) (hx:kF ρ (fw pa)=some dx) (hy:kF ρ (fw pb)=some dy) (hz:kF ρ pc=some dz) (hf:f dx dy=some (.fz (.bool b1))) (hg:b1=true→g dy dz=some (.fz (.bool b2))):eh f g fa fb fc ρ= .ok (.fz (.bool (b1&&b2)),ρ):=by
 unfold eh
 rw[ha,Res.bind_ok,hb,Res.bind_ok]
 dsimp only
 rw[hx,bc,Res.bind_ok,hy,bc,Res.bind_ok,hf,bc,Res.bind_ok]
 cases b1 with
 |false=>rfl
 |true=>
  dsimp only
  rw[hc,Res.bind_ok]
  dsimp only
  rw[hy,bc,Res.bind_ok,hz,bc,Res.bind_ok,hg rfl,bc,Res.bind_ok]
  rfl
end
end L3
namespace L3
open PySem PySem.Spec PyProof.Rows L2 PySem.Builtin PySem.Builtin.Str
section
variable {X:Cx}
end
end L3
namespace L3
open PySem PySem.Spec PyProof.Rows L2 PySem.Builtin PySem.Builtin.Str
section
variable {X:Cx}
end
end L3
namespace L3
open PySem PySem.Spec PyProof.Rows L2 PySem.Builtin PySem.Builtin.Str
section
variable {X:Cx}
end
end L3
namespace L3
open PySem PySem.Spec PyProof.Rows L2 PySem.Builtin PySem.Builtin.Str
section
variable {K:PySem.W.Frag} {E:XK} {B O O':dw} {H0 H H':Hp} {σ:L2.St} {ρ ρ':bb} {v:V}
noncomputable def C4:PV→Option Str
 | .fz (.str z)=>some z
 |_=>none
noncomputable def Et:D→Option Int→Option Int→Option RV
 | .str z,lo,hi=>if z.length≤1000000 then some (.fz (.str (Txt.slice z lo hi))) else none
 |_,_,_=>none
noncomputable def GU:D→D→Option RV
 | .str i,.str j=>if i.length+j.length≤1000000 then some (.fz (.str (i++j))) else none
 |_,_=>none
noncomputable def vS (z:Str):List D:=z.cps.toList.map fun c=> .str ⟨#[c]⟩
noncomputable def AE (fe:FE):FI:=fun ρ=>(fe ρ).bind fun a=>(Res.ofO (C4 a.1)).bind fun z=> .ok (vS z,a.2)
end
end L3
namespace PySem
open Sem (wp)
open AutoSeq1 (wpAny_loadPart')
open Builtin Builtin.Str
section
variable {prog:Program} {w:World} {A:Around} {E:Value→Shared→Prop} {s:Shared}
end
section
variable {prog:Program} {w:World} {A:Around} {E:Value→Shared→Prop} {s:Shared}
end
end PySem
namespace PySem
open Sem (wp)
open Builtin Builtin.Str
section
variable {M:Model} {A:Around} {E:Value→Shared→Prop} {s:Shared} {env:Env}
end
end PySem
namespace L3
open PySem PySem.Spec PyProof.Rows L2 PySem.Builtin
section
variable {K:PySem.W.Frag} {E:XK} {B O O':dw} {H0 H H':Hp} {σ:L2.St} {ρ ρ':bb} {v:V}
end
end L3
namespace L3
open PySem L2
end L3
namespace L2
open PySem PySem.Spec PyProof.Rows
section
variable {X:Cx}
end
end L2
namespace L3
open PySem PySem.Spec L2
section
variable {K:PySem.W.Frag} {E:XK}
end
end L3
namespace L2
open PySem PySem.Spec PyProof.Rows
section
variable {κ:Type} [DecidableEq κ]
end
section
variable {P:Program} {w:World} {H:Hp} {h:Heap} {a:Addr}
end
section
variable {X:Cx} {pins:List (Addr×Obj)} {σ:St} {H:Hp} {s:Shared} {a:Addr} {y v:V} {u r:Value} {o:Option V} {A:Around} {E:Value→Shared→Prop}
end
section
variable {X:Cx} {pins:List (Addr×Obj)} {σ:St} {H:Hp} {s:Shared} {a:Addr} {kvs:List (pL×V)} {k:pL} {u:Value} {A:Around} {E:Value→Shared→Prop}
end
section
variable {X:Cx} {o i e value:Expr} {pos pos' tpos:Pos} {td ty tv:TE}
end
section
variable {X:Cx} {pos:Pos}
end
structure M1 (X:Cx) (o:Expr) (m:Str) (apos:Pos) (e:Expr) (cpos:Pos):Prop where
 base:attributeBase o m X.env (eval o X.env)=eval o X.env
 few:((backTo cpos (starEach [e] X.env)).all (fun x=> !x.1)&&(backToKw cpos (keywordEach [] X.env)).all (fun x=>x.1.isSome)
  &&decide (([e]:List Expr).length+([]:List Keyword).length+(if([]:List Keyword).isEmpty then 0 else 1)<30))=true
 line:(apos.endLine==cpos.line)=true
 trees:backTo cpos (starEach [e] X.env)=[(false,eval e X.env)]
structure M2 (X:Cx) (o:Expr) (m:Str) (apos:Pos) (e f:Expr) (cpos:Pos):Prop where
 base:attributeBase o m X.env (eval o X.env)=eval o X.env
 few:((backTo cpos (starEach [e,f] X.env)).all (fun x=> !x.1)&&(backToKw cpos (keywordEach [] X.env)).all (fun x=>x.1.isSome)
  &&decide (([e,f]:List Expr).length+([]:List Keyword).length+(if([]:List Keyword).isEmpty then 0 else 1)<30))=true
 line:(apos.endLine==cpos.line)=true
 trees:backTo cpos (starEach [e,f] X.env)=[(false,eval e X.env),(false,eval f X.env)]
section
variable {X:Cx} {pins:List (Addr×Obj)} {σ:St} {H:Hp} {s:Shared} {a:Addr} {y d:V} {u r:Value} {o:Option V} {A:Around} {E:Value→Shared→Prop}
end
section
variable {X:Cx} {o e f:Expr} {apos cpos:Pos} {td ty tx:TE}
end
section
variable {X:Cx} {pins:List (Addr×Obj)} {σ:St} {H:Hp} {s:Shared} {a:Addr} {kvs:List (pL×V)} {A:Around} {E:Value→Shared→Prop}
end
section
variable {X:Cx} {pins:List (Addr×Obj)} {σ:St} {H:Hp} {s:Shared} {a:Addr} {y:V} {u:Value} {A:Around} {E:Value→Shared→Prop}
end
end L2
namespace L2
open PySem PySem.Spec PyProof.Rows
section
variable {X:Cx}
end
section
variable {κ:Type} [DecidableEq κ]
end
end L2
namespace HT
open PySem PySem.Spec PyProof.Rows PySem.Calls
theorem vg (n:Nat):Builtin.Slice.sliceAdjust none none (-1) (n:Int)=((n:Int) - 1,-1):=by
 unfold Builtin.Slice.sliceAdjust
 have h1:(-1:Int)<0:=by decide
 simp only[h1,if_true]
theorem vt (n:Nat):Builtin.Slice.slicePlaces ((n:Int) - 1) (-1) (-1)=n:=by
 unfold Builtin.Slice.slicePlaces
 have h1:¬((-1:Int)>0):=by decide
 simp only[h1,if_false]
 by_cases h:(n:Int) - 1> -1
 ·rw[if_pos h,show(- -1:Int)=1 by decide,Int.ediv_one]
  omega
 ·rw[if_neg h]
  omega
theorem zx (xs:Array Value):((List.range xs.size).filterMap fun(m:Nat)=>xs[((xs.size:Int) - 1+(m:Int)*(-1)).toNat]?).toArray=xs.toList.reverse.toArray:=by
 have e:(List.range xs.size).filterMap (fun(m:Nat)=>xs[((xs.size:Int) - 1+(m:Int)*(-1)).toNat]?)=((List.range xs.size).map fun k=>xs.size - 1 - k).filterMap (xs[·]?):=by
  rw[List.filterMap_map]
  have key:∀l:List Nat,(∀m∈l,m<xs.size)→l.filterMap (fun(m:Nat)=>xs[((xs.size:Int) - 1+(m:Int)*(-1)).toNat]?)=l.filterMap ((xs[·]?)∘fun k=>xs.size - 1 - k):=by
   intro l
   induction l with
   |nil=>intro _;rfl
   |cons m r ih=>
    intro h
    have hm:=h m (.head _)
    have e1:((xs.size:Int) - 1+(m:Int)*(-1)).toNat=xs.size - 1 - m:=by omega
    rw[List.filterMap_cons,List.filterMap_cons,ih fun k hk=>h k (.tail _ hk),e1]
    rfl
  exact key _ fun m hm=>List.mem_range.mp hm
 rw[e,PySem.W.krv_range,List.filterMap_reverse,PySem.W.krv_all]
section
variable {prog:Program} {w:World} {A:Around} {E:Value→Shared→Prop} {s:Shared}
theorem l9 {sl:Addr} {vk:Value} {n:Nat} {Q:Int×Int×Nat→Shared→Prop} (hs:s.heap.IsSliceOf sl .none .none vk) (pk:IsPart vk (some (-1)))
  (h:Q ((n:Int) - 1,-1,n) s):wpAny (model prog w) A (Builtin.Slice.sliceApplied (.ref sl) (pure (n:Int))) Q E s:=by
 obtain⟨os,hos,hcs,hds⟩:=id hs
 unfold Builtin.Slice.sliceApplied Builtin.Slice.sliceFields
 refine wpAny_bind (wpAny_bind (wpAny_field hos hds (x:= .none) rfl (wpAny_bind (wpAny_field hos hds (x:= .none) rfl (wpAny_bind (wpAny_field hos hds (x:=vk) rfl (wpAny_pure ?_)))))))
 refine wpAny_bind (iy pk ?_)
 show wpAny _ _ (if((-1:Int)==0)=true then _ else _) _ _ s
 rw[if_neg (by decide)]
 refine wpAny_bind (iy .none (wpAny_bind (iy .none (wpAny_bind (wpAny_pure ?_)))))
 show wpAny _ _ (match Builtin.Slice.sliceAdjust none none (-1) (n:Int) with|(lo,hi)=>pure (lo,(-1:Int),Builtin.Slice.slicePlaces lo hi (-1))) _ _ s
 rw[vg n]
 show wpAny _ _ (pure ((n:Int) - 1,(-1:Int),Builtin.Slice.slicePlaces ((n:Int) - 1) (-1) (-1))) _ _ s
 rw[vt]
 exact wpAny_pure h
theorem getItem_tuple_rev {t sl:Addr} {items:Array Value} {vk:Value} {Q:Value→Shared→Prop} (ht:IsTup s.heap t items) (hs:s.heap.IsSliceOf sl .none .none vk) (pk:IsPart vk (some (-1)))
  (h:Q (.ref s.heap.objs.size) {s with heap:=s.heap.push {cls:= .type "tuple",data:= .seq items.toList.reverse.toArray}})
  (hsz:items.size≤sizeLine):wpAny (model prog w) A (getItem (.ref t) (.ref sl)) Q E s:=by
 have htake:sizeOk (.seq items.toList.reverse.toArray):=by
  show items.toList.reverse.toArray.size≤sizeLine
  rw[List.size_toArray,List.length_reverse,Array.length_toList]
  exact hsz
 obtain⟨os,hos,hcs,hds⟩:=id hs
 have hTs:s.TypeIs (.ref sl) "slice":=⟨os,hos,hcs⟩
 unfold getItem
 try with_reducible refine wpAny_holding ?_
 first|refine wpAny_bind (wpAny_pure ?_)|skip
 refine wpAny_bind (wpAny_sequenceKey ht.typeIs (by decide) ?_)
 refine wpAny_bind (wpAny_callSpecial?_slot (name:=Str.ofString "__getitem__") ht.typeIs PyProof.Rows.slot_tuple_getitem
  (wpAny_call_entry PyProof.Rows.slot_tuple_getitem ht.typeIs entry_tuple_getitem ?_ (args_tuple_getitem _ _)))
 show wpAny _ _ (Builtin.Tuple.tupleItemsOf (.ref t)>>=_) _ _ s
 refine wpAny_bind (tupleItemsOf_ ht ?_)
 refine wpAny_bind (wpAny_typeOf hTs ?_)
 rw[if_pos (by decide)]
 refine wpAny_bind (l9 hs pk ?_)
 show wpAny _ _ (if(((items.size:Int) - 1)==0&&(-1:Int)==1&&items.size==items.size)=true then _ else _) _ _ s
 rw[if_neg (by rw[show((-1:Int)==1)=false from by decide,Bool.and_false,Bool.false_and];exact Bool.false_ne_true),zx]
 first
  |exact wpAny_bind (m:=Builtin.Tuple.tupleExact _) (wpAny_newObj_type (wpAny_pure ⟨_,rfl,wpAny_pure h⟩) htake)
  |exact wpAny_bind (m:=Builtin.Tuple.tupleExact _) (wpAny_newObj_type (wpAny_bind (wpAny_pure (wpAny_pure ⟨_,rfl,wpAny_pure h⟩))) htake)
  |exact wpAny_bind (wpAny_bind (m:=Builtin.Tuple.tupleExact _) (wpAny_newObj_type (wpAny_pure (wpAny_pure ⟨_,rfl,wpAny_pure h⟩)) htake))
  |exact wpAny_bind (wpAny_bind (m:=Builtin.Tuple.tupleExact _) (wpAny_newObj_type (wpAny_pure ⟨_,rfl,wpAny_pure h⟩) htake))
end
end HT
namespace L2
open PySem PySem.Spec PyProof.Rows
theorem AY {xs:List V} {its:List Value} (h:Vals xs its):Vals xs.reverse its.reverse:=by
 induction h with
 |nil=>exact .nil
 |cons h t ih=>
  rw[List.reverse_cons,List.reverse_cons]
  exact ih.append (.cons h .nil)
noncomputable def Fj (K:PySem.W.Frag) (te:TE) (tk:TO):TE:=fun σ H Q=>te σ H fun x H1=>tk σ H1 fun o H2=>o=some (-1)∧∃a xs,x= .ref a∧SqT K H2 a xs∧∀p,H2 p=none→Q (.ref p) (cU H2 p (.tup xs.reverse))
theorem DK {X:Cx} {e st:Expr} {p2 pos:Pos} {te:TE} {tk:TO} (he:PE X e te) (hk:PO X (some st) tk):PE X (.Subscript e (.Slice none none (some st) p2) pos) (Fj X.K te tk):=by
 intro pins s σ H Q I h
 refine Subscript_ (eJ (he pins s σ H _ I h) fun v s1 ⟨x,H1,I1,r1,q1⟩=> ?_)
 refine wpAny_Slice ?_
 rw[evalPart_none]
 refine wpAny_pure ?_
 refine wpAny_pure (eJ (hk pins s1 σ H1 _ I1 q1) fun vk s3 ⟨o,H3,I3,pk,e3,a,xs,ea,hx,q3⟩=> ?_)
 subst e3 ea
 cases r1
 have I4:Inv X pins σ H3 {s3 with heap:=s3.heap.push {cls:= .type "slice",data:= .fields #[.none,.none,vk]}}:=I3.kept (t':=s3.toks) fun b ob q=>Heap.get?_push_of_some _ q
 obtain⟨its,r,ht,hz⟩:=I4.tuple hx
 have hlen:its.toArray.size=xs.length:=by rw[List.size_toArray];exact r.length.symm
 show wpAny (model X.prog X.w) X.A (subscriptTail e (.Slice none none (some st) p2) (.ref a) (.ref s3.heap.objs.size)) (EP X pins σ Q) X.xe {s3 with heap:=s3.heap.push {cls:= .type "slice",data:= .fields #[.none,.none,vk]}}
 refine tail_any (ops:=[.ref a,.ref s3.heap.objs.size]) ht.typeIs PyProof.Rows.slot_tuple_getitem.lookup ?_ (by with_unfolding_all rfl)
 refine HT.getItem_tuple_rev ht (Heap.IsSliceOf.new ..) pk ?_ (by rw[hlen];exact hz)
 refine⟨.ref _,_,I4.laid (t':=s3.toks) (o:= .tup xs.reverse) (fun b ob q=>Heap.get?_push_of_some _ q) (Nat.le_refl _) ?_,rfl,q3 _ (I4.hok.fresh (Nat.le_refl _))⟩
 exact⟨by rw[List.length_reverse];exact hz,_,AY r,IsTup.new _ _⟩
end L2
namespace PySem
open Sem (wp)
open Builtin
open AutoSeq1 (wpAny_loadPart')
end PySem
namespace L3
open PySem PySem.Spec PyProof.Rows L2
noncomputable def Da (K:PySem.W.Frag):R2:=fun x y H Q=>∃(a b:Addr) (ys:List V),x= .ref a∧y= .ref b∧SqT K H a []∧SqT K H b ys∧Q (.ref b) H
theorem Bc {X:Cx}:OpR X (binaryOp .Add) (Da X.K):=by
 intro pins s σ H x y v u Q I rx ry h
 obtain⟨a,b,ys,rfl,rfl,ha,hb,q⟩:=h
 cases rx
 cases ry
 obtain⟨its,r1,p1,_⟩:=I.tuple ha
 obtain⟨its2,r2,p2,_⟩:=I.tuple hb
 cases r1
 obtain⟨⟨cls,dd,data,sl⟩,ho,hc,n,hd⟩:=id p1
 obtain⟨⟨cls2,dd2,data2,sl2⟩,ho2,hc2,n2,hd2⟩:=id p2
 simp only at hc hd hc2 hd2
 subst hc hd hc2 hd2
 exact concat_meets ⟨_,ho,rfl⟩ ⟨_,ho2,rfl⟩ noFill_tuple_add seq_tuple_add PySem.F.slot_tuple_add PySem.F.entry_tuple_add (PySem.F.args_tuple_add_2 _ _)
  (tuple_addW0 a b _ its2.toArray n n2 dd dd2 sl sl2 rfl) ⟨ho,ho2,⟨.ref b,H,I,rfl,q⟩⟩
noncomputable def CY (K:PySem.W.Frag):R2:=fun x y H Q=>AK K x y H Q∨Da K x y H Q
theorem eH {X:Cx}:OpR X (binaryOp .Add) (CY X.K):=OpR.or bE Bc
noncomputable def dJ:D→D→Option RV
 | .tuple [],.tuple ys=>some (.fz (.tuple ys))
 |d,e=>cn d e
theorem dG {K:PySem.W.Frag}:l4 K (CY K) dJ:=by
 intro O H x y dx dy rv Q n hx hy e q
 unfold dJ at e
 split at e
 ·cases e
  obtain⟨a,xs,rfl,h1,h2⟩:=uL hx
  obtain⟨b,ys,rfl,g1,g2⟩:=uL hy
  cases h2
  exact .inr ⟨a,b,ys,rfl,rfl,h1.1,g1.1,q.at (.tup g1 g2)⟩
 ·exact .inl (bF O H x y dx dy rv Q n hx hy e q)
end L3
namespace L4
open PySem PySem.Spec PyProof.Rows L2 L3
noncomputable def A7 (h:Heap) (e:Addr) (c:Value) (dx:Option Addr) (a0:Value) (hd:Option Addr):Prop:=
 ∃ob fs,h.get? e=some ob∧ob.cls=c∧ob.dict=dx∧ob.data= .fields fs∧fs[0]? =some a0∧
  match hd with
  |none=>fs[1]? =some .none
  |some T=>fs[1]? =some (.ref T)∧T≠e∧∃oT ts,h.get? T=some oT∧oT.data= .fields ts∧ts[3]? =some .none
structure Lft (l:List Env) (e:Addr) (hd:Option Addr) (h h':Heap):Prop where
 keep:∀b o,h.get? b=some o→b≠e→hd≠some b→b∉ul l→h'.get? b=some o
 slot:∀b o,h.get? b=some o→b≠e→hd≠some b→∃sl,h'.get? b=some {o with slots:=sl}
 here:∀b o,h.get? b=some o→∃o',h'.get? b=some o'
section
variable {M:Model} {A:Around} {E:Value→Shared→Prop} {s:Shared}
theorem jk {base:Heap} {env:Env} {outer:List Env} {L e:Addr} {ob:Obj} {fs:Array Value} {hv a0:Value} {nx:Bool} {Q:Unit→Shared→Prop}
  (hA:A.frames=some (env::outer)) (hF:s.heap.FunFrames base (env::outer)) (hL:env.frame=some L) (hE:s.heap.get? e=some ob) (hD:ob.data= .fields fs) (hZ:1<fs.size) (h0:fs[0]? =some a0)
  (k:∀h' T,s.heap.objs.size≤T→A7 h' e ob.cls ob.dict a0 (some T)→Lft (env::outer) e none s.heap h'→Q () {s with heap:=h'}):
  wpAny M A (frameOf env>>=fun fr=>entryPlaceOf L nx>>=fun pl=>EntryCells.newEntry hv fr .none (rawInt L) .none pl>>=fun b=>setField (.ref e) 1 b) (fun _ s'=>wpAny M A (setFlight (.ref e) none) Q E s') E s:=by
 have nfr:e∉(env::outer).filterMap (·.frame):=fun z=>by
  obtain⟨_,o,q,n⟩:=hF.mem z
  rw[hE] at q
  cases q
  exact n fs hD
 refine wpAny_bind (wpAny_frameOf_fun hA hF hL fun h1 S=> ?_)
 refine wpAny_bind (wpAny_entryPlaceOf fun pl P=> ?_)
 unfold EntryCells.newEntry newFields
 refine wpAny_bind (wpAny_newObj_type ?_ (P.sizeOk5 _ _ _ _ _))
 have q1:h1.get? e=some ob:=(S.2.1 e nfr).trans hE
 generalize hN:({cls:= .type "traceback",dict:=none,data:= .fields ([hv,.ref L,.none,rawInt L,.none]++(if pl.isEmpty then List.replicate 6 Value.none else pl)).toArray}:Obj)=N
 have dN:N.data= .fields ([hv,.ref L,.none,rawInt L,.none]++(if pl.isEmpty then List.replicate 6 Value.none else pl)).toArray:=by rw[←hN]
 have fN:N.isFreed=false:=Obj.isFreed_of_fields dN
 have q2:(h1.push N).get? e=some ob:=Heap.get?_push_of_some N q1
 refine wpAny_setField q2 hD hZ ?_
 have nT:h1.objs.size≠e:=Nat.ne_of_gt (Heap.lt_size q1)
 have d3:=Obj.data_mapFields hD (·.setIfInBounds 1 (Value.ref h1.objs.size))
 have q3:=Heap.get?_update_self (Obj.mapFields (·.setIfInBounds 1 (Value.ref h1.objs.size))) q2 (Obj.isFreed_of_fields d3)
 have t3:((h1.push N).update e (Obj.mapFields (·.setIfInBounds 1 (Value.ref h1.objs.size)))).get? h1.objs.size=some N:=
  (Heap.get?_update_other (h1.push N) (Obj.mapFields (·.setIfInBounds 1 (Value.ref h1.objs.size))) nT.symm).trans (Heap.get?_push_size h1 fN)
 unfold setFlight
 refine wpAny_bind (wpAny_field q3 d3 (x:= .ref h1.objs.size) (by simp[hZ]) ?_)
 rw[if_pos (show(Value.ref h1.objs.size !=Value.none)=true from by simp)]
 have tz:3<([hv,.ref L,.none,rawInt L,.none]++(if pl.isEmpty then List.replicate 6 Value.none else pl)).toArray.size:=by
  simp only[List.size_toArray,List.length_append,List.length_cons,List.length_nil]
  omega
 refine wpAny_setField t3 dN tz ?_
 have q4:=Heap.get?_update_other ((h1.push N).update e (Obj.mapFields (·.setIfInBounds 1 (Value.ref h1.objs.size)))) (Obj.mapFields (·.setIfInBounds 3 ((none:Option Addr).elim Value.none fun f=>rawInt f))) nT
 have t4:=Heap.get?_update_self (Obj.mapFields (·.setIfInBounds 3 ((none:Option Addr).elim Value.none fun f=>rawInt f))) t3 (Obj.isFreed_of_fields (Obj.data_mapFields dN _))
 have stay:∀b o,b≠e→h1.get? b=some o→(((h1.push N).update e (Obj.mapFields (·.setIfInBounds 1 (Value.ref h1.objs.size)))).update h1.objs.size (Obj.mapFields (·.setIfInBounds 3 ((none:Option Addr).elim Value.none fun f=>rawInt f)))).get? b=some o:=fun b o ne q=>by
  rw[Heap.get?_update_other _ _ (Nat.ne_of_gt (Heap.lt_size q)),Heap.get?_update_other _ _ ne.symm]
  exact Heap.get?_push_of_some N q
 refine k _ h1.objs.size (by rw[S.1];exact Nat.le_refl _) ⟨_,_,q4.trans q3,Obj.cls_mapFields _ _,?_,d3,?_,?_,nT,_,_,t4,Obj.data_mapFields dN _,?_⟩ ⟨fun b o q ne _ nf=>stay b o ne ((S.2.1 b nf).trans q),fun b o q ne _=> ?_,fun b o q=> ?_⟩
 ·cases ob with
  |mk c d dt sl=>cases dt<;>rfl
 ·rw[Array.getElem?_setIfInBounds_ne (by decide)]
  exact h0
 ·simp[hZ]
 ·rw[Array.getElem?_setIfInBounds_self_of_lt tz]
  rfl
 ·obtain⟨sl,z⟩:=S.2.2 b o q
  exact⟨sl,stay b _ ne z⟩
 ·by_cases ne:b=e
  ·subst ne
   exact⟨_,q4.trans q3⟩
  ·obtain⟨sl,z⟩:=S.2.2 b o q
   exact⟨_,stay b _ ne z⟩
theorem xD {base:Heap} {env:Env} {outer:List Env} {L e:Addr} {c a0:Value} {dx hd:Option Addr} {Q:Unit→Shared→Prop}
  (hA:A.frames=some (env::outer)) (hF:s.heap.FunFrames base (env::outer)) (hL:env.frame=some L) (F:A7 s.heap e c dx a0 hd)
  (k:∀h' T,s.heap.objs.size≤T→A7 h' e c dx a0 (some T)→Lft (env::outer) e hd s.heap h'→Q () {s with heap:=h'}):wpAny M A (leaving env (.ref e)) Q E s:=by
 obtain⟨ob,fs,q,hc,hx,d,h0,r⟩:=F
 subst hc hx
 cases hd with
 |none=>
  have r:fs[1]? =some .none:=r
  unfold leaving noteFrame
  simp only[hL]
  refine wpAny_bind (wpAny_bind (wpAny_field q d r ?_))
  rw[if_neg (by decide)]
  exact jk hA hF hL q d (Array.getElem?_eq_some_iff.mp r).1 h0 k
 |some T=>
  obtain⟨r,nT,oT,ts,qT,dT,r3⟩:=r
  unfold leaving noteFrame
  simp only[hL]
  refine wpAny_bind (wpAny_bind (wpAny_field q d r ?_))
  rw[if_pos (show(Value.ref T !=Value.none)=true from by simp)]
  refine wpAny_bind (wpAny_field qT dT r3 ?_)
  rw[if_neg (show¬((Value.none==rawInt L)=true) from by simp[rawInt])]
  refine wpAny_bind (wpAny_setField qT dT (Array.getElem?_eq_some_iff.mp r3).1 ?_)
  have oth:∀b,b≠T→(s.heap.update T (Obj.mapFields (·.setIfInBounds 3 Value.none))).get? b=s.heap.get? b:=fun b ne=>Heap.get?_update_other _ _ ne.symm
  have self:=Heap.get?_update_self (Obj.mapFields (·.setIfInBounds 3 Value.none)) qT (Obj.isFreed_of_fields (Obj.data_mapFields dT _))
  have nrec:∀b o,s.heap.get? b=some o→(∀vs,o.data≠ .fields vs)→b≠T:=fun b o z n y=>by
   rw[y,qT] at z
   cases z
   exact n ts dT
  refine jk hA (hF.of_keeps fun b o z n=>⟨o,(oth b (nrec b o z n)).trans z,rfl⟩) hL ((oth e nT.symm).trans q) d (Array.getElem?_eq_some_iff.mp r).1 h0 fun h' T' hs F' L'=>k h' T' (by rw[Heap.size_after_update] at hs;exact hs) F' ⟨fun b o z n1 n2 n3=> ?_,fun b o z n1 n2=> ?_,fun b o z=> ?_⟩
  ·exact L'.keep b o ((oth b fun y=>n2 (by rw[y])).trans z) n1 (by simp) n3
  ·exact L'.slot b o ((oth b fun y=>n2 (by rw[y])).trans z) n1 (by simp)
  ·by_cases y:b=T
   ·subst y
    exact L'.here b _ self
   ·exact L'.here b o ((oth b y).trans z)
end
theorem Lft.hok {P:Program} {w:World} {l:List Env} {e:Addr} {hd:Option Addr} {H:Hp} {h h':Heap} (L:Lft l e hd h h') (hk:HOk P w H h) (ne:H e=none) (nh:∀T,hd=some T→H T=none) (nf:∀b∈ul l,H b=none):HOk P w H h':=fun b u q=>by
 have free:∀c v,H c=some v→c≠e∧hd≠some c∧c∉ul l:=fun c v z=>⟨(fun y=>by rw[y,ne] at z;cases z),(fun y=>by rw[nh c y] at z;cases z),(fun y=>by rw[nf c y] at z;cases z)⟩
 refine(hk b u q).stay (fun c v hc z=> ?_) (fun _ z=>z) fun _ _ z=>z
 rcases hc with y|y
 ·rw[y] at z⊢
  obtain⟨n1,n2,n3⟩:=free b u q
  exact L.keep b v z n1 n2 n3
 ·obtain⟨n1,n2,n3⟩:=free c _ y
  exact L.keep c v z n1 n2 n3
noncomputable def nJ (P:Program) (w:World):xx:=fun outer H s E x s'=>
 ∃e c dx a0 T H',x= .ref e∧s.heap.get? e=none∧s.heap.get? T=none∧A7 s'.heap e c dx a0 (some T)∧H' e=none∧H' T=none∧
  s'.os=s.os∧AllBare s'.gens∧Un (ul outer) [] H H' s.heap s'.heap∧HOk P w H' s'.heap∧E c dx H'
theorem C3 {P:Program} {w:World} {K:PySem.W.Frag} {mg:Str→Option Value} {base:Heap} {N:List Str} {qual:Str} {scope:Scope} {f:Addr} {cd:Value} {A:Around} {outer:List Env} {s0:Shared} {H0:Hp} {E:XK}
  {pins:List (Addr×Obj)} {σ:L2.St} {H:Hp} {s:Shared} {e:Addr} {c a0:Value} {dx hd:Option Addr} (I:L2.Inv (fJ (nJ P w) P w K mg base N qual scope f cd A outer s0 H0 E) pins σ H s)
  (F:A7 s.heap e c dx a0 hd) (he:s0.heap.get? e=none) (hh:∀T,hd=some T→s0.heap.get? T=none) (ne:H e=none) (nh:∀T,hd=some T→H T=none) (q:E c dx H):
  (fJ (nJ P w) P w K mg base N qual scope f cd A outer s0 H0 E).xe (.ref e) s:=by
 have hA:=I.ok.frames
 have hF:=I.stack
 refine xD (L:=s0.heap.objs.size) hA hF rfl F fun h' T hs F' L=> ?_
 have hk:=L.hok I.hok ne nh I.stkFree
 have hT:H T=none:=I.hok.fresh hs
 have lt0:∀b o,s0.heap.get? b=some o→b<s0.heap.objs.size:=fun b o z=>Heap.lt_size z
 have far:∀b o,s0.heap.get? b=some o→b≠e∧hd≠some b:=fun b o z=>⟨(fun y=>by rw[y,he] at z;cases z),(fun y=>by rw[hh b y] at z;cases z)⟩
 have sz:=I.sz
 refine⟨e,c,dx,a0,T,H,rfl,he,Heap.get?_none_of_le (Nat.le_trans sz hs),F',ne,hT,I.os,I.bare,?_,hk,q⟩
 have B:=I.base
 refine⟨fun b o z n nf _=> ?_,fun b o z n hf _=> ?_,fun b o z n _=> ?_,fun b o z _=> ?_,B.tups,B.frzs,B.tbls⟩
 ·have z1:=B.keep b o z n nf (fun y=>nomatch y)
  refine L.keep b o z1 (far b o z).1 (far b o z).2 fun y=> ?_
  rcases List.mem_cons.mp (I.stkSub b y) with y|y
  ·have y:b=s0.heap.objs.size:=y
   exact absurd (lt0 b o z) (by rw[y];exact Nat.lt_irrefl _)
  ·exact nf y
 ·obtain⟨sl,z1⟩:=B.slot b o z n hf (fun y=>nomatch y)
  obtain⟨sl',z2⟩:=L.slot b _ z1 (far b o z).1 (far b o z).2
  exact⟨sl',z2⟩
 ·exact B.free b o z n (fun y=>nomatch y)
 ·obtain⟨o',z1⟩:=B.there b o z (fun y=>nomatch y)
  exact L.here b o' z1
theorem ph {P:Program} {w:World} {K:PySem.W.Frag} {mg:Str→Option Value} {base:Heap} {N:List Str} {qual:Str} {scope:Scope} {f:Addr} {cd:Value} {A:Around} {outer:List Env} {s0:Shared} {H0:Hp} {E:XK}:
  k7 (nJ P w) (fJ (nJ P w) P w K mg base N qual scope f cd A outer s0 H0 E) E:=by
 rintro pins σ H s x s' I ⟨e,c,dx,a0,T,H',rfl,le,lT,F,ne,nT,os,bare,un,hok,q⟩
 have I':=I.call' (ch:=[]) os un hok bare (fun b z=>nomatch z)
 have old:∀b,s.heap.get? b=none→s0.heap.get? b=none:=fun b z=>by
  cases y:s0.heap.get? b with
  |none=>rfl
  |some o=>
   obtain⟨o',y'⟩:=I.base.there b o y (fun y=>nomatch y)
   rw[z] at y'
   cases y'
 exact C3 I' F (old e le) (fun T' z=>by cases z;exact old T lT) ne (fun T' z=>by cases z;exact nT) q
theorem yC {P:Program} {w:World} {H:Hp} {h:Heap} {a:Addr} {o:HO} (x:ObjOk P w H h a o):∃ob,h.get? a=some ob:=by
 cases o with
 |lst xs=>obtain⟨_,_,_,_,e⟩:=x;exact⟨_,e⟩
 |tup xs=>obtain⟨_,_,_,ob,e,_⟩:=x;exact⟨ob,e⟩
 |dK kvs=>obtain⟨_,_,_,_,o,_,_,e,_⟩:=x;exact⟨o,e⟩
 |dT kvs=>obtain⟨_,_,_,_,o,_,_,e,_⟩:=x;exact⟨o,e⟩
 |set S n=>obtain⟨o,_,_,_,e,_⟩:=x;exact⟨o,e⟩
 |ins C dx fs=>obtain⟨_,_,_,e,_⟩:=x;exact⟨_,e⟩
 |own y=>exact x
 |xd fs=>obtain⟨_,⟨o,_,_,e,_⟩,_⟩:=x;exact⟨o,e⟩
 |rng lo hi=>obtain⟨_,_,_,e⟩:=x;exact⟨_,e⟩
 |frz ob u=>exact⟨ob,x.1⟩
 |tbl ps=>exact⟨_,x⟩
 |met f y=>exact⟨_,x⟩
 |ext φ=>exact x.2.1
theorem uv {P:Program} {w:World} {H:Hp} {h:Heap} (k:HOk P w H h) {a:Addr} (n:h.get? a=none):H a=none:=by
 cases q:H a with
 |none=>rfl
 |some o=>
  obtain⟨ob,z⟩:=yC (k a o q)
  rw[n] at z
  cases z
end L4
namespace L4
open PySem PySem.Spec PyProof.Rows L2 L3
section
variable {M:Model} {A:Around} {E:Value→Shared→Prop} {s:Shared}
theorem Cc {base:Heap} {env:Env} {outer:List Env} {L e:Addr} {c a0:Value} {dx hd:Option Addr} {Q:Unit→Shared→Prop}
  (hA:A.frames=some (env::outer)) (hF:s.heap.FunFrames base (env::outer)) (hL:env.frame=some L) (F:A7 s.heap e c dx a0 hd)
  (k:∀h' T,s.heap.objs.size≤T→A7 h' e c dx a0 (some T)→Lft (env::outer) e hd s.heap h'→Q () {s with heap:=h'}):
  wpAny M A (noteFrame (.ref e) env) (fun _ s2=>wpAny M A (setFlight (.ref e) none) Q E s2) E s:=by
 obtain⟨ob,fs,q,hc,hx,d,h0,r⟩:=F
 subst hc hx
 cases hd with
 |none=>
  have r:fs[1]? =some .none:=r
  unfold noteFrame
  simp only[hL]
  refine wpAny_bind (wpAny_field q d r ?_)
  rw[if_neg (by decide)]
  exact jk hA hF hL q d (Array.getElem?_eq_some_iff.mp r).1 h0 k
 |some T=>
  obtain⟨r,nT,oT,ts,qT,dT,r3⟩:=r
  unfold noteFrame
  simp only[hL]
  refine wpAny_bind (wpAny_field q d r ?_)
  rw[if_pos (show(Value.ref T !=Value.none)=true from by simp)]
  refine wpAny_bind (wpAny_field qT dT r3 ?_)
  rw[if_neg (show¬((Value.none==rawInt L)=true) from by simp[rawInt])]
  refine wpAny_bind (wpAny_setField qT dT (Array.getElem?_eq_some_iff.mp r3).1 ?_)
  have oth:∀b,b≠T→(s.heap.update T (Obj.mapFields (·.setIfInBounds 3 Value.none))).get? b=s.heap.get? b:=fun b ne=>Heap.get?_update_other _ _ ne.symm
  have self:=Heap.get?_update_self (Obj.mapFields (·.setIfInBounds 3 Value.none)) qT (Obj.isFreed_of_fields (Obj.data_mapFields dT _))
  have nrec:∀b o,s.heap.get? b=some o→(∀vs,o.data≠ .fields vs)→b≠T:=fun b o z n y=>by
   rw[y,qT] at z
   cases z
   exact n ts dT
  refine jk hA (hF.of_keeps fun b o z n=>⟨o,(oth b (nrec b o z n)).trans z,rfl⟩) hL ((oth e nT.symm).trans q) d (Array.getElem?_eq_some_iff.mp r).1 h0 fun h' T' hs F' L'=>k h' T' (by rw[Heap.size_after_update] at hs;exact hs) F' ⟨fun b o z n1 n2 n3=> ?_,fun b o z n1 n2=> ?_,fun b o z=> ?_⟩
  ·exact L'.keep b o ((oth b fun y=>n2 (by rw[y])).trans z) n1 (by simp) n3
  ·exact L'.slot b o ((oth b fun y=>n2 (by rw[y])).trans z) n1 (by simp)
  ·by_cases y:b=T
   ·subst y
    exact L'.here b _ self
   ·exact L'.here b o ((oth b y).trans z)
theorem EM {e T:Addr} {c a0:Value} {dx:Option Addr} {Q:Unit→Shared→Prop} (F:A7 s.heap e c dx a0 (some T))
  (k:∀h',A7 h' e c dx a0 (some T)→(∀b,b≠T→h'.get? b=s.heap.get? b)→(∃o,h'.get? T=some o)→Q () {s with heap:=h'}):wpAny M A (setFlight (.ref e) none) Q E s:=by
 obtain⟨ob,fs,q,hc,hx,d,h0,r,nT,oT,ts,qT,dT,r3⟩:=F
 unfold setFlight
 refine wpAny_bind (wpAny_field q d r ?_)
 rw[if_pos (show(Value.ref T !=Value.none)=true from by simp)]
 have z3:=(Array.getElem?_eq_some_iff.mp r3).1
 refine wpAny_setField qT dT z3 ?_
 have oth:∀b,b≠T→(s.heap.update T (Obj.mapFields (·.setIfInBounds 3 ((none:Option Addr).elim Value.none fun f=>rawInt f)))).get? b=s.heap.get? b:=fun b ne=>Heap.get?_update_other _ _ ne.symm
 have self:=Heap.get?_update_self (Obj.mapFields (·.setIfInBounds 3 ((none:Option Addr).elim Value.none fun f=>rawInt f))) qT (Obj.isFreed_of_fields (Obj.data_mapFields dT _))
 refine k _ ⟨ob,fs,(oth e nT.symm).trans q,hc,hx,d,h0,r,nT,_,_,self,Obj.data_mapFields dT _,?_⟩ oth ⟨_,self⟩
 rw[Array.getElem?_setIfInBounds_self_of_lt z3]
 rfl
end
section
variable {P:Program} {w:World} {K:PySem.W.Frag} {mg:Str→Option Value} {base:Heap} {N:List Str} {qual:Str} {scope:Scope} {f:Addr} {cd:Value} {A:Around} {outer:List Env} {s0:Shared} {H0:Hp} {E:XK} {CX:xx}
  {σ:L2.St} {H:Hp} {s:Shared} {h':Heap} {X:Cx}
theorem uu (I:L2.Inv X [] σ H s) (S:Addr→Prop) (hex:X.ex=[]) (hpn:∀p∈X.pn,¬S p.1) (keep:∀b o,s.heap.get? b=some o→¬S b→b∉ul X.stack→h'.get? b=some o)
  (slot:∀b o,s.heap.get? b=some o→¬S b→∃sl,h'.get? b=some {o with slots:=sl}) (here:∀b o,s.heap.get? b=some o→∃o',h'.get? b=some o')
  (n0:∀b,S b→X.s₀.heap.get? b=none) (nL:¬S X.env.locals) (nC:∀x c,X.env.cells.lookup x=some c→¬S c) (nH:∀b,S b→H b=none):L2.Inv X [] σ H {s with heap:=h'}:=by
 have nS:∀b o,X.s₀.heap.get? b=some o→¬S b:=fun b o z y=>by rw[n0 b y] at z;cases z
 have nex:∀b,b∉X.ex:=fun b z=>by rw[hex] at z;cases z
 have B:=I.base
 have cellK:∀x c,X.env.cells.lookup x=some c→∀v,s.heap.IsCell c v→h'.IsCell c v:=fun x c z v ⟨o,ho,hd⟩=>by
  obtain⟨sl,q⟩:=slot c o ho (nC x c z)
  exact⟨_,q,hd⟩
 refine⟨I.ok,I.os,I.bare,⟨fun b o z n nf _=> ?_,fun b o z n hf _=> ?_,fun b o z n x=>B.free b o z n x,fun b o z x=> ?_,B.tups,B.frzs,B.tbls⟩,?_,fun x c z=> ?_,I.free,I.freeC,fun p hp=> ?_,fun b u q=> ?_,I.len⟩
 ·have z1:=B.keep b o z n nf (nex b)
  refine keep b o z1 (nS b o z) fun y=> ?_
  rcases List.mem_cons.mp (I.stkSub b y) with y|y
  ·rw[y] at z
   exact absurd (Heap.lt_size z) (Nat.not_lt_of_le I.ok.above)
  ·exact nf y
 ·obtain⟨sl,z1⟩:=B.slot b o z n hf (nex b)
  obtain⟨sl',z2⟩:=slot b _ z1 (nS b o z)
  exact⟨sl',z2⟩
 ·obtain⟨o',z1⟩:=B.there b o z x
  exact here b o' z1
 ·obtain⟨m,hn,hl⟩:=I.loc
  obtain⟨o,es,ep,ho,hd,r⟩:=hn
  obtain⟨sl,q⟩:=slot _ o ho nL
  refine⟨m,⟨_,es,ep,q,hd,r⟩,fun i x v a1 a2 a3=> ?_⟩
  obtain⟨u,rv,l⟩:=hl i x v a1 a2 a3
  refine⟨u,rv,?_⟩
  rcases l with l|⟨kd,c,z,y⟩
  ·exact .inl l
  ·exact .inr ⟨kd,c,z,cellK x c z _ y⟩
 ·obtain⟨v,y⟩:=I.cell x c z
  exact⟨v,cellK x c z v y⟩
 ·obtain⟨z,n,ne,nf,dd⟩:=I.pin p hp
  rw[List.append_nil] at hp
  refine⟨keep p.1 p.2 z (hpn p hp) (fun y=> ?_),n,ne,nf,dd⟩
  rcases List.mem_cons.mp (I.stkSub _ y) with y|y
  ·exact ne y
  ·exact nf y
 ·have free:∀c v,H c=some v→¬S c∧c∉ul X.stack:=fun c v z=>⟨(fun y=>by rw[nH c y] at z;cases z),(fun y=>by rw[I.stkFree c y] at z;cases z)⟩
  refine(I.hok b u q).stay (fun c v hc z=> ?_) (fun _ z=>z) fun _ _ z=>z
  rcases hc with y|y
  ·rw[y] at z⊢
   exact keep b v z (free b u q).1 (free b u q).2
  ·exact keep c v z (free c _ y).1 (free c _ y).2
end
end L4
namespace L4
open PySem PySem.Spec PyProof.Rows L2 L3
section
variable {M:Model} {A:Around} {E:Value→Shared→Prop} {h:Heap} {g:Array GenState} {d:Drawn} {t:Nat} {os:OsState}
theorem zd {C U e:Addr} {ob:Obj} {n1 q1 n2 q2:Str} {N1 N2:Addr} {b1 m1 b2 m2:List Value} {d1 d2:Bool} {s1 s2:List Str} {u1 u2:List Value} {a1 a2:Bool} {c1 c2:Option Bool} {x1 x2:Option Addr} {i0 i1 i2 i3 i5 j0 j1 j2 j3 j5:Option Value} {id1 id2:String} {Q:Bool→Shared→Prop}
  (hC:h.get? C=some (excClassObj n1 q1 C N1 b1 m1 d1 s1 u1 a1 c1 x1 i0 i1 i2 i3 i5 id1)) (hU:h.get? U=some (excClassObj n2 q2 U N2 b2 m2 d2 s2 u2 a2 c2 x2 j0 j1 j2 j3 j5 id2)) (he:h.get? e=some ob) (hc:ob.cls= .ref C)
  (hb:m2.contains (.type "BaseException")=true) (hm:(Value.ref C::m1).contains (.ref U)=true) (hq:Q true ⟨h,g,d,t,os⟩):wpAny M A (excMatches (.ref e) (.ref U)) Q E ⟨h,g,d,t,os⟩:=by
 have hbb:(Value.ref U::m2).contains (.type "BaseException")=true:=by rw[List.contains_cons,hb,Bool.or_true]
 have ft:=tc_notTuple
 unfold excMatches
 repeat (first|(with_reducible refine wpAny_loadPart_at he ?_;rw[hc])|with_reducible refine wpAny_loadPart_at hU ?_|(with_reducible refine wpAny_isSubtype_exc hU ?_;rw[hbb])|(with_reducible refine wpAny_isSubtype_exc hC ?_;rw[hm])|wp_step)
 exact hq
end
noncomputable abbrev Cx.marked (X:Cx) (e:Addr):Cx:={X with A:=X.A.mark (some (.ref e)),calm:=false,xe:=fun _ _=>False}
section
variable {X:Cx} {σ:L2.St} {H:Hp} {s:Shared} {h':Heap} {e:Addr}
theorem o4 (I:L2.Inv X [] σ H s) (e:Addr):L2.Inv (Cx.marked X e) [] σ H s:=
 ⟨⟨I.ok.mod,I.ok.kind,I.ok.glob,I.ok.blt,I.ok.above,I.ok.inj,I.ok.has,I.ok.cab,(fun z=>nomatch z),I.ok.frames,I.ok.stk,I.ok.exf,I.ok.bs,I.ok.bsz,I.ok.noex,I.ok.exfs,I.ok.funs,I.ok.frf⟩,I.os,I.bare,I.base,I.loc,I.cell,I.free,I.freeC,I.pin,I.hok,I.len⟩
theorem vn (ok:X.Ok) (I:L2.Inv (Cx.marked X e) [] σ H s):L2.Inv X [] σ H s:=
 ⟨ok,I.os,I.bare,I.base,I.loc,I.cell,I.free,I.freeC,I.pin,I.hok,I.len⟩
theorem xy (I:L2.Inv X [] σ H s) {ob:Obj} (hpn:∀p∈X.pn,p.1≠e) (q:s.heap.get? e=some ob) (ne:H e=none) (n0:X.s₀.heap.get? e=none) (nL:e≠X.env.locals) (nC:∀x c,X.env.cells.lookup x=some c→c≠e):L2.Inv X [] σ (cU H e (.frz ob (.own e))) s:=by
 have nS:∀b o,X.s₀.heap.get? b=some o→b≠e:=fun b o z y=>by rw[y,n0] at z;cases z
 have nT:∀b o,H b=some o→b≠e:=fun b o z y=>by rw[y,ne] at z;cases z
 have B:=I.base
 refine⟨I.ok,I.os,I.bare,⟨B.keep,B.slot,fun b o z n x=> ?_,B.there,fun b xs z=> ?_,fun b o u z=> ?_,fun b ps z=> ?_⟩,I.loc,I.cell,?_,fun x c z=> ?_,fun p hp=> ?_,fun b u z=> ?_,I.len⟩
 ·rw[aK (nS b o z)];exact B.free b o z n x
 ·have:=B.tups b xs z
  rw[aK (nT b _ this)];exact this
 ·have:=B.frzs b o u z
  rw[aK (nT b _ this)];exact this
 ·obtain⟨more,y⟩:=B.tbls b ps z
  exact⟨more,by rw[aK (nT b _ y)];exact y⟩
 ·rw[aK nL.symm];exact I.free
 ·rw[aK (nC x c z)];exact I.freeC x c z
 ·obtain⟨z,n,r⟩:=I.pin p hp
  rw[List.append_nil] at hp
  exact⟨z,by rw[aK (hpn p hp)];exact n,r⟩
 ·by_cases y:b=e
  ·subst y
   rw[bj] at z
   cases z
   exact⟨q,ob,q⟩
  ·rw[aK y] at z
   exact(I.hok b u z).stay (fun _ _ _ y=>y) (fun c y=>by rw[aK (nT c _ y)];exact y) fun c xs y=>by rw[aK (nT c _ y)];exact y
theorem xA {M:Model} {A:Around} {E:Value→Shared→Prop} (I:L2.Inv X [] σ H s) {n:Str} {i:Nat} {pos:Pos} {Q:Unit→Shared→Prop} (hN:X.N.Nodup) (hi:X.N[i]? =some n) (hlo:X.env.kindOf n=some .local)
  (k:∀s',L2.Inv X [] (σ.set i none) H s'→Q () s'):wpAny M A (do bindName X.env n .none;unbindBehindTheSuite X.env n pos) Q E s:=by
 obtain⟨m,hn,hl⟩:=id I.loc
 have hcls:(X.env.scope.kind== .class||(X.env.scope.kind== .module&&X.env.locals !=X.env.globals))=false:=by rw[I.ok.kind];rfl
 refine wpAny_nameGoes_keeps hlo hn hcls fun h2 v hm S=>k _ ?_
 have B:=I.base
 have cne:=I.cne
 have old:∀b o,X.s₀.heap.get? b=some o→h2.get? b=s.heap.get? b:=fun b o z=>S.2 b (Nat.ne_of_lt (Nat.lt_of_lt_of_le (Heap.lt_size z) I.ok.above))
 have iσ:i<σ.length:=by rw[I.len];exact(List.getElem?_eq_some_iff.mp hi).1
 refine⟨I.ok,I.os,I.bare,⟨fun b o z n nf x=>(old b o z).trans (B.keep b o z n nf x),fun b o z n hf x=> ?_,B.free,fun b o z x=> ?_,B.tups,B.frzs,B.tbls⟩,⟨_,hm,fun j y v' a1 a2 a3=> ?_⟩,fun y c z=> ?_,I.free,I.freeC,fun p hp=> ?_,fun b u z=> ?_,by rw[List.length_set];exact I.len⟩
 ·obtain⟨sl,y⟩:=B.slot b o z n hf x
  exact⟨sl,(old b o z).trans y⟩
 ·obtain⟨o',y⟩:=B.there b o z x
  exact⟨o',(old b o z).trans y⟩
 ·by_cases hj:j=i
  ·subst hj
   rw[List.getElem?_set_self iσ] at a2
   cases a2
  ·rw[List.getElem?_set_ne (Ne.symm hj)] at a2
   obtain⟨u',r',q⟩:=hl j y v' a1 a2 a3
   refine⟨u',r',?_⟩
   rcases q with⟨kd,z⟩|⟨kd,c,z,w⟩
   ·refine .inl ⟨kd,?_⟩
    have:y≠n:=fun z=>hj (n6 hN a1 (z▸hi))
    simp[this,z]
   ·exact .inr ⟨kd,c,z,w.sameBut S (cne y c z)⟩
 ·obtain⟨w,y'⟩:=I.cell y c z
  exact⟨w,y'.sameBut S (cne y c z)⟩
 ·obtain⟨z,n,ne,r⟩:=I.pin p hp
  exact⟨(S.2 p.1 ne).trans z,n,ne,r⟩
 ·have free:∀c u,H c=some u→c≠X.env.locals:=fun c u z y=>by rw[y,I.free] at z;cases z
  refine(I.hok b u z).stay (fun c w hc y=>(S.2 c ?_).trans y) (fun _ y=>y) fun _ _ y=>y
  rcases hc with y'|y'
  ·rw[y'];exact free b u z
  ·exact free c _ y'
end
noncomputable def lG (K:PySem.W.Frag) (C:Addr) (m:List Value):Prop:=∃nm q N bs hd sn sub ab col dd k0 k1 k2 k3 k5 id,K.lookup C=some (excClassObj nm q C N bs m hd sn sub ab col dd k0 k1 k2 k3 k5 id)
structure Apart (X:Cx) (a:Addr):Prop where
 n0:X.s₀.heap.get? a=none
 nL:a≠X.env.locals
 nC:∀y c,X.env.cells.lookup y=some c→c≠a
 nP:∀p∈X.pn,p.1≠a
noncomputable def Au (X:Cx) (E2:XK):Value→Shared→Prop:=fun x s1=>∃σ' H1 e c dx a0 T,x= .ref e∧L2.Inv X [] σ' H1 s1∧A7 s1.heap e c dx a0 (some T)∧Apart X e∧Apart X T∧H1 e=none∧H1 T=none∧E2 c dx H1
theorem oU {X:Cx} {pins:List (Addr×Obj)} {σ:L2.St} {H:Hp} {s:Shared} {a:Addr} (I:L2.Inv X pins σ H s) (hex:X.ex=[]) (n:s.heap.get? a=none):Apart X a:=by
 have ne:∀b o,s.heap.get? b=some o→b≠a:=fun b o z y=>by rw[y,n] at z;cases z
 refine⟨?_,?_,fun y c z=> ?_,fun p hp=> ?_⟩
 ·cases z:X.s₀.heap.get? a with
  |none=>rfl
  |some o=>
   obtain⟨o',y⟩:=I.base.there a o z (by rw[hex];simp)
   exact absurd rfl (ne a o' y)
 ·obtain⟨m,⟨o,_,_,z,_⟩,_⟩:=I.loc
  exact(ne _ o z).symm
 ·obtain⟨v,o,y',_⟩:=I.cell y c z
  exact ne c o y'
 ·exact ne _ _ (I.pin p (List.mem_append_left _ hp)).1
theorem k6 {X:Cx} {E2:XK} (hex:X.ex=[]):k7 (nJ X.prog X.w) (X.wish (Au X E2)) E2:=by
 rintro pins σ H s x s' I ⟨e,c,dx,a0,T,H',rfl,le,lT,F,ne,nT,os,bare,un,hok,q⟩
 have I0:=I.unwish
 have I':=I0.call' (ch:=[]) os un hok bare (fun b z=>nomatch z)
 exact⟨σ,H',e,c,dx,a0,T,rfl,I'.pins_of (fun p z=>nomatch z),F,oU I0 hex le,oU I0 hex lT,ne,nT,q⟩
noncomputable def BV (E2:XK) (i:Nat) (tb ts:TS):TS:=fun D σ H=>tb D σ H∧∀c dx H1,E2 c dx H1→∀(σ':L2.St) (e:Addr) (ob:Obj),σ'.length=σ.length→H1 e=none→ob.cls=c→ob.dict=dx→PySem.W.notCls ob=true→
 ts {nx:=fun σ2 H2=>D.nx (σ2.set i none) H2,rt:=fun _ _=>False} (σ'.set i (some (.ref e))) (cU H1 e (.frz ob (.own e)))
noncomputable abbrev Cx.pinned (X:Cx) (l:List (Addr×Obj)):Cx:={X with pn:=l}
theorem B5 {X:Cx} {pins:List (Addr×Obj)} {σ:L2.St} {H:Hp} {s:Shared} (I:L2.Inv X pins σ H s):L2.Inv (Cx.pinned X (X.pn++pins)) [] σ H s:=
 ⟨⟨I.ok.mod,I.ok.kind,I.ok.glob,I.ok.blt,I.ok.above,I.ok.inj,I.ok.has,I.ok.cab,I.ok.hd,I.ok.frames,I.ok.stk,I.ok.exf,I.ok.bs,I.ok.bsz,I.ok.noex,I.ok.exfs,I.ok.funs,I.ok.frf⟩,I.os,I.bare,I.base,I.loc,I.cell,I.free,I.freeC,(fun p hp=>I.pin p (by rw[List.append_nil] at hp;exact hp)),I.hok,I.len⟩
theorem i9 {X:Cx} {pins:List (Addr×Obj)} {σ:L2.St} {H:Hp} {s:Shared} (ok:X.Ok) (I:L2.Inv (Cx.pinned X (X.pn++pins)) [] σ H s):L2.Inv X pins σ H s:=
 ⟨ok,I.os,I.bare,I.base,I.loc,I.cell,I.free,I.freeC,(fun p hp=>I.pin p (by rw[List.append_nil];exact hp)),I.hok,I.len⟩
theorem vK {X:Cx} {body suite:List Stmt} {b0:Stmt} {tb ts:TS} {E2:XK} {U:Addr} {x n:Str} {i:Nat} {np hpos pos:Pos} {mU:List Value}
  (hex:X.ex=[]) (hN:X.N.Nodup) (hst:X.stack=X.env::X.outer) (hfr:X.env.frame=some X.env.locals) (hg:Gl X x) (hm:X.mg x=some (.ref U)) (hU:lG X.K U mU) (hbU:mU.contains (.type "BaseException")=true)
  (hi:X.N[i]? =some n) (hlo:X.env.kindOf n=some .local) (hb:∀l,PSs ((Cx.pinned X l).wish (Au (Cx.pinned X l) E2)) body tb) (hs:∀l e,PSs (Cx.marked (Cx.pinned X l) e) (b0::suite) ts)
  (hE:∀c dx H,E2 c dx H→∃C m,c= .ref C∧lG X.K C m∧(Value.ref C::m).contains (.ref U)=true) (hdb:(x==("__debug__":Str))=false:=by decide):
  PS X (.Try body [.ExceptHandler (some (.Name x np)) (some n) (b0::suite) hpos] [] [] pos) (BV E2 i tb ts):=by
 intro pins s σ H D I ⟨h,hc⟩
 have IY:=B5 I
 have hexY:(Cx.pinned X (X.pn++pins)).ex=[]:=hex
 refine wpAny_Try_except (wpAny_mono (hb (X.pn++pins) [] s σ H D (IY.wish _) h) (fun f s1 hf=> ?_) (fun v s1 hx=> ?_))
 ·have hf:=SP.unwish hf
  cases f with
  |next=>
   obtain⟨σ1,H1,I1,q1⟩:=hf
   exact wpAny_execs_nil ⟨σ1,H1,i9 I.ok I1,q1⟩
  |brk=>obtain⟨σ1,H1,I1,q1⟩:=hf;exact⟨σ1,H1,i9 I.ok I1,q1⟩
  |cont=>obtain⟨σ1,H1,I1,q1⟩:=hf;exact⟨σ1,H1,i9 I.ok I1,q1⟩
  |ret u=>obtain⟨v,σ1,H1,I1,r,q1⟩:=hf;exact⟨v,σ1,H1,i9 I.ok I1,r,q1⟩
 ·obtain⟨σ1,H1,e,c,dx,a0,T,rfl,I1,F,aE,aT,ne,nT,q⟩:=hx
  obtain⟨C,mC,hcC,⟨n1,q1,N1,b1,d1,t1,u1,a1,l1,x1,i0,i1,i2,i3,i5,id1,kC⟩,hup⟩:=hE c dx H1 q
  obtain⟨n2,q2,N2,b2,d2,t2,u2,a2,l2,x2,j0,j1,j2,j3,j5,id2,kU⟩:=hU
  have fr:X.A.frames=some (X.env::X.outer):=by rw[←hst];exact I.ok.frames
  have ff:s1.heap.FunFrames X.base (X.env::X.outer):=by rw[←hst];exact I1.stack
  refine Cc fr ff hfr F fun h2 T2 z2 F2 L2'=> ?_
  have I2:L2.Inv (Cx.pinned X (X.pn++pins)) [] σ1 H1 {s1 with heap:=h2}:=uu I1 (fun b=>b=e∨b=T) hexY (fun p hp y=>y.elim (aE.nP p hp) (aT.nP p hp))
   (fun b o z nS nf=>L2'.keep b o z (fun y=>nS (.inl y)) (fun y=>nS (.inr (Option.some.inj y).symm)) (by rw[←hst];exact nf))
   (fun b o z nS=>L2'.slot b o z (fun y=>nS (.inl y)) (fun y=>nS (.inr (Option.some.inj y).symm))) L2'.here
   (fun b y=>y.elim (fun y=>by rw[y];exact aE.n0) (fun y=>by rw[y];exact aT.n0)) (fun y=>y.elim (fun y=>aE.nL y.symm) (fun y=>aT.nL y.symm))
   (fun y k z w=>w.elim (aE.nC y k z) (aT.nC y k z)) (fun b y=>y.elim (fun y=>by rw[y];exact ne) (fun y=>by rw[y];exact nT))
  have aT2:Apart (Cx.pinned X (X.pn++pins)) T2:=oU I1 hexY (Heap.get?_none_of_le z2)
  have nT2:H1 T2=none:=I1.hok.fresh z2
  refine wpAny_handleBy_cons (codeAny_handlers_test (lW (X:=Cx.marked (Cx.pinned X (X.pn++pins)) e) (o4 I2 e) hg hm ?_ hdb)) (by intro y;cases y)
  have F2':=F2
  obtain⟨ob,fs,qe,cE,dE,dF,_⟩:=F2'
  refine zd (I2.kIn _ _ kC) (I2.kIn _ _ kU) qe (cE.trans hcC) hbU hup ?_
  refine codeAny_handlers_suite_as (EM F2 fun h3 F3 oth hT3=> ?_)
  have neT:e≠T2:=fun y=>by
   obtain⟨_,_,_,_,_,_,_,_,w,_⟩:=F2
   exact w y.symm
  have I3:L2.Inv (Cx.pinned X (X.pn++pins)) [] σ1 H1 {s1 with heap:=h3}:=uu (s:={s1 with heap:=h2}) I2 (fun b=>b=T2) hexY (fun p hp y=>aT2.nP p hp y)
   (fun b o z nS _=>(oth b nS).trans z) (fun b o z nS=>⟨o.slots,(oth b nS).trans z⟩)
   (fun b o z=>(Classical.em (b=T2)).elim (fun y=>by rw[y];exact hT3) (fun y=>⟨o,(oth b y).trans z⟩)) (fun b y=>by rw[y];exact aT2.n0) (fun y=>aT2.nL y.symm) (fun y k z w=>aT2.nC y k z w) (fun b y=>by rw[y];exact nT2)
  have I4:=xy I3 aE.nP ((oth e neT).trans qe) ne aE.n0 aE.nL aE.nC
  refine oj (X:=Cx.marked (Cx.pinned X (X.pn++pins)) e) (o4 I4 e) hN hi (.inl hlo) (v:= .ref e) rfl (fun s4 I5=> ?_) (.inr hlo)
  have w:=hc c dx H1 q σ1 e ob (I1.len.trans I.len.symm) ne cE dE (by unfold PySem.W.notCls;rw[dF])
  refine wpAny_mono (hs (X.pn++pins) e [] s4 _ _ _ I5 w) (fun f s5 hf=> ?_) (fun y s5 z=>z.elim)
  cases f with
  |next=>
   obtain⟨σ2,H2,I6,q6⟩:=hf
   exact xA (vn IY.ok I6) hN hi hlo fun s6 I7=>⟨_,_,i9 I.ok I7,q6⟩
  |brk=>obtain⟨σ2,H2,I6,q6⟩:=hf;exact q6.elim
  |cont=>obtain⟨σ2,H2,I6,q6⟩:=hf;exact q6.elim
  |ret u=>obtain⟨v,σ2,H2,I6,r,q6⟩:=hf;exact q6.elim
end L4
namespace L4
open PySem PySem.Spec L2 L3
theorem GA {P:Program} {w:World} {K:PySem.W.Frag} {mg:Str→Option Value} {base:Heap} {x qual:Str} {st:Stmt} {f:Addr} {fd:FuncData} {N ps:List Str} {k n m:Nat} {g:FS} {FF:FN} (F:Fun K x qual st f fd) (S:FnScope N ps (aw st)) (hn:ps.length=n) (hm:N.length=m) (hF:FF=fq m g)
  (hbody:∀(cdv:Value) (A:Around) (outer:List Env) (s:Shared) (H:Hp) (E:XK),Room k (A.deeper (PyProof.Rows.envOfC qual (aw st) s.heap.objs.size f cdv))→
   ∃t,PSs (fJ (nJ P w) P w K mg base N qual (aw st) f cdv A outer s H E) (ax st) t∧SO K E t g):FnOk P w K mg base (nJ P w) (k+1) f fd ps (i8 K n FF):=by
 subst hF hm
 obtain⟨oc,od,kV,doc,pm,an,cdv,ct,osl,rfl,lk,hcd⟩:=F.ex
 refine CO lk hcd S (fun vs H Q E h=>h.1.trans hn.symm) fun A outer s H vs Q E hr hsp=> ?_
 obtain⟨t,ht,hs⟩:=hbody cdv A outer s H E hr
 obtain⟨hl,B,ds,hb,dv,h⟩:=hsp
 refine⟨t,ht,hs B H B _ H _ _ (ua hb dv) (WR.imp (WR.bind h) fun fl q=> ?_)⟩
 cases fl with
 |rt rv=>exact q
 |nx ρ=>exact fun O' σ' H' e R=>q .non H' R.same .non
 |bk ρ=>exact q.elim
 |ct ρ=>exact q.elim
noncomputable def pG (P:Program) (w:World) (K:PySem.W.Frag) (mg:Str→Option Value) (base:Heap) (k:Nat) (x:Str) (ps:List Str) (n:Nat) (F:FN):Prop:=
 ∃f fd,FnOk P w K mg base (nJ P w) k f fd ps (i8 K n F)∧Binds K fd ps []∧PySem.W.keepIn K (.ref f)=true∧mg x=some (.ref f)
theorem nV {X:Cx} {k j n:Nat} {x:Str} {ps:List Str} {F:FN} {E:XK} {e:Expr} {es:List Expr} {t:TA} {p pos:Pos} (C:pG X.prog X.w X.K X.mg X.base k x ps n F) (hx:k7 (nJ X.prog X.w) X E) (hr:Room j X.A) (ha:PA X (e::es) t) (hjk:k≤j:=by decide) (hg:Gl X x:=by rfl)
  (hdb:(x==("__debug__":Str))=false:=by decide) (he:starEach (e::es) X.env=(false,eval e X.env)::starEach es X.env:=by rfl) (hpl:(backTo pos (starEach es X.env)).any (·.1)=false:=by rfl):
  PE X (.Call (.Name x p) (e::es) [] pos) (pq (i8 X.K n F) [] E t):=by
 obtain⟨f,fd,F,b,kp,m⟩:=C
 exact wP F (hr.mono hjk) hg m kp b .nil hx ha hdb he hpl
end L4
namespace L4
open PySem PySem.Spec PySem.W PyProof.Rows L2 L3
section
variable {prog:Program} {w:World} {A:Around} {E:Value→Shared→Prop} {h:Heap} {g:Array GenState} {d:Drawn} {t:Nat} {os:OsState} {a C:Addr} {o:Obj} {K:PySem.W.Frag}
  {n1 q1:Str} {N1:Addr} {b1 m1:List Value} {d1:Bool} {s1:List Str} {u1:List Value} {a1:Bool} {c1:Option Bool} {x1:Option Addr} {i0 i1 i2 i3 i5:Option Value} {id1:String}
theorem on {M:Model} {nv:Value} {Q:Unit→Shared→Prop} (hC:h.get? C=some (excClassObj n1 q1 C N1 b1 m1 d1 s1 u1 a1 c1 x1 i0 i1 i2 i3 i5 id1)) (hb:m1.contains (.type "BaseException")=true)
  (hx:h.get? a=some o) (hc:o.cls= .ref C) (k:Q () ⟨h,g,d,t,os⟩):wpAny M A (checkBuiltinCall "BaseException.__getattribute__" ⟨[.ref a,nv],[]⟩) Q E ⟨h,g,d,t,os⟩:=by
 have e1:builtinKind "BaseException.__getattribute__"=some .slot:=by decide+kernel
 have e2:splitId "BaseException.__getattribute__"=some ("BaseException","__getattribute__"):=by decide+kernel
 have e3:(Value.ref C::m1).contains (.type "BaseException")=true:=by rw[List.contains_cons,hb,Bool.or_true]
 have e4:=F.args_bexc_ga (.ref a) nv
 simp only[checkBuiltinCall,e1,e2]
 refine wpAny_bind ?_
 unfold isInstance
 repeat (first|(with_reducible refine wpAny_loadPart_at hx ?_;rw[hc])|(with_reducible refine wpAny_isSubtype_exc hC ?_;rw[e3])|wp_step)
 exact k
theorem vv {tk:Tok} {Q:Fin→Shared→Prop} {od:Option Obj} (X:K.In h) (I:PySem.W.InstAt h a o C od) (l3:findIn K (.ref C) "__class__"=some (some (.builtin "object.__class__"))) (hm:mroIn K C (.type "object")=some true)
  (k:Q (.done (.ret (.ref C))) ⟨h,g,d,t,os⟩):wpAny (model prog w) A (Builtin.«object.__getattribute__» ⟨[.ref a,.str "__class__" tk],[]⟩) Q E ⟨h,g,d,t,os⟩:=by
 have e5:(⟨h,g,d,t,os⟩:Shared).TypeIs (.builtin "object.__class__") "getset_descriptor":=F.typeOf_object_class
 have f5:=F.typeOf_object_class
 have f6:=F.slot_gs_get.lookup
 have f7:=F.slot_gs_set.lookup
 have L0:=I.type (M:=model prog w)
 have L1:=looks_findIn (M:=model prog w) X l3
 repeat (any_goals (first|assumption|with_reducible refine L0.at ?_|with_reducible refine L1.at ?_|wp_step))
 refine class_get (s:=⟨h,g,d,t,os⟩) X I hm ?_
 repeat (any_goals (first|assumption|wp_step))
theorem yi {Q:Option Value→Shared→Prop} {od:Option Obj} (X:K.In h) (I:PySem.W.InstAt h a o C od) (hC:h.get? C=some (excClassObj n1 q1 C N1 b1 m1 d1 s1 u1 a1 c1 x1 i0 i1 i2 i3 i5 id1)) (hb:m1.contains (.type "BaseException")=true)
  (l1:findIn K (.ref C) "__getattribute__"=some (some (.builtin "BaseException.__getattribute__"))) (l2:findIn K (.ref C) "__getattr__"=some none) (l3:findIn K (.ref C) "__class__"=some (some (.builtin "object.__class__"))) (hm:mroIn K C (.type "object")=some true)
  (k:Q (some (.ref C)) ⟨h,g,d,t+1,os⟩):wpAny (model prog w) A (getAttr? (.ref a) "__class__") Q E ⟨h,g,d,t,os⟩:=by
 have f3:=PySem.F.attrBase_ValueError.ga.bind (.ref a)
 have z2:(Value.builtin "BaseException.__getattribute__"==Value.builtin "object.__getattribute__")=false:=by decide+kernel
 have z1:(onTheHeap (Value.ref C)&&Value.builtin "BaseException.__getattribute__"==Value.builtin "object.__getattribute__")=false:=by rw[z2];rfl
 have L0:=I.type (M:=model prog w)
 have L1:=looks_findIn (M:=model prog w) X l1
 have L2:=looks_findIn (M:=model prog w) X l2
 unfold getAttr? getAttrBy? getAttrBy
 repeat (any_goals (first|assumption|with_reducible refine L0.at ?_|with_reducible refine L1.at ?_|with_reducible refine L2.at ?_|wp_step))
 refine codeAny_call_builtin PySem.F.attrBase_ValueError.ga.plain F.entry_bexc_ga (on hC hb I.at_ I.cls (vv X I l3 hm ?_))
 repeat (any_goals (first|assumption|wp_step))
structure ExLook (K:PySem.W.Frag) (C:Addr) (m:List Value):Prop where
 cl:lG K C m
 be:m.contains (.type "BaseException")=true
 ga:findIn K (.ref C) "__getattribute__"=some (some (.builtin "BaseException.__getattribute__"))
 gt:findIn K (.ref C) "__getattr__"=some none
 cs:findIn K (.ref C) "__class__"=some (some (.builtin "object.__class__"))
 ob:mroIn K C (.type "object")=some true
theorem uz {m:List Value} {od:Option Obj} (L:ExLook K C m):KitX K (.ref a) (.ref C) (fun h=>PySem.W.InstAt h a o C od) where
 ty:=fun _ _ _ I=>I.type
 it:=fun _ _ X _=>by
  obtain⟨_,_,_,_,_,_,_,_,_,_,_,_,_,_,_,_,kC⟩:=L.cl
  intro A' Q' E' s' k q
  unfold isType loadHead
  exact wpAny_bind (wpAny_loadPart (k _ _ (X _ _ kC)) (wpAny_pure q))
 ne:=fun h tp dd its n sl X htp=>by
  obtain⟨_,_,_,_,_,_,_,_,_,_,_,_,_,_,_,_,kC⟩:=L.cl
  refine Bool.eq_false_iff.mpr fun q=> ?_
  obtain rfl:C=tp:=Value.ref.inj (beq_iff_eq.mp q)
  have z:=congrArg Obj.cls (Option.some.inj ((X _ _ kC).symm.trans htp))
  exact absurd (Value.type.inj z) (by decide)
 ca:=fun{_ _ _ _ _ s} X I k=>by
  obtain⟨_,_,_,_,_,_,_,_,_,_,_,_,_,_,_,_,kC⟩:=L.cl
  obtain⟨hh,gg,dd,tt,oo⟩:=s
  exact yi X I (X _ _ kC) L.be L.ga L.gt L.cs L.ob k
end
noncomputable def Ei (K:PySem.W.Frag) (c:Value):V→Hp→VK→Prop:=fun x H Q=>∃e ob C m b,x= .ref e∧H e=some (.frz ob (.own e))∧ob.cls= .ref C∧(∀p,ob.dict=some p→∃fs,H p=some (.xd fs))∧notCls ob=true∧ExLook K C m∧kitOne K (.ref C) c=some b∧Q (.bl b) H
theorem yP {X:Cx} {pins:List (Addr×Obj)} {σ:L2.St} {H:Hp} {s:Shared} {A:Around} {E:Value→Shared→Prop} {x:V} {u c:Value} {Q:VK} (I:L2.Inv X pins σ H s) (rx:RelV x u) (h:Ei X.K c x H Q):
  wpAny (model X.prog X.w) A (call (.builtin "isinstance") [u,c]) (EP X pins σ Q) E s:=by
 obtain⟨e,ob,C,m,b,rfl,he,hc,hd,hn,L,hk,q⟩:=h
 obtain rfl:u=Value.ref e:=rx
 have z:s.heap.get? e=some ob:=(I.hok e _ he).1
 cases e1:ob.dict with
 |none=>exact kia_one (uz (o:=ob) (od:=none) L) I.kIn ⟨z,hc,hn,by rw[e1];trivial⟩ hk (fun y=>nomatch y) fun tk=>⟨.bl b,H,I.tok tk,rfl,q⟩
 |some p=>
  obtain⟨fs,hp⟩:=hd p e1
  obtain⟨op,zp⟩:=yC (I.hok p _ hp)
  exact kia_one (uz (o:=ob) (od:=some op) L) I.kIn ⟨z,hc,hn,by rw[e1];exact zp⟩ hk (fun y=>nomatch y) fun tk=>⟨.bl b,H,I.tok tk,rfl,q⟩
end L4
namespace L4
open PySem PySem.SeqAt PySem.Spec PySem.W PyProof.Rows L2 L3
theorem lu:∀{bs:List Bool} {its:List Value},Vals (bs.map V.bl) its→its=bs.map Value.bool
 |[],_,.nil=>rfl
 |b::r,_,.cons h t=>by
  have h:_=Value.bool b:=h
  rw[h,lu t]
  rfl
theorem CJ (k:Bool) {bs:List Bool} {y:Value} (h:y∈bs.map Value.bool) (A:Around) (s:Shared):EqAt A s y (.bool k) (isBoolOf k y):=by
 obtain⟨b,_,rfl⟩:=List.mem_map.mp h
 exact EqAt.bool_bool b k
theorem zP (k:Bool) (bs:List Bool):(bs.map Value.bool).countP (isBoolOf k)=bs.count k:=by
 rw[List.countP_map]
 rfl
section
variable {X:Cx}
noncomputable def Fw:V→List V→Hp→VK→Prop:=fun x xs H Q=>∃(l:Addr) (bs:List Bool) (k:Bool),x= .ref l∧H l=some (.lst (bs.map V.bl))∧xs=[.bl k]∧Q (.int (bs.count k:Nat)) H
theorem xW:Ho X "list.count" Fw:=by
 rintro pins s σ H x xs v us Q I rx rxs ⟨l,bs,k,rfl,hl,rfl,q⟩
 obtain rfl:v= .ref l:=rx
 obtain rfl:us=[.bool k]:=lu (bs:=[k]) rxs
 obtain⟨z,its,n,r,ho⟩:=(show ObjOk X.prog X.w H s.heap l (.lst (bs.map V.bl)) from I.hok l _ hl)
 obtain rfl:=lu r
 refine call_meets PySem.F.slot_list_count ⟨_,ho,rfl⟩ PySem.F.entry_list_count (PySem.F.args_list_count_2 _ _) (list_countAt l (bs.map Value.bool).toArray n none #[] (.bool k) (isBoolOf k)) ⟨ho,fun y hy=>CJ k (by simpa using hy) _ _,?_⟩
 rw[show(bs.map Value.bool).toArray.toList=bs.map Value.bool from rfl,zP]
 exact⟨.int (bs.count k:Nat),H,I.tok _,⟨_,rfl⟩,q⟩
noncomputable def F5:V→List V→Hp→VK→Prop:=fun x xs H Q=>∃(l:Addr) (bs:List Bool) (k:Bool) (j:Nat),x= .ref l∧H l=some (.lst (bs.map V.bl))∧xs=[.bl k]∧bs[j]? =some k∧(∀m,m<j→bs[m]?≠some k)∧j<1000∧Q (.int (j:Nat)) H
theorem xQ:Ho X "list.index" F5:=by
 rintro pins s σ H x xs v us Q I rx rxs ⟨l,bs,k,j,rfl,hl,rfl,hj,hno,hs,q⟩
 obtain rfl:v= .ref l:=rx
 obtain rfl:us=[.bool k]:=lu (bs:=[k]) rxs
 obtain⟨z,its,n,r,ho⟩:=(show ObjOk X.prog X.w H s.heap l (.lst (bs.map V.bl)) from I.hok l _ hl)
 obtain rfl:=lu r
 obtain⟨jl,je⟩:=List.getElem?_eq_some_iff.mp hj
 refine call_meets PySem.F.slot_list_index ⟨_,ho,rfl⟩ PySem.F.entry_list_index (PySem.F.args_list_index_2 _ _) (list_indexAt l (bs.map Value.bool).toArray n none #[] (.bool k) (isBoolOf k) j (by simpa using jl) (by omega) ?_ fun m hm lt=> ?_) ⟨ho,fun y hy=>CJ k (by simpa using hy) _ _,?_⟩
 ·simp[isBoolOf,je]
 ·have hm':m<bs.length:=by simpa using hm
  have:=hno m lt
  rw[List.getElem?_eq_getElem hm'] at this
  simp only[List.getElem_toArray,List.getElem_map,isBoolOf]
  exact beq_eq_false_iff_ne.mpr fun z=>this (by rw[z])
 ·exact⟨.int (j:Nat),H,I.tok _,⟨_,rfl⟩,q⟩
end
end L4
namespace L4
open PySem PySem.Spec PySem.W PyProof.Rows L2 L3
noncomputable def y0 (K:PySem.W.Frag):List V→Hp→VK→Prop:=fun xs H Q=>∃x,(∃U:Addr,xs=[x,.ref U]∧Ei K (.ref U) x H Q)∨∃n,xs=[x,.ty n]∧Ei K (.type n) x H Q
theorem fy {X:Cx}:CallR X (.builtin "isinstance") (y0 X.K):=by
 rintro pins s σ H xs us Q I r ⟨x,h⟩
 rcases h with⟨U,rfl,h⟩|⟨n,rfl,h⟩
 ·obtain⟨u,w',rfl,rx,rn⟩:=pX r
  obtain rfl:w'=Value.ref U:=rn
  exact yP I rx h
 ·obtain⟨u,w',rfl,rx,rn⟩:=pX r
  obtain rfl:w'=Value.type n:=rn
  exact yP I rx h
end L4
namespace PySem
open Sem (wp)
open PyProof.Rows
section
variable {prog:Program} {w:World} {A:Around} {E:Value→Shared→Prop} {s:Shared} {t:Addr} {xs:Array (Int×Tok)}
end
end PySem
namespace L3
open PySem PySem.Spec PyProof.Rows L2
end L3
namespace HT
open PySem PySem.Spec PyProof.Rows
section
variable {prog:Program} {w:World} {A:Around} {E:Value→Shared→Prop} {s:Shared}
theorem getItem_tuple_all {t sl:Addr} {items:Array Value} {vl vu:Value} {lo hi:Option Int} {Q:Value→Shared→Prop} (ht:IsTup s.heap t items) (hs:s.heap.IsSliceOf sl vl vu .none) (pl:IsPart vl lo) (pu:IsPart vu hi)
  (hw:sIx items.size 0 lo=0∧sIx items.size items.size hi=items.size) (h:Q (.ref t) s):wpAny (model prog w) A (getItem (.ref t) (.ref sl)) Q E s:=by
 obtain⟨os,hos,hcs,hds⟩:=id hs
 have hTs:s.TypeIs (.ref sl) "slice":=⟨os,hos,hcs⟩
 unfold getItem
 try with_reducible refine wpAny_holding ?_
 first|refine wpAny_bind (wpAny_pure ?_)|skip
 refine wpAny_bind (wpAny_sequenceKey ht.typeIs (by decide) ?_)
 refine wpAny_bind (wpAny_callSpecial?_slot (name:=Str.ofString "__getitem__") ht.typeIs PyProof.Rows.slot_tuple_getitem
  (wpAny_call_entry PyProof.Rows.slot_tuple_getitem ht.typeIs entry_tuple_getitem ?_ (args_tuple_getitem _ _)))
 show wpAny _ _ (Builtin.Tuple.tupleItemsOf (.ref t)>>=_) _ _ s
 refine wpAny_bind (tupleItemsOf_ ht ?_)
 refine wpAny_bind (wpAny_typeOf hTs ?_)
 rw[if_pos (by decide)]
 refine wpAny_bind (i7 hs pl pu ?_)
 have hyes:((((sIx items.size 0 lo:Nat):Int)==0&&(1:Int)==1&&(sIx items.size items.size hi - sIx items.size 0 lo)==items.size)=true):=by
  rw[hw.1,hw.2]
  simp
 show wpAny _ _ (if(((sIx items.size 0 lo:Nat):Int)==0&&(1:Int)==1&&(sIx items.size items.size hi - sIx items.size 0 lo)==items.size)=true then _ else _) _ _ s
 rw[if_pos hyes]
 refine wpAny_bind (m:=Builtin.Tuple.tupleIsExact _) ?_
 unfold Builtin.Tuple.tupleIsExact
 refine wpAny_bind (wpAny_typeOf ht.typeIs (wpAny_pure ?_))
 rw[if_pos (by decide)]
 refine wpAny_bind (wpAny_rule ?_)
 exact wpAny_pure ⟨_,rfl,wpAny_pure h⟩
end
end HT
namespace L3
open PySem PySem.Spec PyProof.Rows L2
noncomputable def FQ (K:PySem.W.Frag):V→Option Int→Option Int→Hp→VK→Prop:=fun x lo hi H Q=>∃(a:Addr) (xs:List V),x= .ref a∧SqT K H a xs∧(HT.sIx xs.length 0 lo=0∧HT.sIx xs.length xs.length hi=xs.length)∧Q (.ref a) H
theorem zO {X:Cx}:E1 X (FQ X.K):=by
 intro pins s σ H x v vl vu lo hi sl Q I rx hs pl pu h
 obtain⟨a,xs,rfl,hx,hw,q⟩:=h
 cases rx
 obtain⟨its,r,ht,hz⟩:=I.tuple hx
 have hlen:its.toArray.size=xs.length:=by rw[List.size_toArray];exact r.length.symm
 refine⟨"tuple",_,PyProof.Rows.slot_tuple_getitem.lookup,ht.typeIs,?_⟩
 exact HT.getItem_tuple_all ht hs pl pu (by rw[hlen];exact hw) ⟨.ref a,H,I,rfl,q⟩
noncomputable def Gd (K:PySem.W.Frag):V→Option Int→Option Int→Hp→VK→Prop:=fun x lo hi H Q=>Ed K x lo hi H Q∨FQ K x lo hi H Q
theorem gB {X:Cx}:E1 X (Gd X.K):=by
 intro pins s σ H x v vl vu lo hi sl Q I rx hs pl pu q
 rcases q with q|q
 ·exact rC pins s σ H x v vl vu lo hi sl Q I rx hs pl pu q
 ·exact zO pins s σ H x v vl vu lo hi sl Q I rx hs pl pu q
noncomputable def kx:D→Option Int→Option Int→Option RV
 | .list ds,lo,hi=>some (.ow (ie ds lo hi))
 | .tuple ds,lo,hi=>some (.fz (.tuple (ie ds lo hi)))
 |_,_,_=>none
theorem Bw {ds:List D} {lo hi:Option Int} (h:HT.sIx ds.length 0 lo=0∧HT.sIx ds.length ds.length hi=ds.length):ie ds lo hi=ds:=by
 unfold ie
 rw[h.1,h.2,List.drop_zero,Nat.sub_zero,List.take_length]
theorem jR {K:PySem.W.Frag}:Hb K (Gd K) kx:=by
 intro O H x lo hi dx rv Q n hx e q
 cases dx with
 |list ds=>exact .inl (lx O H x lo hi _ rv Q n hx e q)
 |tuple ds=>
  cases e
  by_cases hw:HT.sIx ds.length 0 lo=0∧HT.sIx ds.length ds.length hi=ds.length
  ·obtain⟨a,xs,rfl,h1,h2⟩:=uL hx
   rw[Bw hw] at q
   refine .inr ⟨a,xs,rfl,h1.1,by rw[h2.length];exact hw,q.at (.tup h1 h2)⟩
  ·refine .inl (lx O H x lo hi (.tuple ds) _ Q n hx ?_ q)
   show(if gZ ds.length lo hi=true then none else some (RV.fz (.tuple (ie ds lo hi))))=_
   have z:gZ ds.length lo hi=false:=by unfold gZ;exact decide_eq_false hw
   rw[z,if_neg Bool.false_ne_true]
 |_=>cases e
end L3
namespace L3
open PySem PySem.Spec PyProof.Rows L2
section
variable {K:PySem.W.Frag} {E:XK}
open Classical in
end
end L3
namespace L9
open PySem PySem.Spec PyProof.Rows
section
variable {M:Model} {A:Around} {E:Value→Shared→Prop} {env:Env}
variable {nm q:Str} {C N:Addr} {bs bm:List Value} {hdct:Bool} {sn:List Str} {sub:List Value} {ab:Bool} {col:Option Bool} {dd:Option Addr} {k0 k1 k2 k3 k5:Option Value} {newId:String}
theorem iS {s:Shared} {x:Sem Value} {Q:Flow→Shared→Prop} (hbase:bm.contains (.type "BaseException")=true) (hh:A.handled=none)
  (h:wpAny M A x (fun v s₁=>∃e ob,v= .ref e∧s₁.heap.get? C=some (excClassObj nm q C N bs bm hdct sn sub ab col dd k0 k1 k2 k3 k5 newId)∧s₁.heap.get? e=some ob∧ob.cls= .ref C∧(∃fs,ob.data= .fields fs∧fs[1]? =some Value.none)∧E (.ref e) s₁) E s):
  wpAny M A (raiseStmt env (some x) none) Q E s:=by
 have hcB:(Value.ref C::bm).contains (.type "BaseException")=true:=by rw[List.contains_cons,hbase,Bool.or_true]
 unfold raiseStmt
 refine wpAny_bind (wpAny_mono h (fun v s₁ h₁=> ?_) fun _ _ x=>x)
 obtain⟨e,ob,rfl,hC,he,hc,⟨fs,hd,hf1⟩,hE⟩:=h₁
 obtain⟨oc,od,odd⟩:=ob
 dsimp only at hc hd
 subst hc hd
 obtain⟨hp,g,d,tk,os⟩:=s₁
 repeat (first|with_reducible refine wpAny_loadPart_at he ?_|with_reducible refine wpAny_loadPart_at hC ?_|(with_reducible refine wpAny_isSubtype_exc hC ?_;rw[hcB])|wp_step)
 rw[hf1]
 repeat wp_step
 exact wpAny_raiseNew_none hh hE
end
section
variable {prog:Program} {w:World} {A:Around} {E:Value→Shared→Prop} {h:Heap} {g:Array GenState} {d:Drawn} {t:Nat} {os:OsState}
variable {nm q:Str} {C N:Addr} {bs bm bmB:List Value} {hdct:Bool} {sn:List Str} {sub:List Value} {ab:Bool} {col:Option Bool} {dd:Option Addr} {k0 k1 k2 k3 k5:Option Value} {B Bn newId nid initId inN:String} {bmN:List Value}
theorem nj (Fn:ExcBaseFacts Bn newId inN bmN) (hBn:bmB.contains (.type Bn)=true) (F:ExcBaseFacts B nid initId bmB) (T:OwnTail h bmB bm) {mN:Str→Option Value} {rest:List Value} {fI:Addr} {oI:Obj} {Q:Fin→Shared→Prop}
  (hC:h.get? C=some (excClassObj nm q C N bs bm hdct sn sub ab col dd k0 k1 k2 k3 k5 newId)) (hn:h.Ns N mN) (hi:mN "__init__"=some (.ref fI)) (hfI:h.get? fI=some oI) (hfc:oI.cls= .type "function")
  (hq:∀h' e,Heap.MadeExcOf h h' e (.ref C) rest→wpAny (model prog w) A (call (.ref fI) (.ref e::rest)) (fun r s'=>r= .none∧Q (.done (.ret (.ref e))) s') E ⟨h',g,d,t,os⟩) (hrest:rest.length≤sizeLine):
  wpAny (model prog w) A (Builtin.«type.__call__» ⟨.ref C::rest,[]⟩) Q E ⟨h,g,d,t,os⟩:=by
 repeat (first|with_reducible refine wpAny_loadPart_at hC ?_|with_reducible refine wpAny_madeBy_exc hC ?_|wp_step)
 refine codeAny_call_builtin_code (Code.quiet_builtin _ Fn.quiet) (wpAny_check_new_subU Fn hBn T hC ?_)
 refine codeAny_exc_new_subU Fn hBn F T hC ?_ hrest
 show wpAny _ _ _ _ _ _
 have hC₁:=Heap.get?_push_of_some {cls:= .ref C,data:= .fields #[.ref h.objs.size,.none,.none,.none,.bool false,.none]}
  (Heap.get?_push_of_some {cls:= .type "tuple",data:= .seq rest.toArray} hC)
 have hfI₁:=Heap.get?_push_of_some {cls:= .ref C,data:= .fields #[.ref h.objs.size,.none,.none,.none,.bool false,.none]}
  (Heap.get?_push_of_some {cls:= .type "tuple",data:= .seq rest.toArray} hfI)
 have hn₁:((h.push {cls:= .type "tuple",data:= .seq rest.toArray}).push {cls:= .ref C,data:= .fields #[.ref h.objs.size,.none,.none,.none,.bool false,.none]}).Ns N mN:=
  let⟨o,es,ep,e,r⟩:=hn;⟨o,es,ep,Heap.get?_push_of_some _ (Heap.get?_push_of_some _ e),r⟩
 have hget:((h.push {cls:= .type "tuple",data:= .seq rest.toArray}).push
   {cls:= .ref C,data:= .fields #[.ref h.objs.size,.none,.none,.none,.bool false,.none]}).get? (h.objs.size+1)=some
   {cls:= .ref C,data:= .fields #[.ref h.objs.size,.none,.none,.none,.bool false,.none]}:=by heap_get
 have hcC:(Value.ref C::bm).contains (.ref C)=true:=by simp
 have T₁:=T.keeps (h':=(h.push {cls:= .type "tuple",data:= .seq rest.toArray}).push {cls:= .ref C,data:= .fields #[.ref h.objs.size,.none,.none,.none,.bool false,.none]})
  fun b o e=>Heap.get?_push_of_some _ (Heap.get?_push_of_some _ e)
 unfold isInstance
 repeat (first|with_reducible refine wpAny_loadPart_at hget ?_|(with_reducible refine wpAny_isSubtype_exc hC₁ ?_;rw[hcC])|wp_step)
 show wpAny _ _ (typeLookup (.ref C) _) _ _ _
 refine wpAny_typeLookup_tail hC₁ hn₁ T₁ F.mroIs F.init.lookup ?_
 rw[hi]
 refine wpAny_holding (wpAny_bind ?_)
 unfold bindSpecial
 refine wpAny_bind (wpAny_typeOf (T:= "function") ⟨_,hfI₁,hfc⟩ ?_)
 rw[if_pos (by decide)]
 refine wpAny_pure (wpAny_bind (wpAny_mono (hq _ (h.objs.size+1) ⟨fun b o hb=>Heap.get?_push_of_some _ (Heap.get?_push_of_some _ hb),Heap.get?_none_of_le (Nat.le_succ _),h.objs.size,hget,Heap.get?_none_of_le (Nat.le_refl _),?_⟩) (fun r s' hr=> ?_) fun _ _ x=>x))
 ·exact Heap.get?_push_of_some _ (Heap.get?_push_at rfl rfl)
 ·obtain⟨rfl,hQ⟩:=hr
  wp_walk
  exact hQ
theorem vz (Fn:ExcBaseFacts Bn newId inN bmN) (hBn:bmB.contains (.type Bn)=true) (F:ExcBaseFacts B nid initId bmB) (T:OwnTail h bmB bm) {mN:Str→Option Value} {rest:List Value} {fI:Addr} {oI:Obj} {Q:Value→Shared→Prop}
  (hC:h.get? C=some (excClassObj nm q C N bs bm hdct sn sub ab col dd k0 k1 k2 k3 k5 newId)) (hn:h.Ns N mN) (hi:mN "__init__"=some (.ref fI)) (hfI:h.get? fI=some oI) (hfc:oI.cls= .type "function")
  (hq:∀h' e,Heap.MadeExcOf h h' e (.ref C) rest→wpAny (model prog w) (A.under (.builtin "type.__call__" ⟨.ref C::rest,[]⟩)) (call (.ref fI) (.ref e::rest)) (fun r s'=>r= .none∧Q (.ref e) s') E ⟨h',g,d,t,os⟩) (hrest:rest.length≤sizeLine):
  wpAny (model prog w) A (call (.ref C) rest) Q E ⟨h,g,d,t,os⟩:=by
 have f1:=tc_lookup
 have f2:=tc_bind (.ref C)
 have hT:(⟨h,g,d,t,os⟩:Shared).TypeIs (.ref C) "type":=⟨_,hC,rfl⟩
 refine wpAny_call (codeAny_of_tree ?_)
 show wpAny _ _ (callAny (.ref C) _) _ _ _
 repeat (any_goals (first|assumption|with_reducible refine wpAny_loadPart_at hC ?_|wp_step))
 refine⟨rfl,?_⟩
 refine codeAny_call_builtin_at (Code.quiet_builtin _ (by decide+kernel)) entry_typeCall (wpAny_check_type_call_sub hC (nj (hrest:=hrest) Fn hBn F T hC hn hi hfI hfc fun h' e hm=> ?_))
 exact hq h' e hm
end
section
variable {prog:Program} {w:World} {A:Around} {E:Value→Shared→Prop} {s:Shared} {env:Env}
variable {nm q:Str} {C N:Addr} {bs bm bmB:List Value} {hdct:Bool} {sn:List Str} {sub:List Value} {ab:Bool} {col:Option Bool} {dd:Option Addr} {k0 k1 k2 k3 k5:Option Value} {B Bn newId nid initId inN:String} {bmN:List Value}
theorem uq (Fn:ExcBaseFacts Bn newId inN bmN) (hBn:bmB.contains (.type Bn)=true) (F:ExcBaseFacts B nid initId bmB) {mN:Str→Option Value} {fI:Addr} {oI:Obj} {x:Str} {np cpos pos:Pos} {args:List Expr} {Q:Flow→Shared→Prop}
  (hbase:bm.contains (.type "BaseException")=true) (hh:A.handled=none) (hplain:(backTo cpos (starEach args env)).any (·.1)=false) (hi:mN "__init__"=some (.ref fI)) (hfc:oI.cls= .type "function")
  (h:wpAny (model prog w) A (eval (.Name x np) env) (fun f s₁=>f= .ref C∧wpAny (model prog w) A (evalArgs (.ref C) true (backTo cpos (starEach args env)) [])
   (fun a s₂=>a.kw=[]∧a.pos.length≤sizeLine∧s₂.heap.get? C=some (excClassObj nm q C N bs bm hdct sn sub ab col dd k0 k1 k2 k3 k5 newId)∧s₂.heap.Ns N mN∧s₂.heap.get? fI=some oI∧OwnTail s₂.heap bmB bm∧
    ∀h' e,Heap.MadeExcOf s₂.heap h' e (.ref C) a.pos→wpAny (model prog w) (A.under (.builtin "type.__call__" ⟨.ref C::a.pos,[]⟩)) (call (.ref fI) (.ref e::a.pos)) (fun r s'=>r= .none∧∃ob,s'.heap.get? C=some (excClassObj nm q C N bs bm hdct sn sub ab col dd k0 k1 k2 k3 k5 newId)∧s'.heap.get? e=some ob∧ob.cls= .ref C∧(∃fs,ob.data= .fields fs∧fs[1]? =some Value.none)∧E (.ref e) s') E {s₂ with heap:=h'}) E s₁) E s):
  wpAny (model prog w) A (exec (.Raise (some (.Call (.Name x np) args [] cpos)) none pos) env) Q E s:=by
 rw[arm_exec_Raise]
 first
  |refine wpAny_bind (wpAny_standAt (iS (C:=C) (nm:=nm) (q:=q) (N:=N) (bs:=bs) (bm:=bm) (hdct:=hdct) (sn:=sn) (sub:=sub) (ab:=ab) (col:=col) (dd:=dd) (k0:=k0) (k1:=k1) (k2:=k2) (k3:=k3) (k5:=k5) (newId:=newId) hbase hh (wpAny_bind (wpAny_mono (wpAny_Call_ofName (wpAny_mono h (fun f s₁ h₁=> ?_) fun _ _ x=>x)) (fun v s₃ h₃=>wpAny_bind (wpAny_standAt (wpAny_pure h₃))) fun _ _ x=>x))))
  |(simp only[evalOpt,Option.map];refine wpAny_bind (wpAny_standAt (iS (C:=C) (nm:=nm) (q:=q) (N:=N) (bs:=bs) (bm:=bm) (hdct:=hdct) (sn:=sn) (sub:=sub) (ab:=ab) (col:=col) (dd:=dd) (k0:=k0) (k1:=k1) (k2:=k2) (k3:=k3) (k5:=k5) (newId:=newId) hbase hh (wpAny_bind (wpAny_mono (wpAny_Call_ofName (wpAny_mono h (fun f s₁ h₁=> ?_) fun _ _ x=>x)) (fun v s₃ h₃=>wpAny_bind (wpAny_standAt (wpAny_pure h₃))) fun _ _ x=>x)))))
  |(refine wpAny_bind (wpAny_standAt (iS (C:=C) (nm:=nm) (q:=q) (N:=N) (bs:=bs) (bm:=bm) (hdct:=hdct) (sn:=sn) (sub:=sub) (ab:=ab) (col:=col) (dd:=dd) (k0:=k0) (k1:=k1) (k2:=k2) (k3:=k3) (k5:=k5) (newId:=newId) hbase hh ?_));refine wpAny_bind (wpAny_mono (wpAny_Call_ofName (wpAny_mono h (fun f s₁ h₁=> ?_) fun _ _ x=>x)) (fun v s₃ h₃=>wpAny_bind (wpAny_standAt (wpAny_pure h₃))) fun _ _ x=>x))
 obtain⟨rfl,h₁⟩:=h₁
 unfold callWith
 refine wpAny_bind (wpAny_holding (wpAny_mono h₁ (fun a s₂ h₂=>wpAny_bind (wpAny_standAt ?_)) fun _ _ x=>x))
 obtain⟨apos,akw⟩:=a
 obtain⟨hkw,hlen,hC,hn,hf,T,h₂⟩:=h₂
 obtain rfl:akw=[]:=hkw
 obtain⟨hp,g,d,tk,os⟩:=s₂
 simp only[hplain]
 refine wpAny_bind (wpAny_keeperOf_exc hC ?_)
 refine wpAny_bind (vz (hrest:=hlen) Fn hBn F T hC hn hi hf hfc fun h' e hm=>wpAny_mono (h₂ h' e hm) (fun r s' ⟨hr,ob,c1,c2,c3,c4,c5⟩=>⟨hr,wpAny_bind (wpAny_holding (wpAny_point (wpAny_pure ?_)))⟩) fun _ _ x=>x)
 exact⟨e,ob,rfl,c1,c2,c3,c4,c5⟩
end
end L9
namespace L9
open PySem PySem.W PyProof.Rows Builtin Builtin.ObjectAttr
noncomputable abbrev wk:List Value:=[.type "ValueError",.type "Exception",.type "BaseException",.type "object"]
section
variable {prog:Program} {w:World} {A:Around} {K:Frag} {B C x:Addr} {s:Shared} {R:Result→Shared→Prop} {cd:ClassData} {name:Str} {tk:Tok} {v:Value} {fs:Array Value}
theorem Cm (X:K.In s.heap) (hc:clsIn K C=some cd) (hm:cd.mro= .ref C:: .ref B::wk) (hd:cd.hasDict=true) (hn:findIn K (.ref C) name=some none) (hx:s.heap.get? x=some ⟨.ref C,none,.fields fs,#[]⟩)
  (hq:∀h' tk',h'.get? x=some ⟨.ref C,some s.heap.objs.size,.fields fs,#[]⟩→h'.Ns1 s.heap.objs.size (fun y=>if y=name then some v else none)→(∀b o,b≠x→s.heap.get? b=some o→h'.get? b=some o)→R (.ok (.ret .none)) {s with heap:=h',toks:=tk'}):
  codeAny (model prog w) A (.call (.builtin "object.__setattr__") ⟨[.ref x,.str name tk,v],[]⟩) R s:=by
 have I:InstAt s.heap x ⟨.ref C,none,.fields fs,#[]⟩ C none:=⟨hx,rfl,rfl,True.intro⟩
 have SF:=PySem.F.store_object
 have sub:Looks (model prog w) s.heap (isInstance (.ref x) (.type "object")) true:=I.type.andThen (looks_mroIn X (by unfold mroIn;rw[hc,Option.bind_some,hm,if_neg (by simp)];simp))
 refine codeAny_call_builtin SF.slot.plain SF.entry (@check_slot (model prog w) _ _ s "object.__setattr__" "object" "__setattr__" (.ref x) [.str name tk,v] [] _ SF.kind SF.split sub (SF.args (.ref x) (.str name tk) v) ?_)
 have hmr:Looks (model prog w) s.heap (mroOf (.ref C)) cd.mro:=(looks_clsIn X hc).andThen .now
 rw[osa_eq,refuse_eq]
 refine wpAny_bind (wpAny_bind (I.type.here (wpAny_bind (hmr.here ?_))))
 rw[hm,refuseLoop_ref,refuseLoop_ref,PySem.F.store_ValueError.passes]
 refine wpAny_pure (wpAny_bind (I.type.here (wpAny_bind ((looks_findIn X hn).here (wpAny_bind (wpAny_pure ?_))))))
 show wpAny _ _ (storeInOwnDict (.ref x) (.ref C) (.str name tk) name v _) _ _ _
 unfold storeInOwnDict
 refine wpAny_bind (wpAny_pure (wpAny_bind ?_))
 unfold ownDictForStores instanceDict
 refine wpAny_bind (wpAny_loadPart hx (wpAny_bind ((looks_clsIn X hc).here ?_)))
 rw[hd,if_neg (by decide)]
 show wpAny _ _ (if(!true|| !typeHasDict (.ref C))=true then pure none else(do
        let d←alloc {cls:=Value.type "dict",data:=Data.dict #[]}
        update x fun o=>{cls:=o.cls,dict:=some d,data:=o.data,slots:=o.slots}
        dictMade (.ref C) x d)) _ _ _
 rw[if_neg (by simp[typeHasDict])]
 obtain⟨h,g,d,t,os⟩:=s
 dsimp only at X hx hq I sub hmr⊢
 have hx1:(h.push {cls:= .type "dict",data:= .dict #[]}).get? x=some ⟨.ref C,none,.fields fs,#[]⟩:=Heap.get?_push_of_some _ hx
 have hxs:x≠h.objs.size:=Nat.ne_of_lt (Heap.lt_size hx)
 refine wpAny_bind (wpAny_alloc' ?_)
 refine wpAny_bind (wpAny_update' hx1 ?_)
 refine wpAny_pure ?_
 have hgd:((h.push {cls:= .type "dict",data:= .dict #[]}).update x fun o=>{cls:=o.cls,dict:=some h.objs.size,data:=o.data,slots:=o.slots}).get? h.objs.size
   =some {cls:= .type "dict",data:= .dict #[]}:=
  (Heap.get?_update_ne _ _ _ _ hxs.symm).trans (Heap.get?_push_at rfl rfl)
 have hnd:((h.push {cls:= .type "dict",data:= .dict #[]}).update x fun o=>{cls:=o.cls,dict:=some h.objs.size,data:=o.data,slots:=o.slots}).Ns h.objs.size (fun _=>none):=
  ⟨_,#[],_,hgd,rfl,fun e he=>absurd he (by simp),fun _=>rfl⟩
 show wpAny _ _ (storeInDict h.objs.size (.str name tk) name v) _ _ _
 unfold storeInDict newKeyGuard
 refine wpAny_bind (wpAny_pure (wpAny_bind (wpAny_nsSet1 (Heap.Ns1.of_empty hnd) fun h' hn' hs=> ?_)))
 obtain⟨oD,esD,epD,hoD,hdD,hcD⟩:=hn'.count (Within.cons name v Within.nil)
 refine wpAny_bind (wpAny_lookBehind hoD (by rw[hdD];exact pastItsLine_dict (Nat.le_trans hcD (by rw[List.length_cons,List.length_nil,sizeLine_eq];omega))) ?_)
 refine wpAny_pure (hq h' _ ?_ ?_ fun b ob hbx hb=> ?_)
 ·exact(hs.2 x hxs).trans (Heap.get?_update_self _ hx1 rfl)
 ·obtain⟨o',es,ep,e1,e2,e3,eu,e4⟩:=hn'
  exact⟨o',es,ep,e1,e2,e3,eu,fun y=>by rw[e4 y]⟩
 ·exact(hs.2 b (Nat.ne_of_lt (Heap.lt_size hb))).trans ((Heap.get?_update_ne _ _ _ _ hbx).trans (Heap.get?_push_of_some _ hb))
theorem B6 {E:Value→Shared→Prop} {Q:Unit→Shared→Prop} (X:K.In s.heap) (hc:clsIn K C=some cd) (hm:cd.mro= .ref C:: .ref B::wk) (hd:cd.hasDict=true) (hsa:findIn K (.ref C) "__setattr__"=some (some (.builtin "object.__setattr__"))) (hn:findIn K (.ref C) name=some none) (hx:s.heap.get? x=some ⟨.ref C,none,.fields fs,#[]⟩)
  (hq:∀h' tk',h'.get? x=some ⟨.ref C,some s.heap.objs.size,.fields fs,#[]⟩→h'.Ns1 s.heap.objs.size (fun y=>if y=name then some v else none)→(∀b o,b≠x→s.heap.get? b=some o→h'.get? b=some o)→Q () {s with heap:=h',toks:=tk'}):
  wpAny (model prog w) A (setAttr (.ref x) name v) Q E s:=
 set_plain X (⟨hx,rfl,rfl,True.intro⟩:InstAt s.heap x ⟨.ref C,none,.fields fs,#[]⟩ C none) hsa (Cm (s:={s with toks:=s.toks+1}) X hc hm hd hn hx hq)
end
section
variable {prog:Program} {w:World} {A:Around} {E:Value→Shared→Prop} {h:Heap} {g:Array GenState} {d:Drawn} {t:Nat} {os:OsState}
variable {nm q:Str} {C N:Addr} {bs bm bmB:List Value} {hdct:Bool} {sn:List Str} {sub:List Value} {ab:Bool} {col:Option Bool} {dd:Option Addr} {k0 k1 k2 k3 k5:Option Value} {B newId nid initId:String}
theorem ye (F:ExcBaseFacts B nid initId bmB) (T:OwnTail h bmB bm) {e:Addr} {fs:Array Value} {t0:Addr} {rest:List Value} {Q:Value→Shared→Prop}
  (hC:h.get? C=some (excClassObj nm q C N bs bm hdct sn sub ab col dd k0 k1 k2 k3 k5 newId)) (he:h.get? e=some ⟨.ref C,none,.fields fs,#[]⟩) (h0:fs[0]? =some (.ref t0))
  (hq:∀h' fs',h'.get? e=some ⟨.ref C,none,.fields fs',#[]⟩→fs'[0]? =some (.ref h.objs.size)→(∀i,i≠0→fs'[i]? =fs[i]?)→(∀b o,b≠e→h.get? b=some o→h'.get? b=some o)→Q .none ⟨h',g,d,t,os⟩) (hrest:rest.length≤sizeLine):
  wpAny (model prog w) A (call (.builtin initId) (.ref e::rest)) Q E ⟨h,g,d,t,os⟩:=by
 refine wpAny_call (codeAny_call_builtin F.init.plain F.initEntry (wpAny_check_init_subU F T hC he rfl ?_))
 unfold Builtin.«BaseException.__init__»
 dsimp only
 rw[if_neg (by simp)]
 unfold newTuple Builtin.BaseException.bexcPut
 have hsz:0<fs.size:=(Array.getElem?_eq_some_iff.mp h0).1
 have he1:(h.push {cls:= .type "tuple",data:= .seq rest.toArray}).get? e=some ⟨.ref C,none,.fields fs,#[]⟩:=Heap.get?_push_of_some _ he
 refine wpAny_bind (wpAny_newObj_type (wpAny_bind (wpAny_bind (wpAny_field he1 rfl h0 (wpAny_bind (wpAny_setField he1 rfl hsz ?_))))) (by show rest.toArray.size≤sizeLine;rw[List.size_toArray];exact hrest))
 refine wpAny_letGo (wpAny_pure (hq _ (fs.setIfInBounds 0 (.ref h.objs.size)) ?_ (by simp[hsz]) (fun i hi=>by rw[Array.getElem?_setIfInBounds_ne (Ne.symm hi)]) fun b o hb z=> ?_))
 ·exact Heap.get?_update_self (Obj.mapFields (·.setIfInBounds 0 (.ref h.objs.size))) he1 rfl
 ·exact(Heap.get?_update_other _ _ (Ne.symm hb)).trans (Heap.get?_push_of_some _ z)
end
end L9
namespace L9
open PySem PySem.Spec PyProof.Rows L2
noncomputable def El (v:V):Prop:=v= .non∨∃i:Int,v= .int i∧i.natAbs.log2<1920
theorem Bu {i:Int} (h:i.natAbs.log2<1920):(Str.ofString (toString i)).length≤5000:=by
 have e:=int_text_length_le (k:=1920) (by decide) h
 rw[PySem.ofString_length]
 omega
theorem DB {X:Cx} {pins:List (Addr×Obj)} {σ:L2.St} {H:Hp} {s:Shared} {v:V} {u:Value} {Q:Value→Shared→Prop} {E:Value→Shared→Prop} {A:Around} (I:Inv X pins σ H s) (r:RelV v u) (f:El v)
  (h:∀(y:Str) (t:Tok) (s':Shared),y.length≤5000→Inv X pins σ H s'→Q (.str y t) s'):wpAny (model X.prog X.w) A (formatField u Str.empty) Q E s:=by
 rcases f with rfl|⟨i,rfl,hi⟩
 ·obtain rfl:u= .none:=r
  exact wpAny_formatField_none (h _ _ _ (by decide) (I.tok _))
 ·obtain⟨t,rfl⟩:=r
  exact formatField_int_small hi (h _ _ _ (Bu hi) (I.tok _))
noncomputable def PJ (X:Cx) (es:List Expr) (n:Nat) (t:L2.St→Hp→(Hp→Prop)→Prop):Prop:=
 ∀(pins:List (Addr×Obj)) (s:Shared) (σ:L2.St) (H:Hp) (out:Str) (Q:Hp→Prop),Inv X pins σ H s→out.length+n≤1000000→t σ H Q→
  wpAny (model X.prog X.w) X.A (joinParts out (evalEach es X.env)) (fun v s'=>∃(y:Str) (tk:Tok) (H':Hp),v= .str y tk∧Inv X pins σ H' s'∧Q H') X.xe s
section
variable {X:Cx} {e:Expr} {es:List Expr} {n:Nat} {te:TE} {t:L2.St→Hp→(Hp→Prop)→Prop} {pos:Pos}
theorem zY:PJ X [] 0 (fun _ H Q=>Q H):=by
 intro pins s σ H out Q I hl h
 exact joinParts_nil ⟨_,_,H,rfl,I.tok _,h⟩ (by rw[sizeLine_eq];omega)
theorem vo {x:Str} {k:Nat} (hx:x.length≤5000) (hr:PJ X es n t):PJ X (.Constant (.str x) k pos::es) (n+5000) t:=by
 intro pins s σ H out Q I hl h
 refine joinParts_consE (joinParts_cons (Calls.Constant_str ?_))
 have e:=strLen_append out x
 exact⟨by rw[sizeLine_eq];omega,hr pins _ σ H (out++x) Q (I.tok _) (by omega) h⟩
theorem vm (he:PE X e te) (hr:PJ X es n t):PJ X (.FormattedValue e (-1) none pos::es) (n+5000) (fun σ H Q=>te σ H fun v H1=>El v∧t σ H1 Q):=by
 intro pins s σ H out Q I hl h
 refine joinParts_consE (joinParts_cons (FormattedValue_plain (eJ (he pins s σ H _ I h) fun u s1 ⟨v,H1,I1,r,f,q⟩=> ?_)))
 refine DB I1 r f fun y tk s' hy I'=> ?_
 have e:=strLen_append out y
 exact⟨by rw[sizeLine_eq];omega,hr pins _ σ H1 (out++y) Q I' (by omega) q⟩
theorem wX {e1 e2:Expr} {t:L2.St→Hp→(Hp→Prop)→Prop} (h:PJ X (e1::e2::es) n t) (hn:n≤900000):PE X (.JoinedStr (e1::e2::es) pos) (fun σ H Q=>t σ H fun H1=>∀y:Str,Q (.str y) H1):=by
 intro pins s σ H Q I hw
 refine JoinedStr_many (eJ (h pins s σ H Str.empty _ I (by show 0+n≤1000000;omega) hw) fun v s1 ⟨y,tk,H1,hv,I1,q⟩=> ?_)
 subst hv
 exact⟨.str y,H1,I1,⟨_,rfl⟩,q y⟩
end
end L9
namespace L9
open PySem PySem.Spec PyProof.Rows L2
noncomputable def BP (C e:Addr):Heap→Prop:=fun h=>∃fs t0,h.get? e=some ⟨.ref C,none,.fields fs,#[]⟩∧fs[0]? =some (.ref t0)∧fs[1]? =some .none
noncomputable def CS (C e p:Addr):Heap→Prop:=fun h=>∃fs a0,h.get? e=some ⟨.ref C,some p,.fields fs,#[]⟩∧fs[0]? =some a0∧fs[1]? =some .none
structure XC (K:PySem.W.Frag) (C B fI:Addr):Prop where
 obj:∃nm q N bs sn sub ab col dd k0 k1 k2 k3 k5,K.lookup C=some (excClassObj nm q C N bs (.ref B::wk) true sn sub ab col dd k0 k1 k2 k3 k5 "ValueError.__new__")∧PySem.W.nsOkIn K N=true∧PySem.W.nsIn K N "__init__"=some (some (.ref fI))
 base:PySem.W.excIn K B wk "ValueError.__new__"=true
 sa:PySem.W.findIn K (.ref C) "__setattr__"=some (some (.builtin "object.__setattr__"))
theorem tU {K:PySem.W.Frag} {B:Addr} {n:String} (q:PySem.W.excIn K B wk n=true):PySem.W.tailIn K wk (.ref B::wk)=true:=by
 unfold PySem.W.excIn at q
 split at q
 ·rename_i dd cd sl ho
  split at q
  ·simp only[Bool.and_eq_true,beq_iff_eq,Bool.not_eq_true'] at q
   obtain⟨⟨⟨⟨⟨_,_⟩,_⟩,_⟩,hok⟩,hni⟩:=q
   unfold PySem.W.tailIn
   dsimp only
   rw[ho]
   dsimp only
   rw[hok,hni,show PySem.W.tailIn K wk wk=true from by unfold PySem.W.tailIn;rw[beq_self_eq_true,Bool.true_or],beq_self_eq_true,Bool.and_self,Bool.and_self,Bool.or_true]
  ·cases q
 ·cases q
section
variable {X:Cx} {B C fI:Addr} {pos p1 p2:Pos} {a1:Expr} {as:List Expr} {t:TA} {b:Str}
theorem yH {H:Hp} {a:Addr} {o:HO} (h:H a=some o):cU H a o=H:=by
 funext c
 by_cases z:c=a
 ·rw[z,bj,h]
 ·rw[aK z]
noncomputable def ER (C:Addr) (t:TA):TE:=fun σ H Q=>t σ H fun vs H1=>∃e y,vs=[.ref e,.str y]∧H1 e=some (.ext (BP C e))∧Q .non H1
theorem uG {pl:Sem Bool} (hg:Gl X b) (hm:X.mg b=some (.ref B)) (hr:PySem.W.readsIn X.K B (.type "type")=true) (hf:PySem.W.findCls X.K (.ref B) (.type "type") "__init__"=some (.val (.builtin "ValueError.__init__")))
  (hs:PySem.W.specialIn X.K (.ref B) "__getattribute__"=some (some (.builtin "type.__getattribute__"))) (hC:XC X.K C B fI) (ha:PA X (a1::as) t)
  (hst:starEach (a1::as) X.env=(false,eval a1 X.env)::starEach as X.env:=by rfl) (hpl:(backTo pos (starEach as X.env)).any (·.1)=false:=by rfl) (hdb:(b==("__debug__":Str))=false:=by decide)
  (ht:eval (.Call (.Attribute (.Name b p1) "__init__" p2) (a1::as) [] pos) X.env=(do
   let ov←eval (.Name b p1) X.env
   standAt p2.atName
   let(f,first)←holding [ov] (getMethod ov "__init__" pl)
   callWith pos f first (backTo pos (starEach (a1::as) X.env)) (backToKw pos (keywordEach [] X.env))):=by rfl):
  PE X (.Call (.Attribute (.Name b p1) "__init__" p2) (a1::as) [] pos) (ER C t):=by
 intro pins s σ H Q I h
 refine PySem.W.methodCall_KW (pl:=pl) (lW I hg hm ?_ hdb) ht
 refine PySem.W.method_cls I.kIn hs (PySem.W.cls_value I.kIn hr hf (by decide) ?_)
 have hA:=ha pos pins {s with toks:=s.toks+1} σ H _ (I.tok _) h
 rw[hst] at hA⊢
 refine Calls.callWith_builtin (by show(false||(backTo pos (starEach as X.env)).any (·.1))=false;rw[hpl]<;>rfl) (Calls.evalArgs_plain (eJ hA fun us s2 ⟨vs,H2,I2,r,e,y,ev,hE,q⟩=> ?_))
 subst ev
 obtain⟨u1,u2,rfl,r1,r2⟩:=pX r
 obtain rfl:u1= .ref e:=r1
 obtain⟨tk,rfl⟩:=r2
 obtain⟨⟨fs,t0,g1,g2,g3⟩,_,gk⟩:=(show ObjOk X.prog X.w H2 s2.heap e (.ext (BP C e)) from I2.hok e _ hE)
 obtain⟨nm,q',N,bs,sn,sub,ab,col,dd,k0,k1,k2,k3,k5,lk,hok,hin⟩:=hC.obj
 have T:=PySem.W.tail_of_in I2.kIn (tU hC.base)
 obtain⟨h2,g,d,tk2,os⟩:=s2
 refine ye PySem.F.excBase_ValueError T (I2.kIn _ _ lk) g1 g2 (fun h' fs' e1 e2 e3 e4=> ?_) (by show 1≤sizeLine;decide)
 refine⟨.non,H2,?_,rfl,q⟩
 have w:=I2.write (x:=e) (e:=e) (o:= .ext (BP C e)) (h':=h') (t':=tk2) (by rw[hE];exact True.intro) (.inl rfl) (fun b u hb z=>e4 b u hb z) ⟨_,e1⟩ ⟨⟨fs',_,e1,e2,by rw[e3 1 (by decide)];exact g3⟩,⟨_,e1⟩,fun h1 h2 ⟨f1,t1,z1,z2,z3⟩ hk=>⟨f1,t1,hk _ z1,z2,z3⟩⟩
 rw[yH hE] at w
 exact w
noncomputable def Gc (C:Addr) (f:Str) (ta tv:TE):TS:=fun D σ H=>tv σ H fun v H1=>ta σ H1 fun x H2=>∃e,x= .ref e∧H2 e=some (.ext (BP C e))∧∀p,H2 p=none→p≠e→D.nx σ (cU (cU H2 e (.ext (CS C e p))) p (.xd [(f,v)]))
theorem wN {o value:Expr} {f:Str} {ta tv:TE} {pos':Pos} (hC:XC X.K C B fI) (hn:PySem.W.findIn X.K (.ref C) f=some none) (ha:PE X o ta) (hv:PE X value tv) (hs:swapsWith value (some (.Attribute o f pos')) pos.line X.env=pure false):PS X (.Assign [.Attribute o f pos'] value pos) (Gc C f ta tv):=by
 intro pins s σ H D I h
 refine plainObj_wpAny_Assign_Attribute (eJ (hv pins s σ H _ I h) fun u s1 ⟨v,H1,I1,rv,q⟩=>eJ (ha pins s1 σ H1 _ I1 q) fun ov s2 ⟨x,H2,I2,rx,e,ex,hE,q2⟩=> ?_) hs
 subst ex
 obtain rfl:ov=Value.ref e:=rx
 obtain⟨⟨fs,t0,g1,g2,g3⟩,_,gk⟩:=(show ObjOk X.prog X.w H2 s2.heap e (.ext (BP C e)) from I2.hok e _ hE)
 obtain⟨nm,q',N,bs,sn,sub,ab,col,dd,k0,k1,k2,k3,k5,lk,hok,hin⟩:=hC.obj
 obtain⟨cd,hc,hmr,hdc⟩:∃cd,PySem.W.clsIn X.K C=some cd∧cd.mro= .ref C:: .ref B::wk∧cd.hasDict=true:=by
  unfold PySem.W.clsIn
  rw[lk]
  exact⟨_,rfl,rfl,rfl⟩
 refine B6 I2.kIn hc hmr hdc hC.sa hn g1 fun h' tk' e1 e2 e3=> ?_
 have pe:s2.heap.objs.size≠e:=Nat.ne_of_gt (Heap.lt_size g1)
 have pn:H2 s2.heap.objs.size=none:=I2.hok.fresh (Nat.le_refl _)
 refine⟨σ,_,?_,q2 s2.heap.objs.size pn pe⟩
 have there:∀b o,s2.heap.get? b=some o→b≠s2.heap.objs.size:=fun b o z=>Nat.ne_of_lt (Heap.lt_size z)
 refine I2.un (h':=h') (t':=tk') (H':=cU (cU H2 e (.ext (CS C e s2.heap.objs.size))) s2.heap.objs.size (.xd [(f,v)])) ⟨fun b o z n _ _=>e3 b o (fun y=>by rw[y,hE] at n;cases n) z,fun b o z n _ _=>⟨o.slots,e3 b o (fun y=>by rw[y,hE] at n;cases n) z⟩,fun b o z n _=> ?_,fun b o z _=> ?_,fun b xs z=> ?_,fun b o u z=> ?_,fun b ps z=>⟨#[],?_⟩⟩ ?_
 ·rw[aK (there b o z),aK (fun y=>by rw[y,hE] at n;cases n)]
  exact n
 ·by_cases y:b=e
  ·subst y
   exact⟨_,e1⟩
  ·exact⟨o,e3 b o y z⟩
 ·rw[aK (fun y=>by rw[y,pn] at z;cases z),aK (fun y=>by rw[y,hE] at z;cases z)]
  exact z
 ·rw[aK (fun y=>by rw[y,pn] at z;cases z),aK (fun y=>by rw[y,hE] at z;cases z)]
  exact z
 ·rw[aK (fun y=>by rw[y,pn] at z;cases z),aK (fun y=>by rw[y,hE] at z;cases z),z]
  simp
 ·intro a o z
  by_cases ya:a=s2.heap.objs.size
  ·subst ya
   rw[bj] at z
   cases z
   refine⟨_,e2,fun g=> ?_⟩
   show RelO (match g==f with|true=>some v|false=>List.lookup g []) (if g=f then some u else none)
   cases hb:g==f with
   |true=>rw[if_pos (beq_iff_eq.mp hb)];exact rv
   |false=>rw[if_neg (fun w=>by rw[beq_iff_eq.mpr w] at hb;cases hb)];exact True.intro
  ·rw[aK ya] at z
   by_cases yb:a=e
   ·subst yb
    rw[bj] at z
    cases z
    exact⟨⟨fs,_,e1,g2,g3⟩,⟨_,e1⟩,fun h1 h2 ⟨f1,t1,z1,z2,z3⟩ hk=>⟨f1,t1,hk _ z1,z2,z3⟩⟩
   ·rw[aK yb] at z
    have own:∀b,H2 b=some (.own a)→b≠e∧b≠s2.heap.objs.size:=fun b y=>⟨(fun k=>by rw[k,hE] at y;cases y),(fun k=>by rw[k,pn] at y;cases y)⟩
    refine(I2.hok a o z).stay (fun b w hb y=>e3 b w (fun k=> ?_) y) (fun b y=>by rw[aK (own b y).2,aK (own b y).1];exact y) fun b xs y=>by rw[aK (fun k=>by rw[k,pn] at y;cases y),aK (fun k=>by rw[k,hE] at y;cases y)];exact y
    rcases hb with hb|hb
    ·exact yb (hb.symm.trans k)
    ·exact(own b hb).1 k
end
end L9
namespace L9
open PySem PySem.Spec PyProof.Rows L2 L4
noncomputable def F6 (H:Hp) (e:Addr):Hp:=fun a=>if a=e then none else H a
theorem oX {H:Hp} {e:Addr}:F6 H e e=none:=if_pos rfl
theorem iE {H:Hp} {e a:Addr} (h:a≠e):F6 H e a=H a:=if_neg h
theorem uS {K:PySem.W.Frag} {h:Heap} {N:Addr} {mg:Str→Option Value} {n:Str} {v:Value} (X:K.In h) (G:h.Ns N mg) (e:PySem.W.nsIn K N n=some (some v)):mg n=some v:=by
 obtain⟨o,es,ep,ho,hd,_,hf⟩:=G
 unfold PySem.W.nsIn at e
 split at e
 ·rename_i es' ep' sl' ho'
  have:=(X _ _ ho').symm.trans ho
  cases this
  cases hd
  split at e
  ·rename_i en he
   cases e
   rw[←hf]
   unfold nsFind findBy
   rw[←Array.find?_toList,he]
   rfl
  ·split at e<;>cases e
 ·cases e
theorem DT {K:PySem.W.Frag} {f:Addr} {o:Obj} (i:PySem.W.isFn K (.ref f)=true) (l:K.lookup f=some o):o.cls= .type "function":=by
 unfold PySem.W.isFn PySem.W.typeIn at i
 dsimp only at i
 rw[l] at i
 exact Option.some.inj (beq_iff_eq.mp i)
section
variable {X:Cx} {pins:List (Addr×Obj)} {σ:L2.St} {H:Hp} {s:Shared} {h':Heap} {e:Addr} {o:HO}
theorem BK {t':Nat} (I:L2.Inv X pins σ H s) (k:∀b u,s.heap.get? b=some u→h'.get? b=some u) (n:s.heap.get? e=none) (new:ObjOk X.prog X.w (cU H e o) h' e o):L2.Inv X pins σ (cU H e o) {s with heap:=h',toks:=t'}:=by
 have hn:=uv I.hok n
 have ne:∀b u,s.heap.get? b=some u→b≠e:=fun b u z y=>by rw[y,n] at z;cases z
 refine I.un ⟨fun b u z _ _ _=>k b u z,fun b u z _ _ _=>⟨u.slots,k b u z⟩,fun b u z q _=>by rw[aK (ne b u z)];exact q,fun b u z _=>⟨u,k b u z⟩,fun b xs z=> ?_,fun b u v z=> ?_,fun b ps z=>⟨#[],?_⟩⟩ ?_
 ·rw[aK (fun y=>by rw[y,hn] at z;cases z)];exact z
 ·rw[aK (fun y=>by rw[y,hn] at z;cases z)];exact z
 ·rw[aK (fun y=>by rw[y,hn] at z;cases z),z];simp
 ·intro a u z
  by_cases y:a=e
  ·subst y
   rw[bj] at z
   cases z
   exact new
  ·rw[aK y] at z
   refine(I.hok a u z).stay (fun b w _ q=>k b w q) (fun b q=>by rw[aK (fun w=>by rw[w,hn] at q;cases q)];exact q) fun b xs q=>by rw[aK (fun w=>by rw[w,hn] at q;cases q)];exact q
theorem BB {φ:Heap→Prop} (I:L2.Inv X pins σ H s) (hE:H e=some (.ext φ)):L2.Inv X pins σ (F6 H e) s:=by
 have:=I.un (h':=s.heap) (t':=s.toks) (H':=F6 H e) ⟨fun b u z _ _ _=>z,fun b u z _ _ _=>⟨u.slots,z⟩,fun b u z q _=> ?_,fun b u z _=>⟨u,z⟩,fun b xs z=> ?_,fun b u v z=> ?_,fun b ps z=>⟨#[],?_⟩⟩ ?_
 ·exact this
 ·by_cases y:b=e
  ·rw[y];exact oX
  ·rw[iE y];exact q
 ·rw[iE (fun y=>by rw[y,hE] at z;cases z)];exact z
 ·rw[iE (fun y=>by rw[y,hE] at z;cases z)];exact z
 ·rw[iE (fun y=>by rw[y,hE] at z;cases z),z];simp
 ·intro a u z
  have y:a≠e:=fun y=>by rw[y,oX] at z;cases z
  rw[iE y] at z
  exact(I.hok a u z).stay (fun b w _ q=>q) (fun b q=>by rw[iE (fun w=>by rw[w,hE] at q;cases q)];exact q) fun b xs q=>by rw[iE (fun w=>by rw[w,hE] at q;cases q)];exact q
end
noncomputable def sX (C:Addr) (sp:Sp) (E:XK) (ta:TA):TS:=fun _ σ H=>ta σ H fun vs H1=>vs.length≤sizeLine∧∀e,H1 e=none→sp (.ref e::(vs++[])) (cU H1 e (.ext (BP C e))) (fun v H2=>v= .non∧∃p,H2 e=some (.ext (CS C e p))∧E (.ref C) (some p) (F6 H2 e)) E0
theorem ii {P:Program} {w:World} {K:PySem.W.Frag} {mg:Str→Option Value} {base:Heap} {N:List Str} {qual:Str} {scope:Scope} {f:Addr} {cd:Value} {A:Around} {outer:List Env} {s0:Shared} {H0:Hp} {E:XK}
  {C B fI:Addr} {fdI:FuncData} {oI:Obj} {k:Nat} {ps:List Str} {sp:Sp} {x:Str} {e0:Expr} {es:List Expr} {np cpos pos:Pos} {ta:TA} (hC:XC K C B fI) (lI:K.lookup fI=some oI) (iI:PySem.W.isFn K (.ref fI)=true) (FI:FnOk P w K mg base gX k fI fdI ps sp) (bI:Binds K fdI ps [])
  (hr:Room (k+1) (fJ (nJ P w) P w K mg base N qual scope f cd A outer s0 H0 E).A)
  (hg:Gl (fJ (nJ P w) P w K mg base N qual scope f cd A outer s0 H0 E) x) (hm:mg x=some (.ref C)) (ha:PA (fJ (nJ P w) P w K mg base N qual scope f cd A outer s0 H0 E) (e0::es) ta)
  (hdb:(x==("__debug__":Str))=false:=by decide)
  (he:starEach (e0::es) (fJ (nJ P w) P w K mg base N qual scope f cd A outer s0 H0 E).env=(false,eval e0 (fJ (nJ P w) P w K mg base N qual scope f cd A outer s0 H0 E).env)::starEach es (fJ (nJ P w) P w K mg base N qual scope f cd A outer s0 H0 E).env:=by rfl)
  (hpl:(backTo cpos (starEach es (fJ (nJ P w) P w K mg base N qual scope f cd A outer s0 H0 E).env)).any (·.1)=false:=by rfl):
  PS (fJ (nJ P w) P w K mg base N qual scope f cd A outer s0 H0 E) (.Raise (some (.Call (.Name x np) (e0::es) [] cpos)) none pos) (sX C sp E ta):=by
 intro pins s σ H D I h
 obtain⟨nm,qn,Nn,bs,sn,sub,ab,col,dd,k0,k1,k2,k3,k5,lk,hok,hin⟩:=hC.obj
 have kin:=I.ok.mod.kin
 have oC:=kin _ _ lk
 have oN:(fJ (nJ P w) P w K mg base N qual scope f cd A outer s0 H0 E).base.Ns Nn _:=Heap.Ns.of_isNs (PySem.W.isNs_of_in kin hok)
 have ni:=uS kin oN hin
 have oF:=kin _ _ lI
 have T:=PySem.W.tail_of_in kin (tU hC.base)
 refine uq (C:=C) (nm:=nm) (q:=qn) (N:=Nn) (bs:=bs) (bm:= .ref B::wk) (hdct:=true) (sn:=sn) (sub:=sub) (ab:=ab) (col:=col) (dd:=dd) (k0:=k0) (k1:=k1) (k2:=k2) (k3:=k3) (k5:=k5) (newId:= "ValueError.__new__") PySem.F.excBase_ValueError (by decide+kernel) PySem.F.excBase_ValueError (oI:=oI) (T.hasType PySem.F.excBase_ValueError.hasBase) (I.ok.hd rfl)
  (by rw[he];exact(Bool.false_or _).trans hpl) ni (DT iI lI) (lW I hg hm ⟨rfl,?_⟩ hdb)
 have go:=ha cpos pins s σ H _ I h
 rw[he] at go⊢
 refine Calls.evalArgs_plain (eJ go fun us s1 ⟨vs,H1,I1,r,hl,q⟩=> ?_)
 refine⟨rfl,by rw[←r.length];exact hl,I1.bk _ _ oC,oN.keeps I1.bk,I1.bk _ _ oF,T.keeps I1.bk,fun h' e mk=> ?_⟩
 obtain⟨t,y,y2,y3⟩:=mk.there
 have hn:=uv I1.hok mk.new
 have hq:=q e hn
 have I2:=BK (t':=s1.toks) (o:= .ext (BP C e)) I1 mk.keeps mk.new ⟨⟨_,t,y,rfl,rfl⟩,⟨_,y⟩,fun h1 h2 ⟨f1,t1,z1,z2,z3⟩ hk=>⟨f1,t1,hk _ z1,z2,z3⟩⟩
 have r2:Vals (V.ref e::(vs++[])) (Value.ref e::(us++[])):= .cons rfl (r.append .nil)
 have hlen:(Value.ref e::us++[]).length=ps.length:=by
  have z:=r2.length
  rw[FI.len _ _ _ _ hq] at z
  exact z.symm
 have old:s0.heap.get? e=none:=by
  cases z:s0.heap.get? e with
  |none=>rfl
  |some o=>
   obtain⟨o',y'⟩:=I1.base.there e o z (fun y=>nomatch y)
   rw[mk.new] at y'
   cases y'
 have bi:=bI {heap:=h',gens:=s1.gens,drawn:=s1.drawn,toks:=s1.toks,os:=s1.os} (Value.ref e::us) I2.kIn hlen
 rw[List.cons_append] at bi
 refine wpAny_call (codeAny_mono (FI.run _ (fJ (nJ P w) P w K mg base N qual scope f cd A outer s0 H0 E).stack _ _ ⟨Value.ref e::us,[]⟩ (Value.ref e::(us++[])) _ _ E0 (hr.make C us []) (I2.env0.make C us []) bi r2 hq) fun r s' hq'=> ?_)
 cases r with
 |error e=>exact hq'.elim
 |ok fl=>
  cases fl with
  |ret u=>
   obtain⟨v,H',I3,rv,ev,p,hE,q3⟩:=I2.after hq'
   subst ev
   obtain⟨⟨fs,a0,g1,g2,g3⟩,_,_⟩:=(show ObjOk _ _ H' s'.heap e (.ext (CS C e p)) from I3.hok e _ hE)
   refine⟨rv,_,I3.kIn _ _ lk,g1,rfl,⟨fs,rfl,g3⟩,?_⟩
   exact C3 (hd:=none) (a0:=a0) (BB I3 hE) ⟨_,_,g1,rfl,rfl,rfl,g2,g3⟩ old (fun T z=>nomatch z) oX (fun T z=>nomatch z) q3
  |next=>exact False.elim hq'
  |brk=>exact False.elim hq'
  |cont=>exact False.elim hq'
end L9
namespace L9
open PySem PySem.Spec PySem.W PyProof.Rows L2 L3 L4
section
variable {prog:Program} {w:World} {A:Around} {E:Value→Shared→Prop} {h:Heap} {g:Array GenState} {d:Drawn} {t:Nat} {os:OsState} {a C:Addr} {o:Obj} {K:PySem.W.Frag} {od:Option Obj} {name:Str} {v:Value}
  {n1 q1:Str} {N1:Addr} {b1 m1:List Value} {d1:Bool} {s1:List Str} {u1:List Value} {a1:Bool} {c1:Option Bool} {x1:Option Addr} {i0 i1 i2 i3 i5:Option Value} {id1:String}
theorem vU {tk:Tok} {Q:Fin→Shared→Prop} (X:K.In h) (I:PySem.W.InstAt h a o C od) (hf:findObj K C od name=some (.value v))
  (k:Q (.done (.ret v)) ⟨h,g,d,t,os⟩):wpAny (model prog w) A (Builtin.«object.__getattribute__» ⟨[.ref a,.str name tk],[]⟩) Q E ⟨h,g,d,t,os⟩:=by
 have L0:=I.type (M:=model prog w)
 have L1:=looks_find (M:=model prog w) X I hf
 refine wpAny_bind (wpAny_pure (wpAny_bind (wpAny_pure (wpAny_bind (L0.at (wpAny_bind (L1.at ?_)))))))
 exact wpAny_pure k
theorem yd {expr:Bool} {Q:Value→Shared→Prop} (X:K.In h) (I:PySem.W.InstAt h a o C od) (hC:h.get? C=some (excClassObj n1 q1 C N1 b1 m1 d1 s1 u1 a1 c1 x1 i0 i1 i2 i3 i5 id1)) (hb:m1.contains (.type "BaseException")=true)
  (l1:findIn K (.ref C) "__getattribute__"=some (some (.builtin "BaseException.__getattribute__"))) (l2:findIn K (.ref C) "__getattr__"=some none) (hf:findObj K C od name=some (.value v)) (hh:handedIn v=true)
  (k:Q v ⟨h,g,d,t+1,os⟩):wpAny (model prog w) A (getAttr (.ref a) name expr) Q E ⟨h,g,d,t,os⟩:=by
 have f3:=PySem.F.attrBase_ValueError.ga.bind (.ref a)
 have z2:(Value.builtin "BaseException.__getattribute__"==Value.builtin "object.__getattribute__")=false:=by decide+kernel
 have z1:(onTheHeap (Value.ref C)&&Value.builtin "BaseException.__getattribute__"==Value.builtin "object.__getattribute__")=false:=by rw[z2];rfl
 have L0:=I.type (M:=model prog w)
 have L1:=looks_findIn (M:=model prog w) X l1
 have L2:=looks_findIn (M:=model prog w) X l2
 unfold getAttr getAttrBy
 repeat (any_goals (first|assumption|with_reducible refine L0.at ?_|with_reducible refine L1.at ?_|with_reducible refine L2.at ?_|wp_step))
 rw[show(expr&&onTheHeap (Value.builtin "BaseException.__getattribute__"))=false from by cases expr<;>rfl,if_neg Bool.false_ne_true]
 unfold boundAndCalled
 repeat (any_goals (first|assumption|wp_step))
 refine codeAny_call_builtin PySem.F.attrBase_ValueError.ga.plain F.entry_bexc_ga (on hC hb I.at_ I.cls (vU X I hf ?_))
 have hv:=handedOut_of hh
 show wpAny _ _ (handedOut v) _ _ _
 rw[hv]
 exact wpAny_pure k
end
noncomputable def wv (K:PySem.W.Frag) (ta:TE) (f:Str):TE:=fun σ H Q=>ta σ H fun x H1=>∃e ob C m p fs v,x= .ref e∧H1 e=some (.frz ob (.own e))∧ob.cls= .ref C∧ob.dict=some p∧notCls ob=true∧ExLook K C m∧hasDictIn K C=true∧findIn K (.ref C) f=some none∧
 H1 p=some (.xd fs)∧fs.lookup f=some v∧Q v H1
theorem sL {X:Cx} {o:Expr} {f:Str} {ta:TE} {pos:Pos} (he:PE X o ta) (hb:attributeBase o f X.env (eval o X.env)=eval o X.env):PE X (.Attribute o f pos) (wv X.K ta f):=by
 intro pins s σ H Q I h
 refine Bg hb (eJ (he pins s σ H _ I h) fun u s1 ⟨x,H1,I1,rx,e,ob,C,m,p,fs,v,ex,ea,hc,hd,hn,L,hh,ha,hp,l,q⟩=> ?_)
 subst ex
 obtain rfl:u=Value.ref e:=rx
 have z:s1.heap.get? e=some ob:=(I1.hok e _ ea).1
 obtain⟨mA,ns,rel⟩:=(show ObjOk X.prog X.w H1 s1.heap p (.xd fs) from I1.hok p _ hp)
 obtain⟨u',hu,ru⟩:=RelO.some_of (v:=v) (o:=mA f) (by rw[←l];exact rel f)
 obtain⟨od,ho,hl⟩:=x8 ns
 obtain⟨_,_,_,_,_,_,_,_,_,_,_,_,_,_,_,_,kC⟩:=L.cl
 obtain⟨hp',g,d,t,os⟩:=s1
 exact yd I1.kIn (⟨z,hc,hn,by rw[hd];exact ho⟩:PySem.W.InstAt hp' e ob C (some od)) (I1.kIn _ _ kC) L.be L.ga L.gt (findObj_own hh ha rfl (by rw[hl,hu])) (yw ru) ⟨v,H1,I1.tok _,ru,q⟩
noncomputable def ti (C:Addr) (f:Str):Sp:=fun vs H Q _=>∃e v,vs=[.ref e,v]∧El v∧H e=some (.ext (BP C e))∧∀p,H p=none→p≠e→Q .non (cU (cU H e (.ext (CS C e p))) p (.xd [(f,v)]))
noncomputable def pP:D→Bool
 | .none=>true
 | .int i=>decide (i.natAbs.log2<1920)
 |_=>false
noncomputable def kh (c f:Str) (fe:FE):FS:=fun ρ=>(fe ρ).bind fun a=>(Res.ofO (kF a.2 a.1)).bind fun d=>if pP d=true then .er ⟨c,[(f,d)]⟩ else .bad
theorem qu {K:PySem.W.Frag} {E:XK} {c f:Str} {C:Addr} {te:TE} {fe:FE} (hc:PySem.W.nsIn K mainGlobals c=some (some (.ref C))) (he:EO K E te fe):SO K E (sX C (ti C f) E (lD te vy)) (kh c f fe):=by
 intro B H0 O σ H ρ D R w
 refine he B H0 O σ H ρ _ R (w.bind.imp fun a w1 O1 v H1 e1 R1 p1=> ?_)
 obtain⟨d,qd,w1⟩:=w1.ofO
 have dx:=ip R1 p1 qd
 by_cases hf:pP d=true
 ·rw[if_pos hf] at w1
  have key:El v∧∀(O':dw) (H':Hp),DV O' K H' v d:=by
   cases d with
   |none=>cases dx;exact⟨.inl rfl,fun _ _=> .non⟩
   |int i=>cases dx;exact⟨.inr ⟨i,rfl,of_decide_eq_true hf⟩,fun _ _=> .int i⟩
   |_=>cases hf
  refine⟨by show 1≤sizeLine;decide,fun e hn=>⟨e,v,rfl,key.1,bj,fun p hp hpe=>⟨rfl,p,?_,?_⟩⟩⟩
  ·rw[aK (Ne.symm hpe),bj]
  ·have hp1:H1 p=none:=by rw[aK hpe] at hp;exact hp
   refine w1 (.ref C) (some p) _ (fun b o z=> ?_) ⟨⟨C,rfl,hc⟩,[(f,v)],fun p' q=> ?_,fun f' d' l=>⟨(fun z=>nomatch z),?_⟩⟩
   ·have z1:=R1.same b o z
    have n1:b≠e:=fun y=>by rw[y,hn] at z1;cases z1
    have n2:b≠p:=fun y=>by rw[y,hp1] at z1;cases z1
    rw[iE n1,aK n2,aK n1,aK n1]
    exact z1
   ·cases q
    rw[iE hpe,bj]
   ·have l':(match f'==f with|true=>some d|false=>List.lookup f' [])=some d':=l
    cases hb:f'==f with
    |true=>
     rw[hb] at l'
     cases l'
     refine⟨v,?_,key.2 _ _⟩
     show(match f'==f with|true=>some v|false=>List.lookup f' [])=some v
     rw[hb]
    |false=>rw[hb] at l';cases l'
 ·rw[if_neg hf] at w1
  exact w1.elim
end L9
namespace L3
open PySem PySem.Spec PyProof.Rows L2
mutual
noncomputable def HK:PyData→Bool
 | .tuple ds=>EY ds
 | .int _=>true
 | .str _=>true
 | .bool _=>true
 | .none=>true
 |_=>false
noncomputable def EY:List PyData→Bool
 |[]=>true
 |d::r=>HK d&&EY r
end
section
variable {K:PySem.W.Frag} {E:XK} {B:dw} {H0:Hp} {O B':dw} {σ:L2.St} {H H':Hp} {ρ:bb}
theorem Ba {a:Addr} {xs ys:List V} (h:SqT K H a xs) (l:H a=some (.lst ys)):SqT K (fun _=>none) a xs:=by
 rcases h with(h|⟨o,h⟩)|h
 ·rw[l] at h;cases h
 ·rw[l] at h;cases h
 ·exact .inr h
mutual
theorem Cg (hO:∀b,O b→¬B' b→∃ys,H b=some (.lst ys)):∀{v:V} {d:D},DV B' K H v d→HK d=true→DV O K H v d
 |_,_,.non,_=> .non
 |_,_,.bl b,_=> .bl b
 |_,_,.int i,_=> .int i
 |_,_,.str x,_=> .str x
 |_,_,.tup (a:=a) h hs,e=> .tup ⟨h.1,fun z=>by
   by_cases y:B' a
   ·exact h.2 y
   ·obtain⟨ys,q⟩:=hO a z y
    exact Ba h.1 q⟩ (tL hO hs e)
 |_,_,.lst h hs,e=>by cases e
theorem tL (hO:∀b,O b→¬B' b→∃ys,H b=some (.lst ys)):∀{vs:List V} {ds:List D},DVs B' K H vs ds→EY ds=true→DVs O K H vs ds
 |_,_,.nil,_=> .nil
 |_,_,.cons h hs,e=>by
  have e':=Bool.and_eq_true_iff.mp e
  exact .cons (Cg hO h e'.1) (tL hO hs e'.2)
end
end
end L3
namespace PySem
section
variable {prog:Program} {w:World} {A:Around} {E:Value→Shared→Prop} {s:Shared}
end
section
variable {prog:Program} {w:World} {A:Around} {E:Value→Shared→Prop} {s:Shared}
noncomputable abbrev mW (led:Bool):Obj:={cls:= .type "set",dict:=none,data:= .set #[] 0 (.fresh 0 0 led)}
noncomputable abbrev wM (prog:Program) (w:World) (s:Shared) (n:Nat) (ns:List Int) (h':Heap):Prop:=
 h'.SetOf (intKind prog w) s.heap.objs.size (fun k'=>(PyProof.Rows.firstMet (fun i=>ns.getD i 0) n).any (·==k')) (PyProof.Rows.firstMet (fun i=>ns.getD i 0) n).length∧
  (∀b o,b<s.heap.objs.size→s.heap.get? b=some o→h'.get? b=some o)
theorem sY {t:Addr} {items:Array Value} {ns:List Int} {Q:Value→Shared→Prop}
  (hh:A.handled=none) (ht:s.heap.IsTuple t items) (hi:PyProof.Rows.IntsAre items.toList ns) (hb:items.size+1<scanBound)
  (h:∀(h':Heap) (tk:Nat),wM prog w s items.size ns h'→Q (.ref s.heap.objs.size) {s with heap:=h',toks:=tk}):
  wpAny (model prog w) A (call (.type "set") [.ref t]) Q E s:=by
 obtain⟨c,tl,hmro⟩:=F.called_set.mro
 have hmade:=F.called_set.made
 have hsub:=F.called_set.sub
 refine wpAny_call (codeAny_of_tree ?_)
 show wpAny _ _ (callAny (.type "set") _) _ _ _
 refine wpAny_pure ⟨Code.quiet_builtin _ (by decide+kernel),codeAny_builtin F.entry_type_call ?_⟩
 rw[Around.under_plain (weight_type_call_type "set" [.ref t] []) rfl]
 have h1:=F.called_set.notType
 have h2:=F.called_set.canCreate
 have hct:=F.typeCall_set_1 (.ref t)
 repeat (any_goals (first|assumption|wp_step))
 refine codeAny_mono (code_set_new_1 (.ref t) (E:=E) (Q₁:=fun obj s₁=>∃led:Bool,obj= .ref s.heap.objs.size∧s₁={s with heap:=s.heap.push (mW led)}) fun led=>⟨led,rfl,rfl⟩) fun r s₁ hr=> ?_
 match r,hr with
 | .error e,hr=>exact hr
 | .ok (.ret obj),⟨led,e1,e2⟩=>
  subst e1 e2
  have hS:(s.heap.push (mW led)).get? s.heap.objs.size=some (mW led):=Heap.get?_push_size _ rfl
  have hT:Shared.TypeIs {s with heap:=s.heap.push (mW led)} (.ref s.heap.objs.size) "set":=⟨_,hS,rfl⟩
  have hli:=F.called_set.init.lookup
  have hbi:=F.called_set.init.bind (.ref s.heap.objs.size)
  repeat (any_goals (first|assumption|wp_step))
  refine codeAny_mono (codeAny_call_builtin (R:=wants (fun r s₂=>r= .none∧∃h' tk,s₂={s with heap:=h',toks:=tk}∧wM prog w s items.size ns h') E) F.called_set.init.plain F.entry_set_init (check_set_init_1 hT ?_)) fun r₂ s₂ hr₂=> ?_
  ·have ht1:(s.heap.push (mW led)).IsTuple t items:=ht.push _
   have hlt:t<s.heap.objs.size:=by obtain⟨_,e,_⟩:=ht;exact Heap.lt_size e
   obtain⟨⟨ocls,odict,odata,oslots⟩,hol,hcl,nl,hdl⟩:=id ht
   simp only at hcl hdl
   subst hcl hdl
   have hol':(s.heap.push (mW led)).get? t=some {cls:= .type "tuple",dict:=odict,data:= .seq items nl,slots:=oslots}:=Heap.get?_push_of_some _ hol
   have hsls:=F.sub_tuple_set
   have hslf:=F.sub_tuple_frozenset
   have hne:(Value.type "tuple"==Value.type "dict")=false:=by decide
   unfold Builtin.«set.__init__» noKeywords Builtin.Frozenset.updateFrom
   generalize hPI:pyIter=PI
   wp_walk
   subst hPI
   refine wpAny_pyIter_tuple ht1 ?_
   refine wpAny_bind (wpAny_runValue ?_)
   have hh3:A.in1.in1.in1.handled=none:=by simp[hh]
   have hneI:t≠(s.heap.push (mW led)).objs.size:=by rw[Heap.size_push];exact Nat.ne_of_lt (Nat.lt_succ_of_lt hlt)
   have hSf:s.heap.objs.size∉[(s.heap.push (mW led)).objs.size,t]:=by
    rw[Heap.size_push]
    simp only[List.mem_cons,List.mem_singleton,List.not_mem_nil,or_false,not_or]
    exact⟨Nat.ne_of_lt (Nat.lt_succ_self _),Nat.ne_of_gt hlt⟩
   have hval:∀(i:Nat) (v:Value),items[i]? =some v→∃t,v= .int ((fun i=>ns.getD i 0) i) t:=fun i v hv=>PyProof.Rows.IntsAre.int_at hi i v (by rw[Array.getElem?_toList];exact hv)
   refine PyProof.Rows.codeAny_set_update_loopS ((Walks.tuple hh3 _ t hneI items).toS) s.heap.objs.size hSf (fun i=>ns.getD i 0) hval hb (items.size - 0) 0 _ (by omega) (Nat.zero_le _)
    ⟨⟨_,Heap.get?_push_size _ rfl,rfl,rfl⟩,ht1.push _⟩ ?hS0 ?hR
   case hS0=>
    exact PyProof.Rows.SetOf_congr ((PyProof.Rows.setObjOf_fresh (knd:=intKind prog w) led).setOf (Heap.get?_push_of_some _ hS) (by unfold scanBound;omega)) (fun _=>rfl) rfl
   case hR=>
    intro s' hm hS'
    obtain⟨h',g',d',tk',os'⟩:=s'
    have eg:g'=s.gens:=hm.gens
    have ed:d'=s.drawn:=hm.drawn
    have eo:os'=s.os:=hm.os
    subst eg ed eo
    show wpAny _ _ _ _ _ _
    refine wpAny_pure ?_
    show wpAny _ _ (ret Value.none) _ _ _
    refine wpAny_pure ⟨rfl,h',tk',rfl,hS',fun b o hb e=> ?_⟩
    exact hm.heap b o (by simp only[List.mem_cons,List.mem_singleton,List.not_mem_nil,or_false,not_or];exact⟨Nat.ne_of_lt hb,by rw[Heap.size_push];exact Nat.ne_of_lt (Nat.lt_succ_of_lt hb)⟩) (Heap.get?_push_of_some _ (Heap.get?_push_of_some _ e))
  ·match r₂,hr₂ with
   | .error e,hr₂=>exact hr₂
   | .ok (.ret r),⟨e1,h',tk,e2,hS'⟩=>
    subst e1 e2
    repeat (any_goals (first|assumption|wp_step))
    exact h _ _ hS'
end
end PySem
namespace PyProof.Rows
open PySem
section
variable {prog:Program} {w:World} {A:Around} {E:Value→Shared→Prop} {s:Shared}
theorem vP {h:Heap} {a:Addr} {vs:List Value} {out:Array Value} {n:Nat} (ho:h.get? a=some (seqObj "list" vs.toArray n)):∃e,(sortedHeap h a vs out).get? a=some (seqObj "list" out e):=by
 have h1:=get?_update_seq ho (fun _=> #[])
 exact⟨_,get?_update_seq (Heap.get?_push_of_some _ (Heap.get?_push_of_some _ h1)) _⟩
theorem tE {h:Heap} {a b:Addr} {vs:List Value} {out:Array Value} {o:Obj} (hb:b≠a) (e:h.get? b=some o):(sortedHeap h a vs out).get? b=some o:=
 (Heap.get?_update_other _ _ (Ne.symm hb)).trans (Heap.get?_push_of_some _ (Heap.get?_push_of_some _ ((Heap.get?_update_other _ _ (Ne.symm hb)).trans e)))
theorem vd {l:Addr} {vs:List Value} {ns:List Int} {Q:Value→Shared→Prop} (ht:s.heap.IsTuple l vs.toArray) (hI:IntsAre vs ns) (h64:vs.length<64)
  (h:∀(h1 h':Heap) (out:Array Value) (e:Nat) (ms:List Int),(∀b o,s.heap.get? b=some o→h1.get? b=some o)→h'.get? h1.objs.size=some (seqObj "list" out e)→(∀b o,h1.get? b=some o→h'.get? b=some o)→IntsAre out.toList ms→ms.Perm ns→ms.Pairwise (·≤·)→Q (.ref h1.objs.size) {s with heap:=h'}):
  wpAny (model prog w) A (call (.builtin "sorted") [.ref l]) Q E s:=by
 obtain⟨o,ho,hc,n,hd⟩:=ht
 refine Calls.call_function_entry kind_sorted plain_sorted entry_sorted (args_sorted1 _) (wpAny_bind (m:=checkCount "sorted" 1 1 _) (wpAny_pure (wpAny_bind (wpAny_collect_seq l (.inr rfl) ho hc hd (fun h1 hk=>wpAny_bind (wpAny_newList ?_)) (by rw[List.size_toArray,sizeLine_eq];omega)))))
 have hL:(h1.push (seqObj "list" vs.toArray 0)).get? h1.objs.size=some (seqObj "list" vs.toArray 0):=Heap.get?_push_size _ rfl
 refine wpAny_bind (wpAny_holding (wpAny_call_entry slot_list_sort ⟨_,hL,rfl⟩ entry_list_sort (list_sort_tree hL hI h64 fun out ms a1 a2 a3=>⟨_,rfl,wpAny_pure ⟨_,rfl,?_⟩⟩) (args_list_sort _)))
 obtain⟨e,he⟩:=vP (out:=out) hL
 exact h h1 _ out e ms hk he (fun b o' z=>tE (Nat.ne_of_lt (Heap.lt_size z)) (Heap.get?_push_of_some _ z)) a1 a2 a3
end
end PyProof.Rows
namespace L9
open PySem PySem.Spec PyProof.Rows L2 L3
noncomputable def D8 (neg:Bool) (d:D) (es:List D):Option RV:=match d,es with
 | .int i,[.int lo,.int hi]=>some (.fz (.bool (if neg then !decide (lo≤i∧i<hi) else decide (lo≤i∧i<hi))))
 |_,_=>none
noncomputable def DW (neg:Bool) (fa:FE) (fl:FA):FE:=fun ρ=>(fa ρ).bind fun a=>(fl a.2).bind fun b=>(Res.ofO (kF b.2 (fw a.1))).bind fun d=>(Res.ofO (jW b.2 b.1)).bind fun es=>(Res.ofO (D8 neg d es)).bind fun rv=> .ok (rv.pv,b.2)
section
variable {K:PySem.W.Frag} {E:XK}
noncomputable def wI (ns:List Int):Nat:=(ns.foldl step_dedup []).length
theorem sT (ns:List Int):firstMet (fun i=>ns.getD i 0) ns.length=ns.foldl step_dedup []:=by
 unfold firstMet
 congr 1
 refine List.ext_getElem (by simp) fun i h1 h2=> ?_
 simp at h1
 simp[h1]
noncomputable def CL (K:PySem.W.Frag):List V→Hp→VK→Prop:=fun xs H Q=>∃(a:Addr) (ns:List Int),xs=[.ref a]∧SqT K H a (ns.map V.int)∧ns.length≤1000∧∀S p,H p=none→Q (.ref p) (cU H p (.set S (wI ns)))
theorem yh {X:Cx} (hc:X.calm=true):CallR X (.type "set") (CL X.K):=by
 intro pins s σ H xs us Q I r h
 obtain⟨a,ns,rfl,hx,hn,q⟩:=h
 obtain⟨u,rfl,r1⟩:=jZ r
 cases r1
 obtain⟨its,r2,ht,_⟩:=I.tuple hx
 have hl:its.length=ns.length:=by rw[←r2.length,List.length_map]
 refine sY (I.ok.hd hc) ht (by simpa using lf r2) (by rw[List.size_toArray,hl];unfold scanBound;omega) fun h' tk hS=> ?_
 rw[List.size_toArray,hl] at hS
 obtain⟨hS,hk⟩:=hS
 rw[sT] at hS
 exact⟨.ref s.heap.objs.size,_,I.laid (t':=tk) (fun b o e=>hk b o (Heap.lt_size e) e) (Nat.le_refl _) (show ObjOk X.prog X.w _ _ _ (.set _ _) from hS),rfl,q _ _ (I.hok.fresh (Nat.le_refl _))⟩
noncomputable def wL:List V→Hp→VK→Prop:=fun xs H Q=>∃(p:Addr) (S:Int→Bool) (n:Nat),xs=[.ref p]∧H p=some (.set S n)∧Q (.int n) H
theorem tX {X:Cx}:CallR X (.builtin "len") wL:=by
 intro pins s σ H xs us Q I r h
 obtain⟨p,S,n,rfl,hp,q⟩:=h
 obtain⟨u,rfl,r1⟩:=jZ r
 cases r1
 obtain⟨o,es,ep,t,h1,h2,h3,_,_,h4,h5,h6⟩:=I.hok p _ hp
 subst h6
 exact call_len_set h1 h2 h3 h5 (by unfold scanBound at h4;omega) ⟨.int _,H,I.tok _,⟨_,rfl⟩,q⟩
noncomputable def lQ:List D→Option RV
 |[.tuple ds]=>(match mL ds with
  |some ns=>if ns.length≤1000 then some (.fz (.int (wI ns))) else none
  |none=>none)
 |_=>none
noncomputable def nW (fl:FA):FE:=fun ρ=>(fl ρ).bind fun a=>(Res.ofO (jW a.2 a.1)).bind fun es=>(Res.ofO (lQ es)).bind fun rv=> .ok (rv.pv,a.2)
theorem yu {tl:TA} {fl:FA} (hl:AO K E tl fl):EO K E (Ep wL (lD (Ep (CL K) tl) vy)) (nW fl):=by
 intro B H0 O σ H ρ Q R w
 refine hl B H0 O σ H ρ _ R (w.bind.imp fun a w1 O1 ys H1 e1 R1 p1=> ?_)
 obtain⟨es,qe,w1⟩:=w1.ofO
 obtain⟨rv,qf,w1⟩:=w1.ofO
 have he:=oa R1 p1 qe
 unfold lQ at qf
 split at qf
 ·split at qf
  ·rename_i ns hs
   split at qf
   ·rename_i hn
    cases qf
    cases he with
    |cons g1 g2=>
     cases g2
     obtain⟨b,vs,rfl,k1,k2⟩:=uL g1
     rw[nU k2 hs] at k1
     refine⟨b,ns,rfl,k1.1,hn,fun S p hp=>⟨p,S,wI ns,rfl,bj,?_⟩⟩
     exact w1 O1 _ _ (e1.trans (Ev.grow (b9 hp _))) (R1.grow (b9 hp _)) (.int _)
   ·cases qf
  ·cases qf
 ·cases qf
theorem DI {neg:Bool} {fa:FE} {fl:FA} {ρ ρ1 ρ2:bb} {p:PV} {ps:List PV} {d:D} {es:List D} {rv:RV} (ha:fa ρ= .ok (p,ρ1)) (hl:fl ρ1= .ok (ps,ρ2)) (hd:kF ρ2 (fw p)=some d) (he:jW ρ2 ps=some es) (hv:D8 neg d es=some rv):DW neg fa fl ρ= .ok (rv.pv,ρ2):=by
 unfold DW
 rw[ha,Res.bind_ok]
 dsimp only
 rw[hl,Res.bind_ok,hd]
 show((Res.ofO (jW ρ2 ps)).bind _)=_
 rw[he]
 show((Res.ofO (D8 neg d es)).bind _)=_
 rw[hv]
 rfl
theorem yl {fl:FA} {ρ ρ1:bb} {ps:List PV} {es:List D} {rv:RV} (hl:fl ρ= .ok (ps,ρ1)) (he:jW ρ1 ps=some es) (hv:lQ es=some rv):nW fl ρ= .ok (rv.pv,ρ1):=by
 unfold nW
 rw[hl,Res.bind_ok]
 dsimp only
 rw[he]
 show((Res.ofO (lQ es)).bind _)=_
 rw[hv]
 rfl
theorem sg {X:Cx}:CallR X (.builtin "sorted") (fun xs H Q=>∃(p:Addr) (ns:List Int),xs=[.ref p]∧SqT X.K H p (ns.map V.int)∧ns.length<64∧∀(l:Addr) (ms:List Int),H l=none→ms.Perm ns→ms.Pairwise (·≤·)→Q (.ref l) (cU H l (.lst (ms.map V.int)))):=by
 intro pins s σ H xs us Q I r h
 obtain⟨p,ns,rfl,hq,h64,q⟩:=h
 obtain⟨u,rfl,ru⟩:=jZ r
 cases ru
 obtain⟨its,rv,pl,hz⟩:=I.tuple hq
 have hl:=rv.length
 rw[List.length_map] at hl
 refine vd pl (lf rv) (by omega) fun h1 h' out e ms hk he hk2 hi hp hs=> ?_
 have hlen:ms.length=ns.length:=hp.length_eq
 have I1:Inv X pins σ H {s with heap:=h1}:=I.kept (t':=s.toks) hk
 refine⟨.ref h1.objs.size,_,I1.laid (t':=s.toks) (o:= .lst (ms.map V.int)) hk2 (Nat.le_refl _) ?_,rfl,q _ ms (I1.hok.fresh (Nat.le_refl _)) hp hs⟩
 refine⟨?_,out.toList,e,ki hi,he⟩
 rw[List.length_map,hlen]
 have:(64:Nat)≤sizeLine:=by decide
 omega
theorem lw {X:Cx}:CallR X (.builtin "sorted") (fun xs H Q=>(∃(p:Addr) (ns:List Int),xs=[.ref p]∧SqL X.K H p (ns.map V.int)∧ns.length<64∧∀(l:Addr) (ms:List Int),H l=none→ms.Perm ns→ms.Pairwise (·≤·)→Q (.ref l) (cU H l (.lst (ms.map V.int))))∨
  (∃(p:Addr) (ns:List Int),xs=[.ref p]∧SqT X.K H p (ns.map V.int)∧ns.length<64∧∀(l:Addr) (ms:List Int),H l=none→ms.Perm ns→ms.Pairwise (·≤·)→Q (.ref l) (cU H l (.lst (ms.map V.int))))):=L2.CallR.or uA sg
noncomputable def jv:List D→Option RV
 |[.tuple ds]=>(match mL ds with
  |some ns=>if ns.length<64 then some (.ow ((gx ns).map .int)) else none
  |none=>none)
 |ds=>sQ ds
theorem pj:A6 K (fun xs H Q=>(∃(p:Addr) (ns:List Int),xs=[.ref p]∧SqL K H p (ns.map V.int)∧ns.length<64∧∀(l:Addr) (ms:List Int),H l=none→ms.Perm ns→ms.Pairwise (·≤·)→Q (.ref l) (cU H l (.lst (ms.map V.int))))∨
  (∃(p:Addr) (ns:List Int),xs=[.ref p]∧SqT K H p (ns.map V.int)∧ns.length<64∧∀(l:Addr) (ms:List Int),H l=none→ms.Perm ns→ms.Pairwise (·≤·)→Q (.ref l) (cU H l (.lst (ms.map V.int))))) jv:=by
 intro O H xs ds rv Q n hp e q
 unfold jv at e
 split at e
 ·split at e
  ·rename_i ns hs
   split at e
   ·rename_i hn
    cases e
    cases hp with
    |cons h1 h2=>
     cases h2
     obtain⟨a,vs,rfl,g1,g2⟩:=uL h1
     rw[nU g2 hs] at g1
     refine .inr ⟨a,ns,rfl,g1.1,hn,fun l ms hl hpm hst=> ?_⟩
     have e2:ms=gx ns:=mF (hpm.trans (im ns).symm) hst (gy ns)
     subst e2
     exact q.new (oG _) l hl
   ·cases e
  ·cases e
 ·exact .inl (xO O H xs ds rv Q n hp e q)
noncomputable def Hz:D→D→Option RV
 | .str z,.int n=>if z.length≤1000∧0≤n∧n≤1000 then some (.fz (.str (Txt.mul z n))) else none
 |_,_=>none
theorem Gf:bootBuiltins "set"=some (.type "set"):=by decide+kernel
end
end L9
namespace L9
open PySem PySem.W PyProof.Rows Builtin Builtin.ObjectAttr
section
variable {prog:Program} {w:World} {A:Around} {K:Frag} {B C x p:Addr} {s:Shared} {R:Result→Shared→Prop} {cd:ClassData} {name:Str} {tk:Tok} {v:Value} {fs:Array Value} {m:Str→Option Value} {ns:List Str}
theorem zF (X:K.In s.heap) (hc:clsIn K C=some cd) (hm:cd.mro= .ref C:: .ref B::wk) (hd:cd.hasDict=true) (hn:findIn K (.ref C) name=some none) (hx:s.heap.get? x=some ⟨.ref C,some p,.fields fs,#[]⟩) (hD:∃od,s.heap.get? p=some od) (hp:s.heap.Ns1 p m) (hw:Within m ns) (hl:ns.length<1000)
  (hq:∀h' tk',h'.Ns1 p (fun y=>if y=name then some v else m y)→(∀b o,b≠p→s.heap.get? b=some o→h'.get? b=some o)→R (.ok (.ret .none)) {s with heap:=h',toks:=tk'}):
  codeAny (model prog w) A (.call (.builtin "object.__setattr__") ⟨[.ref x,.str name tk,v],[]⟩) R s:=by
 obtain⟨od,hod⟩:=hD
 have I:InstAt s.heap x ⟨.ref C,some p,.fields fs,#[]⟩ C (some od):=⟨hx,rfl,rfl,hod⟩
 have SF:=PySem.F.store_object
 have sub:Looks (model prog w) s.heap (isInstance (.ref x) (.type "object")) true:=I.type.andThen (looks_mroIn X (by unfold mroIn;rw[hc,Option.bind_some,hm,if_neg (by simp)];simp))
 refine codeAny_call_builtin SF.slot.plain SF.entry (@check_slot (model prog w) _ _ s "object.__setattr__" "object" "__setattr__" (.ref x) [.str name tk,v] [] _ SF.kind SF.split sub (SF.args (.ref x) (.str name tk) v) ?_)
 have hmr:Looks (model prog w) s.heap (mroOf (.ref C)) cd.mro:=(looks_clsIn X hc).andThen .now
 rw[osa_eq,refuse_eq]
 refine wpAny_bind (wpAny_bind (I.type.here (wpAny_bind (hmr.here ?_))))
 rw[hm,refuseLoop_ref,refuseLoop_ref,PySem.F.store_ValueError.passes]
 refine wpAny_pure (wpAny_bind (I.type.here (wpAny_bind ((looks_findIn X hn).here (wpAny_bind (wpAny_pure ?_))))))
 show wpAny _ _ (storeInOwnDict (.ref x) (.ref C) (.str name tk) name v _) _ _ _
 unfold storeInOwnDict
 refine wpAny_bind (wpAny_pure (wpAny_bind ?_))
 unfold ownDictForStores instanceDict
 refine wpAny_bind (wpAny_loadPart hx (wpAny_bind ((looks_clsIn X hc).here ?_)))
 rw[hd,if_neg (by decide)]
 refine wpAny_pure ?_
 show wpAny _ _ (storeInDict p (.str name tk) name v) _ _ _
 unfold storeInDict newKeyGuard
 refine wpAny_bind (wpAny_pure (wpAny_bind (wpAny_nsSet1 hp fun h' hn' hs=> ?_)))
 obtain⟨oD,esD,epD,hoD,hdD,hcD⟩:=hn'.count (Within.cons name v hw)
 refine wpAny_bind (wpAny_lookBehind hoD (by rw[hdD];exact pastItsLine_dict (Nat.le_trans hcD (by rw[List.length_cons,sizeLine_eq];omega))) ?_)
 refine wpAny_pure (hq h' _ hn' fun b ob hbx hb=> ?_)
 exact(hs.2 b hbx).trans hb
theorem yW {E:Value→Shared→Prop} {Q:Unit→Shared→Prop} (X:K.In s.heap) (hc:clsIn K C=some cd) (hm:cd.mro= .ref C:: .ref B::wk) (hd:cd.hasDict=true) (hsa:findIn K (.ref C) "__setattr__"=some (some (.builtin "object.__setattr__"))) (hn:findIn K (.ref C) name=some none) (hx:s.heap.get? x=some ⟨.ref C,some p,.fields fs,#[]⟩) (hD:∃od,s.heap.get? p=some od) (hp:s.heap.Ns1 p m) (hw:Within m ns) (hl:ns.length<1000)
  (hq:∀h' tk',h'.Ns1 p (fun y=>if y=name then some v else m y)→(∀b o,b≠p→s.heap.get? b=some o→h'.get? b=some o)→Q () {s with heap:=h',toks:=tk'}):
  wpAny (model prog w) A (setAttr (.ref x) name v) Q E s:=by
 obtain⟨od,hod⟩:=hD
 exact set_plain X (⟨hx,rfl,rfl,hod⟩:InstAt s.heap x ⟨.ref C,some p,.fields fs,#[]⟩ C (some od)) hsa (zF (s:={s with toks:=s.toks+1}) X hc hm hd hn hx ⟨od,hod⟩ hp hw hl hq)
end
open PySem.Spec L2
section
variable {X:Cx} {B C fI:Addr} {pos:Pos}
noncomputable def EU (C:Addr) (f:Str) (ta tv:TE):TS:=fun D σ H=>tv σ H fun v H1=>ta σ H1 fun x H2=>∃e p fs,x= .ref e∧H2 e=some (.ext (CS C e p))∧H2 p=some (.xd fs)∧fs.length<1000∧D.nx σ (cU H2 p (.xd ((f,v)::fs)))
theorem xE {fs:List (Str×V)} {mA:Str→Option Value} (h:∀f,RelO (fs.lookup f) (mA f)):PySem.Within mA (fs.map (·.1)):=fun y hy=>by
 have:=h y
 cases q:fs.lookup y with
 |none=>
  rw[q] at this
  cases z:mA y with
  |none=>exact absurd z hy
  |some u=>rw[z] at this;exact this.elim
 |some v=>exact List.mem_map.mpr ⟨(y,v),PySem.mem_of_lookup q,rfl⟩
theorem yR {o value:Expr} {f:Str} {ta tv:TE} {pos':Pos} (hC:XC X.K C B fI) (hn:PySem.W.findIn X.K (.ref C) f=some none) (ha:PE X o ta) (hv:PE X value tv) (hs:swapsWith value (some (.Attribute o f pos')) pos.line X.env=pure false):PS X (.Assign [.Attribute o f pos'] value pos) (EU C f ta tv):=by
 intro pins s σ H D I h
 refine plainObj_wpAny_Assign_Attribute (eJ (hv pins s σ H _ I h) fun u s1 ⟨v,H1,I1,rv,q⟩=>eJ (ha pins s1 σ H1 _ I1 q) fun ov s2 ⟨x,H2,I2,rx,e,p,fl,ex,hE,hP,hl,q2⟩=> ?_) hs
 subst ex
 obtain rfl:ov=Value.ref e:=rx
 obtain⟨⟨fs,a0,g1,g2,g3⟩,_,gk⟩:=(show ObjOk X.prog X.w H2 s2.heap e (.ext (CS C e p)) from I2.hok e _ hE)
 obtain⟨mA,n1,rel⟩:=(show ObjOk X.prog X.w H2 s2.heap p (.xd fl) from I2.hok p _ hP)
 obtain⟨nm,q',N,bs,sn,sub,ab,col,dd,k0,k1,k2,k3,k5,lk,hok,hin⟩:=hC.obj
 obtain⟨cd,hc,hmr,hdc⟩:∃cd,PySem.W.clsIn X.K C=some cd∧cd.mro= .ref C:: .ref B::wk∧cd.hasDict=true:=by
  unfold PySem.W.clsIn
  rw[lk]
  exact⟨_,rfl,rfl,rfl⟩
 refine yW (ns:=fl.map (·.1)) I2.kIn hc hmr hdc hC.sa hn g1 (by obtain⟨o,_,_,z,_⟩:=n1;exact⟨o,z⟩) n1 (xE rel) (by rw[List.length_map];exact hl) fun h' tk' e1 e2=> ?_
 refine⟨σ,_,?_,q2⟩
 have he1:∃o,h'.get? p=some o:=by obtain⟨o,_,_,z,_⟩:=e1;exact⟨o,z⟩
 refine I2.un (h':=h') (t':=tk') (H':=cU H2 p (.xd ((f,v)::fl))) ⟨fun b o z n _ _=>e2 b o (fun y=>by rw[y,hP] at n;cases n) z,fun b o z n _ _=>⟨o.slots,e2 b o (fun y=>by rw[y,hP] at n;cases n) z⟩,fun b o z n _=> ?_,fun b o z _=> ?_,fun b xs z=> ?_,fun b o u z=> ?_,fun b ps z=>⟨#[],?_⟩⟩ ?_
 ·rw[aK (fun y=>by rw[y,hP] at n;cases n)]
  exact n
 ·by_cases y:b=p
  ·subst y
   exact he1
  ·exact⟨o,e2 b o y z⟩
 ·rw[aK (fun y=>by rw[y,hP] at z;cases z)]
  exact z
 ·rw[aK (fun y=>by rw[y,hP] at z;cases z)]
  exact z
 ·rw[aK (fun y=>by rw[y,hP] at z;cases z),z]
  simp
 ·intro a o z
  by_cases ya:a=p
  ·subst ya
   rw[bj] at z
   cases z
   refine⟨_,e1,fun g=> ?_⟩
   show RelO (match g==f with|true=>some v|false=>List.lookup g fl) (if g=f then some u else mA g)
   cases hb:g==f with
   |true=>rw[if_pos (beq_iff_eq.mp hb)];exact rv
   |false=>rw[if_neg (fun w=>by rw[beq_iff_eq.mpr w] at hb;cases hb)];exact rel g
  ·rw[aK ya] at z
   have own:∀b,H2 b=some (.own a)→b≠p:=fun b y k=>by rw[k,hP] at y;cases y
   refine(I2.hok a o z).stay (fun b w hb y=>e2 b w (fun k=> ?_) y) (fun b y=>by rw[aK (own b y)];exact y) fun b xs y=>by rw[aK (fun k=>by rw[k,hP] at y;cases y)];exact y
   rcases hb with hb|hb
   ·exact ya (hb.symm.trans k)
   ·exact own b hb k
end
open L3 L4
noncomputable def lJ (C:Addr) (f g:Str):Sp:=fun vs H Q _=>∃e v u,vs=[.ref e,v,u]∧El v∧El u∧H e=some (.ext (BP C e))∧∀p,H p=none→p≠e→Q .non (cU (cU H e (.ext (CS C e p))) p (.xd [(g,u),(f,v)]))
noncomputable def g7 (c f g:Str) (fa:FA):FS:=fun ρ=>(fa ρ).bind fun a=>(Res.ofO (jW a.2 a.1)).bind fun ds=>match ds with
 |[d,e]=>if pP d=true∧pP e=true then .er ⟨c,[(g,e),(f,d)]⟩ else .bad
 |_=> .bad
theorem AG {K:PySem.W.Frag} {O:dw} {H:Hp} {v:V} {d:D} (dx:DX O K H v d) (hf:pP d=true):El v∧∀(O':dw) (H':Hp),DV O' K H' v d:=by
 cases d with
 |none=>cases dx;exact⟨.inl rfl,fun _ _=> .non⟩
 |int i=>cases dx;exact⟨.inr ⟨i,rfl,of_decide_eq_true hf⟩,fun _ _=> .int i⟩
 |_=>cases hf
theorem jw {K:PySem.W.Frag} {E:XK} {c f g:Str} {C:Addr} {ta:TA} {fa:FA} (hfg:(f==g)=false) (hc:PySem.W.nsIn K mainGlobals c=some (some (.ref C))) (ha:AO K E ta fa):SO K E (sX C (lJ C f g) E ta) (g7 c f g fa):=by
 intro B H0 O σ H ρ D R w
 refine ha B H0 O σ H ρ _ R (w.bind.imp fun a w1 O1 vs H1 e1 R1 p1=> ?_)
 obtain⟨ds,qd,w1⟩:=w1.ofO
 have dx:=oa R1 p1 qd
 match ds,dx,w1 with
 |[d,d2],.cons (a:=v) h1 (.cons (a:=u) h2 .nil),w1=>
  dsimp only at w1
  by_cases hf:pP d=true∧pP d2=true
  ·rw[if_pos hf] at w1
   have ky:=AG h1 hf.1
   have ky2:=AG h2 hf.2
   refine⟨by show 2≤sizeLine;decide,fun e hn=>⟨e,v,u,rfl,ky.1,ky2.1,bj,fun p hp hpe=>⟨rfl,p,?_,?_⟩⟩⟩
   ·rw[aK (Ne.symm hpe),bj]
   ·have hp1:H1 p=none:=by rw[aK hpe] at hp;exact hp
    refine w1 (.ref C) (some p) _ (fun b o z=> ?_) ⟨⟨C,rfl,hc⟩,[(g,u),(f,v)],fun p' q=> ?_,fun f' d' l=>⟨(fun z=>nomatch z),?_⟩⟩
    ·have z1:=R1.same b o z
     have n1:b≠e:=fun y=>by rw[y,hn] at z1;cases z1
     have n2:b≠p:=fun y=>by rw[y,hp1] at z1;cases z1
     rw[iE n1,aK n2,aK n1,aK n1]
     exact z1
    ·cases q
     rw[iE hpe,bj]
    ·have l':(match f'==g with|true=>some d2|false=>(match f'==f with|true=>some d|false=>List.lookup f' []))=some d':=l
     show∃x,(match f'==g with|true=>some u|false=>(match f'==f with|true=>some v|false=>List.lookup f' []))=some x∧_
     cases hb:f'==g with
     |true=>
      rw[hb] at l'
      cases l'
      exact⟨u,rfl,ky2.2 _ _⟩
     |false=>
      rw[hb] at l'
      dsimp only at l'⊢
      cases hb2:f'==f with
      |true=>
       rw[hb2] at l'
       cases l'
       exact⟨v,rfl,ky.2 _ _⟩
      |false=>rw[hb2] at l';cases l'
  ·rw[if_neg hf] at w1
   exact w1.elim
 |[],_,w1=>exact w1.elim
 |[_],_,w1=>exact w1.elim
 |_::_::_::_,_,w1=>exact w1.elim
noncomputable def Aw:D→Option RV
 | .tuple ds=>some (.fz (.tuple ds.reverse))
 |_=>none
theorem wm {K:PySem.W.Frag} {O:dw} {H:Hp}:∀{vs:List V} {ds:List D},DVs O K H vs ds→DVs O K H vs.reverse ds.reverse
 |_,_,.nil=> .nil
 |_,_,.cons h t=>by rw[List.reverse_cons,List.reverse_cons];exact(wm t).append (.cons h .nil)
theorem DS {K:PySem.W.Frag} {E:XK} {ta:TE} {fa:FE} (ha:EO K E ta fa):EO K E (Fj K ta (yJ (Hg (rU fun i=> .int (-i)) (tC (.int 1))))) (qY Aw fa):=by
 intro B H0 O σ H ρ Q R w
 refine ha B H0 O σ H ρ _ R (w.bind.imp fun a w1 O1 x H1 e1 R1 p1=> ?_)
 obtain⟨d,qd,w1⟩:=w1.ofO
 obtain⟨rv,qf,w1⟩:=w1.ofO
 have dx:=ip R1 p1 qd
 unfold Aw at qf
 split at qf
 ·cases qf
  obtain⟨b,vs,rfl,k1,k2⟩:=uL dx
  refine⟨1,rfl,-1,rfl,rfl,b,vs,rfl,k1.1,?_⟩
  exact Fin.newT (wm k2) R1.od (iM (rv:= .fz (.tuple _)) R1 fun O4 v H4 e4 R4 p4=>w1 O4 v H4 (e1.trans e4) R4 p4)
 ·cases qf
end L9
local macro_rules| `(tactic|walk_at "px")=> `(tactic|simp only[L3.fq,L3.aO,L3.et,L3.bq,L3.ce,L3.sRetN,L3.gi,L3.bv,L3.iU,L3.sBreak,L3.sCont,L3.ret_fz,L3.ret_ow,L3.ret_pl,L3.retS_fz,L3.retS_ow,L3.az,L3.qY,L3.vC,L3.zu,L3.yZ,L3.pC,L3.dh,L3.bx,L3.aD,L3.cV,L3.aG,L3.so,L3.Ci,L3.zh,L3.pIf,L3.kE,L3.cH,L3.eD,
 L3.gb,L3.nK,L3.gL,L3.db,L3.am,L3.aa,L3.ia,L3.nw,L3.qh,L3.gN_fz,L3.gN_ow,L3.gN_pl,L3.gT,L3.yY,L3.nb,L3.gIx,L3.oy,L3.pPop,L3.eF,L3.captL_nil,L3.captL_cons,L3.yf,L3.Aa,
 L3.rdD_fz,L3.rdD_ow,L3.rdD_pl,L3.rdS_fz,L3.rdS_ow,L3.toD_fz,L3.toD_ow,L3.toD_pl,L3.toS_fz,L3.toS_ow,L3.rdDs_nil,L3.rdDs_fz,L3.rdDs_pl,L3.toDs_nil,L3.toDs_fz,L3.toDs_pl,L3.settle_fz,L3.settle_ow,L3.settle_pl,L3.tu,L3.xh,L3.asT_tup,L3.asSeq_tup,L3.asSeq_lst,L3.mn,L3.ug,L3.pv_fz,L3.pv_ow,L3.Res.bind_ok,L3.bc,L3.dm,L3.keepF_fz,L3.keepF_ow,L3.keepF_none,L3.iW,L3.obind_some,
 L3.oY,L3.lenD_lst,L3.lM,L3.yE,L3.kW,L3.gI,L3.kK,L3.kG,L3.AX,L3.vE,L3.o3,L3.ib,L3.lN,L3.eqD_bool,L3.neD_bool,
 List.map_cons,List.map_nil,List.cons_append,List.nil_append,List.append_nil,List.replicate_succ,List.replicate_zero,List.length_cons,List.length_nil,List.getElem?_cons_zero,List.getElem?_cons_succ,List.set_cons_zero,List.set_cons_succ,Nat.reduceSub,Nat.reduceAdd,Nat.reduceLeDiff,Nat.reduceLT,Nat.zero_add,Nat.sub_self,Nat.zero_le,reduceIte,Option.map_some,Option.map_none,Bool.not_true,Bool.not_false,Bool.false_eq_true,if_true,if_false,ite_true,ite_false])
local macro_rules| `(tactic|walk_at "nm")=> `(tactic|first|((simp only[List.set_cons_zero,List.set_cons_succ]);rfl)|rfl)
local macro_rules| `(tactic|walk_at "evf")=> `(tactic|first|with_reducible assumption|with_reducible exact L3.vE _ _|with_reducible exact L3.o3 _ _|with_reducible exact L3.gI _ _|with_reducible exact L3.kK _ _|with_reducible exact L3.kG _ _|with_reducible exact L3.AX _ _|with_reducible exact L3.yQ _ _|with_reducible exact L3.neD_nd _ _|with_reducible exact L3.ib _ _|with_reducible exact L3.lN _ _|with_reducible exact L3.eqD_bool _ _|with_reducible exact L3.neD_bool _ _|with_reducible exact L3.eqD_tup _ _|with_reducible exact L3.neD_tup _ _|with_reducible exact L3.eqD_lst _ _|with_reducible exact L3.neD_lst _ _|with_reducible exact L3.inD_nds _ _|with_reducible exact L3.ninD_nds _ _|with_reducible exact L3.inD_ndt _ _|with_reducible exact L3.ninD_ndt _ _|with_reducible exact L3.bandD_nd _ _|with_reducible exact L3.borD_nd _ _|with_reducible exact L3.shr_nd _ _|with_reducible exact L3.uX|with_reducible exact L3.Ca|with_reducible exact L3.Fh|with_reducible exact L3.yL|with_reducible exact L3.FR|with_reducible exact L3.yU|with_reducible exact L3.oY _|with_reducible exact L3.lenD_lst _|(with_reducible rfl))
local macro_rules| `(tactic|walk_at "ev")=> `(tactic|first
 |with_reducible exact L3.aU
 |((with_reducible apply L3.ar);rfl)
 |((with_reducible apply L3.qE);rfl)
 |with_reducible exact L3.aF
 |with_reducible exact L3.eP
 |((with_reducible apply L3.a8);(·walk_at "ev");(·walk_at "ev");(·rfl);(·rfl);(·walk_at "evf"))
 |((with_reducible apply L3.qk);(·walk_at "ev");(·rfl);(·rfl))
 |((with_reducible apply L3.ao);(·walk_at "ev");(·walk_at "ev"))
 |((with_reducible apply L3.aX);(·walk_at "ev");(·rfl))
 |((with_reducible apply L3.dA);(·walk_at "ev");(·rfl);(·first|walk_at "evf"|rfl))
 |((with_reducible apply L3.eN);(·walk_at "ev");(·rfl);(·rfl);(·with_reducible assumption))
 |((with_reducible apply L3.da);(·walk_at "ev");(·rfl);(·exact Nat.le_of_ble_eq_true rfl))
 |((with_reducible apply L3.fE);(·walk_at "ev");(·rfl);(·exact Nat.le_of_ble_eq_true rfl))
 |((with_reducible apply L3.Ee);(·walk_at "ev");(·rfl);(·rfl))
 |((with_reducible apply L3.dR);(·walk_at "ev");(·rfl))
 |((with_reducible apply L3.iV);(·walk_at "ev");(·walk_at "ev");(·walk_at "ev");(·rfl);(·first|with_reducible assumption|rfl))
 |((with_reducible apply L3.dY);(·walk_at "ev"))
 |((with_reducible apply L3.gp);(·walk_at "ev");(·intro _;walk_at "ev"))
 |((with_reducible apply L3.hG);(·walk_at "ev");(·intro _;walk_at "ev"))
 |((with_reducible apply L3.Cl);(·walk_at "ev"))
 |((with_reducible apply L3.lO);(·walk_at "ev");(·intro _;walk_at "ev"))
 |((with_reducible apply L3.o6);(·walk_at "ev");(·intro _;walk_at "ev"))
 |((with_reducible apply L3.jn);(·walk_at "ev");(·rfl);(·first|with_reducible assumption|rfl))
 |((with_reducible apply L3.ka);(·walk_at "ev");(·rfl);(·rfl))
 |((with_reducible apply L3.uC);(·walk_at "ev");(·rfl);(·rfl))
 |((with_reducible apply L3.sV);(·rfl);(·walk_at "ev");(·rfl);(·rfl);(·first|with_reducible assumption|(simp only[List.length_nil,List.length_cons,L3.dZ] at*;omega));(·walk_at "nm"))
 |((with_reducible apply L3.ev_pop);(·rfl);(·walk_at "ev");(·rfl);(·rfl);(·with_reducible assumption);(·with_reducible assumption);(·with_reducible assumption);(·walk_at "nm"))
 |((with_reducible apply L3.j7);(·walk_at "ev");(·rfl);(·walk_at "nm"))
 |((with_reducible apply L3.jf);(·walk_at "ev"))
 |((with_reducible apply L3.vp);(·walk_at "ev");(·rfl)))
local macro_rules| `(tactic|walk_at "evb")=> `(tactic|first
 |((with_reducible apply L3.bR);(·walk_at "ev");(·walk_at "ev");(·rfl);(·rfl);(·walk_at "evf"))
 |((with_reducible apply L3.fZ);(·walk_at "ev");(·rfl);(·rfl);(·with_reducible assumption))
 |((with_reducible apply L3.rz);(·walk_at "ev");(·rfl);(·first|walk_at "evf"|rfl))
 |walk_at "ev")
local macro_rules| `(tactic|walk_at "ev")=> `(tactic|first
 |with_reducible assumption
 |((with_reducible apply L3.lO);(·walk_at "ev");(·intro _;walk_at "evb"))
 |((with_reducible apply L3.o6);(·walk_at "ev");(·intro _;walk_at "evb"))
 |((with_reducible apply L3.gz);(·walk_at "ev");(·walk_at "ev");(·walk_at "ev");(·rfl);(·rfl);(·rfl);(·walk_at "evf");(·intro _;walk_at "evf"))
 |((with_reducible apply L3.xp);(·walk_at "ev");(·rfl);(·rfl);(·rfl)))
local macro_rules| `(tactic|walk_at "go")=> `(tactic|first
 |((with_reducible apply L3.cK);(·walk_at "ev");(·rfl);(·walk_at "nm");try walk_at "go")
 |((with_reducible apply L3.rh);(·walk_at "ev");try walk_at "go")
 |((with_reducible apply L3.Dt);try walk_at "go")
 |((with_reducible apply L3.cG);try walk_at "go")
 |((with_reducible apply L3.eW);(·walk_at "ev");(·rfl))
 |((with_reducible apply L3.e8);(·walk_at "ev"))
 |((with_reducible apply L3.yG);(·walk_at "ev");(·rfl);(·walk_at "nm"))
 |((with_reducible apply L3.kq);(·walk_at "ev"))
 |((with_reducible apply L3.cb);(·walk_at "ev");(·rfl))
 |((with_reducible apply L3.eO);(·walk_at "ev"))
 |(with_reducible apply L3.cN))
local macro_rules| `(tactic|walk_at "evp")=> `(tactic|((apply Eq.trans);(·walk_at "ev");(·rfl)))
namespace K22
open PySem L2 L3
noncomputable def jX:FS:=(ce (az bC (az cn (kE Cu (ag 0) (cH (ag 1)) (cH (az cn (ag 1) (pC (.int 1))))) (cV (aa (pC (.int 0)) am))) (pC (.int 0))))
noncomputable def bJ:FN:=fq 2 jX
noncomputable def iz:FS:=(aO (bq (az cn (az bf (ag 0) (pC (.int 1000000007))) (az fH (pC (.int 13)) (ag 1))) (gN 2))
 (aO (bq (az bf (az cn (az cn (az fH (ag 2) (az cn (az cn (ag 2) (az fH (ag 1) (ag 1))) (pC (.int 11)))) (az fH (pC (.int 40487)) (ag 1))) (pC (.int 7))) (pC (.int 1000000033))) (gN 2))
 (ce (az cy (az bf (az cn (az fH (ag 2) (az cn (az cy (ag 2) (pC (.int 7))) (pC (.int 31)))) (pC (.int 90001))) (pC (.int 999999937))) (pC (.int 3))))))
noncomputable def cz:FN:=fq 3 iz
noncomputable def gR:FS:=(aO (bq (cV am) (gN 2))
 (aO (bq (dh jE (aa (ag 0) (aa (az jG (pC (.int 0)) (ag 0)) am))) (gN 3))
 (aO (iU (ia fK (aa (ag 1) am)) (gN 4) (aO (bq (pC (.int 0)) (gN 5))
 (aO (iU (ia fK (aa (pC (.int 3)) am)) (gN 6) (bq (az cn (az fH (ag 5) (az ji (pC (.int 10)) (pC (.int 8)))) (az bf (bx cz 2 (aa (ag 0) (aa (az cn (az fH (pC (.int 3)) (ag 4)) (ag 6)) am))) (az ji (pC (.int 10)) (pC (.int 8))))) (gN 5)))
 (aO (et (gb (aG (az my (ag 3) (pC (.int 0)))) (nK (aG (az me (ag 0) (pC (.int 0)))) (aG (az Dp (ag 0) (az ji (pC (.int 10)) (pC (.int 18))))))) (aO (bq (az bf (ag 3) (az ji (pC (.int 10)) (pC (.int 24)))) (gN 5))
 (bq (az cy (ag 3) (az ji (pC (.int 10)) (pC (.int 24)))) (gN 3))) bv)
 (gi (oy 2 (ag 5)))))))
 (ce (ag 2)))))
noncomputable def eU:FN:=fq 7 gR
noncomputable def iO:FS:=(ce (az Gy (pC (.str "abcdefghijklmnopqrstuvwxyz")) (az bf (ag 0) (pC (.int 26)))))
noncomputable def bK:FN:=fq 1 iO
noncomputable def gw:FS:=(aO (bq (az bf (ag 0) (pC (.int 6))) (gN 3))
 (aO (bq (bx bK 1 (aa (az cy (ag 0) (pC (.int 6))) am)) (gN 4))
 (aO (bq (az cn (pC (.int 1)) (az bf (az cy (ag 0) (pC (.int 156))) (dh jE (aa (pC (.int 1)) (aa (az jG (ag 2) (pC (.int 1))) am))))) (gN 5))
 (aO (bq (aD (aa (pC (.str "letter")) (aa (ag 4) am))) (gN 6))
 (aO (et (nK (aG (az fO (ag 3) (pC (.int 1)))) (gb (aG (az fO (ag 3) (pC (.int 2)))) (aG (az fO (ag 1) (pC (.int 0)))))) (bq (aD (aa (pC (.str "none")) am)) (gN 6)) (et (aG (az fO (ag 3) (pC (.int 2)))) (bq (aD (aa (pC (.str "below")) am)) (gN 6)) (et (gb (aG (az my (ag 3) (pC (.int 2)))) (aG (az my (ag 2) (pC (.int 1))))) (bq (az bC (cV (aa (aD (aa (pC (.str "layer")) (aa (ag 5) am))) (aa (aD (aa (pC (.str "tap")) (aa (ag 4) (aa (ag 5) am)))) (aa (aD (aa (pC (.str "once")) (aa (ag 5) am))) am)))) (az jG (ag 3) (pC (.int 3)))) (gN 6)) bv)))
 (ce (ag 6)))))))
noncomputable def cR:FN:=fq 7 gw
noncomputable def fV:FS:=(aO (bq (az cn (pC (.int 1)) (az bf (az bC (ag 0) (pC (.int 0))) (pC (.int 5)))) (gN 1))
 (aO (bq (az cn (pC (.int 1)) (az bf (az cy (az bC (ag 0) (pC (.int 0))) (pC (.int 5))) (pC (.int 3)))) (gN 2))
 (aO (bq (cV am) (gN 3))
 (aO (iU (ia fK (aa (ag 2) am)) (gN 4) (gi (oy 3 (dh lM (aa (eF 1 [0,4,2] (ia fK (aa (ag 1) am)) (gN 0) db (bx cR 3 (aa (az bC (ag 1) (az cn (az cn (pC (.int 1)) (az fH (pC (.int 5)) (ag 2))) (ag 0))) (aa (ag 2) (aa (ag 3) am))))) am)))))
 (aO (bq (eF 1 [3] (ia fK (aa (ag 1) am)) (gN 0) (aG (az fO (az bC (az bC (az bC (ag 1) (pC (.int 0))) (ag 0)) (pC (.int 0))) (pC (.str "letter")))) (ag 0)) (gN 5))
 (aO (bq (cV am) (gN 6))
 (aO (iU (nw (kE Cu (ag 0) (cH (pC (.int 16))) (cH (az cn (pC (.int 16)) (az bf (az cy (az bC (ag 0) (pC (.int 0))) (pC (.int 60))) (pC (.int 5))))))) (gN 7) (aO (bq (dh lM (aa (eF 1 [7] (jM 5) (gN 0) (aG (az fO (az bf (az cy (ag 1) (az bC (cV (aa (pC (.int 1)) (aa (pC (.int 2)) (aa (pC (.int 4)) (aa (pC (.int 8)) (aa (pC (.int 16)) am)))))) (ag 0))) (pC (.int 2))) (pC (.int 1)))) (ag 0)) am)) (gN 8))
 (et (gb (aG (az my (dh bV (aa (ag 8) am)) (pC (.int 1)))) (aG (az ku (ag 8) (eF 1 [] (jM 6) (gN 0) db (az bC (ag 0) (pC (.int 0))))))) (gi (oy 6 (aD (aa (ag 8) (aa (bx bK 1 (aa (az cy (ag 7) (pC (.int 32))) am)) am))))) bv)))
 (ce (aD (aa (ag 1) (aa (dh lM (aa (ag 3) am)) (aa (dh lM (aa (ag 6) am)) (aa (az cn (pC (.int 1)) (az bf (az cy (az bC (ag 0) (pC (.int 0))) (pC (.int 15))) (pC (.int 4)))) am)))))))))))))
noncomputable def dM:FN:=fq 9 fV
noncomputable def iK:FS:=(aO (et (nK (aG (az me (ag 0) (pC (.int 0)))) (aG (az Dp (ag 0) (az ji (pC (.int 10)) (pC (.int 18)))))) (ce (dh jE (aa (ag 0) (aa (az jG (pC (.int 0)) (ag 0)) am)))) bv)
 (ce (bx cz 2 (aa (bx cz 2 (aa (ag 0) (aa (ag 1) am))) (aa (pC (.int 3)) am)))))
noncomputable def bH:FN:=fq 2 iK
noncomputable def iB:FS:=(aO (bq (az bf (ag 0) (pC (.int 8))) (gN 3))
 (aO (bq (bx bK 1 (aa (az cy (ag 0) (pC (.int 8))) am)) (gN 4))
 (aO (et (nK (aG (az me (ag 3) (pC (.int 3)))) (gb (aG (az fO (ag 2) (pC (.int 1)))) (aG (az me (ag 3) (pC (.int 7)))))) (ce (aD (aa (pC (.str "letter")) (aa (ag 4) am)))) bv)
 (aO (bq (az cn (pC (.int 1)) (az bf (az cy (ag 0) (pC (.int 208))) (dh jE (aa (pC (.int 1)) (aa (az jG (ag 2) (pC (.int 1))) am))))) (gN 5))
 (aO (et (aG (az fO (ag 3) (pC (.int 3)))) (ce (aD (aa (pC (.str "layer")) (aa (ag 5) am)))) bv)
 (aO (et (aG (az fO (ag 3) (pC (.int 4)))) (ce (aD (aa (pC (.str "tap")) (aa (ag 4) (aa (ag 5) am))))) bv)
 (aO (et (aG (az fO (ag 3) (pC (.int 5)))) (ce (aD (aa (pC (.str "once")) (aa (ag 5) am)))) bv)
 (aO (et (gb (aG (az fO (ag 3) (pC (.int 6)))) (aG (az my (ag 1) (pC (.int 0))))) (ce (aD (aa (pC (.str "below")) am))) bv)
 (ce (aD (aa (pC (.str "none")) am)))))))))))
noncomputable def dB:FN:=fq 6 iB
noncomputable def jz:FS:=(aO (bq (bx bJ 2 (aa (ag 0) (aa (ag 1) am))) (gN 2))
 (aO (et (nK (aG (az me (ag 2) (pC (.int 0)))) (aG (az Dp (ag 2) (az ji (pC (.int 10)) (pC (.int 18)))))) (ce (bx dM 1 (aa (bx eU 2 (aa (ag 2) (aa (pC (.int 20)) am))) am))) bv)
 (aO (bq (bx bH 2 (aa (ag 2) (aa (ag 1) am))) (gN 2))
 (aO (bq (az fO (az bf (az cy (ag 2) (pC (.int 60))) (pC (.int 4))) (pC (.int 1))) (gN 3))
 (aO (bq (az bC (cV (aa (az cn (pC (.int 1)) (az bf (ag 2) (pC (.int 5)))) (aa (az cn (pC (.int 3)) (az bf (ag 2) (pC (.int 3)))) am))) (dh A3 (aa (ag 3) am))) (gN 4))
 (aO (bq (cV am) (gN 5))
 (aO (iU (ia fK (aa (az cn (pC (.int 1)) (az bf (az cy (ag 2) (pC (.int 5))) (pC (.int 3)))) am)) (gN 6) (aO (bq (eF 1 [0,1,6] (ia fK (aa (ag 4) am)) (gN 0) db (bx bH 2 (aa (bx bJ 2 (aa (ag 1) (aa (az cn (az cn (az cn (ag 2) (pC (.int 1))) (az fH (pC (.int 5)) (ag 3))) (ag 0)) am))) (aa (az cn (az fH (pC (.int 5)) (ag 3)) (ag 0)) am)))) (gN 7))
 (aO (gi (oy 5 (dh lM (aa (eF 1 [6,2] (jM 7) (gN 0) db (bx dB 3 (aa (ag 0) (aa (ag 1) (aa (az cn (pC (.int 1)) (az bf (az cy (ag 2) (pC (.int 5))) (pC (.int 3)))) am))))) am))))
 (et (gb (aG (ag 3)) (aG (az fO (ag 6) (pC (.int 0))))) (bq (cV (aa (dh lM (aa (eF 1 [] (jM 7) (gN 0) db (aD (aa (pC (.str "letter")) (aa (bx bK 1 (aa (az cy (ag 0) (pC (.int 8))) am)) am)))) am)) am)) (gN 5)) bv))))
 (aO (bq (eF 1 [5] (ia fK (aa (ag 4) am)) (gN 0) (aG (az fO (az bC (az bC (az bC (ag 1) (pC (.int 0))) (ag 0)) (pC (.int 0))) (pC (.str "letter")))) (ag 0)) (gN 8))
 (aO (bq (cV am) (gN 9))
 (aO (iU (ia fK (aa (az bC (cV (aa (az bf (bx bH 2 (aa (bx bJ 2 (aa (ag 0) (aa (az cn (ag 1) (pC (.int 16))) am))) (aa (pC (.int 16)) am))) (pC (.int 5))) (aa (az cn (pC (.int 1)) (az bf (az cy (ag 2) (pC (.int 240))) (pC (.int 4)))) am))) (dh A3 (aa (ag 3) am))) am)) (gN 10) (aO (bq (bx bH 2 (aa (bx bJ 2 (aa (ag 0) (aa (az cn (az cn (ag 1) (pC (.int 17))) (ag 10)) am))) (aa (az cn (pC (.int 17)) (ag 10)) am))) (gN 11))
 (aO (bq (dh lM (aa (eF 1 [11] (jM 8) (gN 0) (aG (az fO (az bf (az cy (ag 1) (az bC (cV (aa (pC (.int 1)) (aa (pC (.int 2)) (aa (pC (.int 4)) (aa (pC (.int 8)) (aa (pC (.int 16)) am)))))) (ag 0))) (pC (.int 2))) (pC (.int 1)))) (ag 0)) am)) (gN 12))
 (aO (et (aG (ag 3)) (bq (az bC (cV (aa (aD (aa (pC (.int 0)) (aa (pC (.int 1)) am))) (aa (aD (aa (pC (.int 1)) (aa (pC (.int 2)) am))) (aa (aD (aa (pC (.int 0)) (aa (pC (.int 1)) (aa (pC (.int 2)) am)))) (aa (aD (aa (pC (.int 0)) (aa (az jG (ag 4) (pC (.int 1))) am))) am))))) (az bf (az cn (ag 10) (az cy (ag 2) (pC (.int 960)))) (pC (.int 4)))) (gN 12)) bv)
 (et (gb (aG (az my (dh bV (aa (ag 12) am)) (pC (.int 1)))) (aG (az ku (ag 12) (eF 1 [] (jM 9) (gN 0) db (az bC (ag 0) (pC (.int 0))))))) (gi (oy 9 (aD (aa (ag 12) (aa (bx bK 1 (aa (az cy (ag 11) (pC (.int 32))) am)) am))))) bv)))))
 (ce (aD (aa (ag 4) (aa (dh lM (aa (ag 5) am)) (aa (dh lM (aa (ag 9) am)) (aa (az cn (pC (.int 1)) (az bf (az cy (ag 2) (pC (.int 15))) (pC (.int 4)))) am))))))))))))))))
noncomputable def gc:FN:=fq 13 jz
noncomputable def kM:FS:=(ce (az dJ (az dJ (kE kx (ag 0) eD (cH (ag 1))) (aD (aa (ag 2) am))) (kE kx (ag 0) (cH (az dJ (ag 1) (pC (.int 1)))) eD)))
noncomputable def aQ:FN:=fq 3 kM
noncomputable def dH:FS:=(aO (et (aG (az fO (dh bV (aa (ag 0) am)) (pC (.int 0)))) (ce (kE kx (aD (aa (aD (aa (aD (aa (pC (.int 0)) am)) (aa (pC (.str "c")) am))) (aa (aD (aa (aD (aa (pC (.int 0)) (aa (pC (.int 1)) am))) (aa (pC (.str "c")) am))) (aa (aD (aa (aD (aa (pC (.int 0)) (aa (ag 1) am))) (aa (pC (.str "c")) am))) (aa (aD (aa (aD (aa (pC (.int 0)) (aa (pC (.int 1)) am))) (aa (pC (.str "C")) am))) am))))) (cH (az bf (ag 2) (pC (.int 4)))) (cH (az dJ (az bf (ag 2) (pC (.int 4))) (pC (.int 1)))))) bv)
 (aO (bq (az bf (ag 3) (dh bV (aa (ag 0) am))) (gN 4))
 (aO (bq (az bC (ag 0) (ag 4)) (gT 2 (nb (gN 5) (nb (gN 6) yY))))
 (aO (bq (az cy (ag 3) (dh bV (aa (ag 0) am))) (gN 3))
 (aO (et (aG (az fO (ag 2) (pC (.int 0)))) (ce (bx aQ 3 (aa (ag 0) (aa (ag 4) (aa (aD (aa (ag 5) (aa (az bC (cV (aa (pC (.str "A")) (aa (pC (.str "")) (aa (pC (.str "ab")) (aa (pC (.str "-")) am))))) (az bf (ag 3) (pC (.int 4)))) am))) am))))) bv)
 (aO (et (aG (az fO (ag 2) (pC (.int 1)))) (ce (bx aQ 3 (aa (ag 0) (aa (ag 4) (aa (aD (aa (kE kx (ag 5) eD (cH (pC (.int 1)))) (aa (ag 6) am))) am))))) bv)
 (aO (et (aG (az fO (ag 2) (pC (.int 2)))) (ce (bx aQ 3 (aa (ag 0) (aa (ag 4) (aa (aD (aa (qY L9.Aw (ag 5)) (aa (ag 6) am))) am))))) bv)
 (aO (et (aG (az fO (ag 2) (pC (.int 3)))) (ce (bx aQ 3 (aa (ag 0) (aa (ag 4) (aa (aD (aa (az dJ (ag 5) (kE kx (ag 5) (cH (qY kW (pC (.int 1)))) eD)) (aa (ag 6) am))) am))))) bv)
 (aO (et (aG (az fO (ag 2) (pC (.int 4)))) (ce (bx aQ 3 (aa (ag 0) (aa (ag 4) (aa (aD (aa (dh lM (aa (dh L9.jv (aa (az dJ (ag 5) (aD (aa (az jG (az bf (ag 3) (az dJ (ag 1) (pC (.int 2)))) (pC (.int 1))) am))) am)) am)) (aa (ag 6) am))) am))))) bv)
 (aO (et (aG (az fO (ag 2) (pC (.int 5)))) (ce (az dJ (ag 0) (aD (aa (aD (aa (ag 5) (aa (az bC (cV (aa (ag 6) (aa (pC (.str "k")) am))) (az bf (ag 3) (pC (.int 2)))) am))) am)))) bv)
 (ce (az dJ (ag 0) (kE kx (aD (aa (aD (aa (aD (aa (pC (.int 0)) (aa (pC (.int 1)) am))) (aa (pC (.str "e")) am))) (aa (aD (aa (aD (aa (pC (.int 0)) (aa (pC (.int 2)) am))) (aa (pC (.str "f")) am))) (aa (aD (aa (aD (aa (pC (.int 1)) (aa (pC (.int 2)) am))) (aa (pC (.str "g")) am))) (aa (aD (aa (aD (aa (pC (.int 0)) (aa (pC (.int 1)) (aa (pC (.int 2)) am)))) (aa (pC (.str "h")) am))) (aa (aD (aa (aD (aa (pC (.int 1)) (aa (pC (.int 3)) am))) (aa (pC (.str "i")) am))) am)))))) (cH (dh bV (aa (ag 0) am))) eD)))))))))))))
noncomputable def b8:FN:=fq 7 dH
noncomputable def gf:FS:=(aO (bq (az bC (cV (aa (pC (.str "A")) (aa (pC (.str "")) (aa (pC (.str "ab")) (aa (pC (.str "1")) (aa (pC (.str "b")) am)))))) (az bf (ag 0) (pC (.int 5)))) (gN 2))
 (aO (bq (az bC (cV (aa (pC (.int 0)) (aa (qY kW (pC (.int 1))) (aa (ag 1) (aa (az ji (pC (.int 10)) (pC (.int 19))) (aa (pC (.int 1)) am)))))) (az bf (az cy (ag 0) (pC (.int 5))) (pC (.int 5)))) (gN 3))
 (aO (bq (cV (aa (aD (aa (pC (.str "letter")) (aa (ag 2) am))) (aa (aD (aa (pC (.str "tap")) (aa (ag 2) (aa (pC (.int 1)) am)))) (aa (aD (aa (pC (.str "tap")) (aa (pC (.str "q")) (aa (ag 3) am)))) (aa (aD (aa (pC (.str "layer")) (aa (ag 3) am))) am))))) (gN 4))
 (ce (az bC (az cn (ag 4) (cV (aa (aD (aa (pC (.str "once")) (aa (ag 3) am))) (aa (aD (aa (pC (.str "below")) am)) (aa (aD (aa (pC (.str "tap")) (aa (pC (.str "q")) (aa (pC (.int 0)) am)))) am))))) (az bf (az cy (ag 0) (pC (.int 25))) (pC (.int 7))))))))
noncomputable def cf:FN:=fq 5 gf
noncomputable def gA:FS:=(aO (bq (ag 0) (gT 4 (nb (gN 3) (nb (gN 4) (nb (gN 5) (nb (gN 6) yY))))))
 (aO (et (aG (az fO (ag 1) (pC (.int 0)))) (bq (az bC (cV (aa (pC (.int 0)) (aa (pC (.int 6)) (aa (az dJ (ag 3) (pC (.int 1))) (aa (az jG (ag 3) (pC (.int 1))) (aa (az ji (pC (.int 10)) (pC (.int 19))) am)))))) (az bf (ag 2) (pC (.int 5)))) (gN 3)) bv)
 (aO (et (aG (az fO (ag 1) (pC (.int 1)))) (bq (az bC (cV (aa (pC (.int 0)) (aa (pC (.int 5)) (aa (qY kW (pC (.int 1))) (aa (az ji (pC (.int 10)) (pC (.int 19))) am))))) (az bf (ag 2) (pC (.int 4)))) (gN 6)) bv)
 (aO (et (gb (aG (az fO (ag 1) (pC (.int 13)))) (gb (aG (az my (dh bV (aa (ag 4) am)) (pC (.int 1)))) (aG (az my (dh bV (aa (az bC (ag 4) (pC (.int 0))) am)) (pC (.int 0)))))) (aO (bq (bx aQ 3 (aa (az bC (ag 4) (pC (.int 0))) (aa (az bf (ag 2) (dh bV (aa (az bC (ag 4) (pC (.int 0))) am))) (aa (aD (aa (pC (.str "below")) am)) am)))) (gN 7))
 (bq (bx aQ 3 (aa (bx aQ 3 (aa (ag 4) (aa (pC (.int 0)) (aa (ag 7) am)))) (aa (pC (.int 1)) (aa (az dJ (az bC (ag 4) (pC (.int 1))) (aD (aa (aD (aa (pC (.str "none")) am)) am))) am)))) (gN 4))) bv)
 (aO (et (aG (eh me me (pC (.int 5)) (ag 1) (pC (.int 13)))) (bq (bx b8 4 (aa (ag 5) (aa (dh jE (aa (pC (.int 1)) (aa (az bf (ag 3) (pC (.int 7))) am))) (aa (az jG (ag 1) (pC (.int 6))) (aa (ag 2) am))))) (gN 5)) bv)
 (aO (et (gb (aG (eh me me (pC (.int 1)) (ag 1) (pC (.int 6)))) (aG (az my (dh bV (aa (ag 4) am)) (pC (.int 0))))) (aO (bq (az bf (ag 2) (dh bV (aa (ag 4) am))) (gN 8))
 (aO (bq (az cy (ag 2) (dh bV (aa (ag 4) am))) (gN 2))
 (aO (bq (az bC (ag 4) (ag 8)) (gN 9))
 (aO (et (aG (az fO (ag 1) (pC (.int 2)))) (bq (az bC (cV (aa (az dJ (kE kx (ag 4) eD (cH (ag 8))) (kE kx (ag 4) (cH (az dJ (ag 8) (pC (.int 1)))) eD)) (aa (az dJ (ag 4) (aD (aa (ag 9) am))) am))) (az bf (ag 2) (pC (.int 2)))) (gN 4)) bv)
 (aO (et (aG (az fO (ag 1) (pC (.int 3)))) (bq (bx aQ 3 (aa (ag 4) (aa (ag 8) (aa (az bC (cV (aa (kE kx (ag 9) (cH (pC (.int 1))) eD) (aa (az dJ (ag 9) (aD (aa (aD (aa (pC (.str "none")) am)) am))) am))) (az bf (ag 2) (pC (.int 2)))) am)))) (gN 4)) bv)
 (et (gb (aG (az my (ag 1) (pC (.int 3)))) (aG (az my (dh bV (aa (ag 9) am)) (pC (.int 0))))) (aO (bq (bx cf 2 (aa (az cy (ag 2) (dh bV (aa (ag 9) am))) (aa (dh bV (aa (ag 4) am)) am))) (gN 10))
 (bq (bx aQ 3 (aa (ag 4) (aa (ag 8) (aa (bx aQ 3 (aa (ag 9) (aa (az bf (ag 2) (dh bV (aa (ag 9) am))) (aa (ag 10) am)))) am)))) (gN 4))) bv)))))) bv)
 (ce (aD (aa (ag 3) (aa (ag 4) (aa (ag 5) (aa (ag 6) am))))))))))))
noncomputable def cZ:FN:=fq 11 gA
noncomputable def gE:FS:=(ce (so (az fO (dh A2 (aa (ag 0) am)) (pC (.int 1))) (eh BL BL (pC (.str "a")) (ag 0) (pC (.str "z")))))
noncomputable def cv:FN:=fq 1 gE
noncomputable def ju:FS:=(aO (et (gb (aG (az ng (az bC (ag 0) (pC (.int 0))) (cV (aa (pC (.str "letter")) (aa (pC (.str "tap")) am))))) (gL (aG (bx cv 1 (aa (az bC (ag 0) (pC (.int 1))) am))))) (ce (pC (.bool false))) bv)
 (aO (et (gb (aG (az ng (az bC (ag 0) (pC (.int 0))) (cV (aa (pC (.str "layer")) (aa (pC (.str "tap")) (aa (pC (.str "once")) am)))))) (nK (aG (az me (az bC (ag 0) (qY kW (pC (.int 1)))) (pC (.int 1)))) (aG (az Dp (az bC (ag 0) (qY kW (pC (.int 1)))) (ag 2))))) (ce (pC (.bool false))) bv)
 (ce (Ci (az mY (az bC (ag 0) (pC (.int 0))) (pC (.str "below"))) (az my (ag 1) (pC (.int 0)))))))
noncomputable def fL:FN:=fq 3 ju
noncomputable def gq:FS:=(aO (bq (az bC (ag 0) (ag 1)) (gT 2 (nb (gN 4) (nb (gN 5) yY))))
 (aO (et (nK (gL (aG (bx cv 1 (aa (ag 5) am)))) (nK (aG (az me (dh bV (aa (ag 4) am)) (pC (.int 2)))) (nK (aG (az mY (dh yE (aa (ag 4) am)) (dh L9.jv (aa (ag 4) am)))) (aG (az me (L9.nW (aa (ag 4) am)) (dh bV (aa (ag 4) am))))))) (ce (pC (.bool false))) bv)
 (aO (et (gL (aG (dh tP (aa (eF 1 [3] (nw (ag 4)) (gN 0) db (az ng (ag 0) (ag 1))) am)))) (ce (pC (.bool false))) bv)
 (ce (az ku (ag 4) (eF 1 [] (nw (kE kx (ag 0) eD (cH (ag 1)))) (gN 0) db (az bC (ag 0) (pC (.int 0)))))))))
noncomputable def df:FN:=fq 6 gq
noncomputable def kY:FS:=(aO (bq (ag 0) (gT 4 (nb (gN 1) (nb (gN 2) (nb (gN 3) (nb (gN 4) yY))))))
 (aO (et (nK (aG (az ku (ag 1) (cV (aa (pC (.int 1)) (aa (pC (.int 2)) (aa (pC (.int 3)) (aa (pC (.int 4)) (aa (pC (.int 5)) am)))))))) (nK (aG (az ku (dh bV (aa (ag 2) am)) (cV (aa (pC (.int 1)) (aa (pC (.int 2)) (aa (pC (.int 3)) am)))))) (nK (aG (az my (dh bV (aa (ag 3) am)) (pC (.int 4)))) (aG (az ku (ag 4) (cV (aa (pC (.int 1)) (aa (pC (.int 2)) (aa (pC (.int 3)) (aa (pC (.int 4)) am)))))))))) (ce (aD (aa (pC (.int 0)) (aa (pC .none) (aa (pC .none) am))))) bv)
 (aO (iU (ia fK (aa (dh bV (aa (ag 2) am)) am)) (gN 5) (aO (et (aG (az mY (dh bV (aa (az bC (ag 2) (ag 5)) am)) (ag 1))) (ce (aD (aa (pC (.int 0)) (aa (ag 5) (aa (pC .none) am))))) bv)
 (iU (ia fK (aa (ag 1) am)) (gN 6) (et (gL (aG (bx fL 3 (aa (az bC (az bC (ag 2) (ag 5)) (ag 6)) (aa (ag 5) (aa (dh bV (aa (ag 2) am)) am)))))) (ce (aD (aa (pC (.int 0)) (aa (ag 5) (aa (ag 6) am))))) bv))))
 (aO (bq (eF 1 [2] (ia fK (aa (ag 1) am)) (gN 0) (aG (az fO (az bC (az bC (az bC (ag 1) (pC (.int 0))) (ag 0)) (pC (.int 0))) (pC (.str "letter")))) (ag 0)) (gN 7))
 (aO (iU (ia fK (aa (dh bV (aa (ag 3) am)) am)) (gN 8) (et (gL (aG (bx df 4 (aa (ag 3) (aa (ag 8) (aa (ag 1) (aa (ag 7) am))))))) (ce (aD (aa (pC (.int 1)) (aa (ag 8) (aa (pC .none) am))))) bv))
 (ce (pC .none)))))))
noncomputable def f8:FN:=fq 9 kY
noncomputable def jL:FS:=(ce (so (az fO (dh A2 (aa (ag 0) am)) (pC (.int 1))) (eh BL BL (pC (.str "a")) (ag 0) (pC (.str "z")))))
noncomputable def dq:FN:=fq 1 jL
noncomputable def kN:FS:=(aO (bq (az bC (ag 0) (pC (.int 0))) (gN 3))
 (aO (et (aG (az fO (ag 3) (pC (.str "below")))) (ce (az mY (ag 1) (pC (.int 0)))) bv)
 (aO (et (gb (aG (az ng (ag 3) (aD (aa (pC (.str "letter")) (aa (pC (.str "tap")) am))))) (gL (aG (bx dq 1 (aa (az bC (ag 0) (pC (.int 1))) am))))) (ce (pC (.bool false))) bv)
 (aO (et (aG (az ng (ag 3) (aD (aa (pC (.str "layer")) (aa (pC (.str "tap")) (aa (pC (.str "once")) am)))))) (ce (eh tQ me (pC (.int 1)) (az bC (ag 0) (qY kW (pC (.int 1)))) (ag 2))) bv)
 (ce (pC (.bool true)))))))
noncomputable def gh:FN:=fq 4 kN
noncomputable def r9:FS:=(ce (dh tP (aa (eF 2 [] (BM (aa (ag 0) (aa (kE Cu (ag 0) (cH (pC (.int 1))) eD) am))) (gT 2 (nb (gN 0) (nb (gN 1) yY))) db (az me (ag 0) (ag 1))) am)))
noncomputable def j9:FN:=fq 1 r9
noncomputable def iD:FS:=(aO (et (nK (aG (az me (dh bV (aa (ag 1) am)) (pC (.int 2)))) (gL (aG (bx j9 1 (aa (ag 1) am))))) (ce (pC (.bool false))) bv)
 (ce (dh tP (aa (eF 1 [0] (nw (ag 1)) (gN 0) db (so (eh tQ me (pC (.int 0)) (ag 0) (az bC (ag 1) (pC (.int 0)))) (az fO (az bC (az bC (az bC (az bC (ag 1) (pC (.int 1))) (pC (.int 0))) (ag 0)) (pC (.int 0))) (pC (.str "letter"))))) am))))
noncomputable def dD:FN:=fq 2 iD
noncomputable def ei:FS:=(aO (et (nK (gL (aG (eh tQ tQ (pC (.int 1)) (az bC (ag 0) (pC (.int 0))) (pC (.int 5))))) (gL (aG (eh tQ tQ (pC (.int 1)) (dh bV (aa (az bC (ag 0) (pC (.int 1))) am)) (pC (.int 3)))))) (L9.g7 "NoBed" "layer" "key" (aa (pC .none) (aa (pC .none) am))) bv)
 (et (nK (aG (az my (dh bV (aa (az bC (ag 0) (pC (.int 2))) am)) (pC (.int 4)))) (gL (aG (eh tQ tQ (pC (.int 1)) (az bC (ag 0) (pC (.int 3))) (pC (.int 4)))))) (L9.g7 "NoBed" "layer" "key" (aa (pC .none) (aa (pC .none) am))) bv))
noncomputable def cX:FN:=fq 1 ei
noncomputable def fA:FS:=(aO (bq (az bC (az bC (ag 0) (pC (.int 1))) (ag 1)) (gN 2))
 (aO (et (aG (az mY (dh bV (aa (ag 2) am)) (az bC (ag 0) (pC (.int 0))))) (L9.g7 "NoBed" "layer" "key" (aa (ag 1) (aa (pC .none) am))) bv)
 (iU (L3.qh (aa (ag 2) am)) (gT 2 (nb (gN 3) (nb (gN 4) yY))) (et (gL (aG (bx gh 3 (aa (ag 4) (aa (ag 1) (aa (dh bV (aa (az bC (ag 0) (pC (.int 1))) am)) am)))))) (L9.g7 "NoBed" "layer" "key" (aa (ag 1) (aa (ag 3) am))) bv))))
noncomputable def c7:FN:=fq 5 fA
noncomputable def fx:FS:=(aO (bq (az bC (az bC (az bC (ag 0) (pC (.int 2))) (ag 1)) (pC (.int 0))) (gN 2))
 (aO (et (nK (gL (aG (bx dq 1 (aa (az bC (az bC (az bC (ag 0) (pC (.int 2))) (ag 1)) (pC (.int 1))) am)))) (gL (aG (bx dD 2 (aa (ag 0) (aa (ag 2) am)))))) (L9.kh "NoChord" "place" (ag 1)) bv)
 (et (aG (az ng (ag 2) (eF 1 [] (nw (kE kx (az bC (ag 0) (pC (.int 2))) eD (cH (ag 1)))) (gN 0) db (az bC (ag 0) (pC (.int 0)))))) (L9.kh "NoChord" "place" (ag 1)) bv)))
noncomputable def ez:FN:=fq 3 fx
noncomputable def gG:FS:=(aO (gi (kH cX 1 (aa (ag 0) am)))
 (aO (iU (ia fK (aa (dh bV (aa (az bC (ag 0) (pC (.int 1))) am)) am)) (gN 1) (gi (kH c7 2 (aa (ag 0) (aa (ag 1) am)))))
 (aO (iU (ia fK (aa (dh bV (aa (az bC (ag 0) (pC (.int 2))) am)) am)) (gN 2) (gi (kH ez 2 (aa (ag 0) (aa (ag 2) am)))))
 (ce (ag 0)))))
noncomputable def dg:FN:=fq 3 gG
noncomputable def bM:FN
 |[b]=>(match dg [b] with
  | .er x=>if x.cls= "NoBed" then(match x.fs with
    |[(g,k),(f,l)]=>if g= "key"∧f= "layer"∧L9.pP k=true∧L9.pP l=true then .ok (.fz (.tuple [.int 0,l,k])) else .bad
    |_=> .bad)
   else if x.cls= "NoChord" then(match x.fs with
    |[(f,d)]=>if f= "place"∧L9.pP d=true then .ok (.fz (.tuple [.int 1,d,.none])) else .bad
    |_=> .bad) else .bad
  | .ok (.fz d)=>(match mY d b with
   |some (.fz (.bool false))=> .ok (.fz .none)
   |_=> .bad)
  |_=> .bad)
 |_=> .bad
noncomputable def jB:FS:=(ce (so (yf "int" (ag 0)) (zh (yf "bool" (ag 0)))))
noncomputable def dk:FN:=fq 1 jB
noncomputable def Ak:FS:=(aO (bq (bx gc 2 (aa (ag 0) (aa (pC (.int 7)) am))) (gN 1))
 (aO (bq (ag 1) (gN 2))
 (aO (iU (ia fK (aa (az bf (bx bH 2 (aa (bx bJ 2 (aa (ag 0) (aa (pC (.int 0)) am))) (aa (pC (.int 30)) am))) (pC (.int 4))) am)) (gN 3) (aO (bq (cV (aa (pC (.int 0)) (aa (pC (.int 1)) (aa (pC (.int 2)) (aa (pC (.int 3)) (aa (pC (.int 4)) (aa (pC (.int 4)) (aa (pC (.int 4)) (aa (pC (.int 5)) (aa (pC (.int 5)) (aa (pC (.int 6)) (aa (pC (.int 7)) (aa (pC (.int 8)) (aa (pC (.int 9)) (aa (pC (.int 10)) (aa (pC (.int 10)) (aa (pC (.int 11)) (aa (pC (.int 11)) (aa (pC (.int 12)) (aa (pC (.int 13)) am)))))))))))))))))))) (gN 4))
 (aO (bq (az bC (ag 4) (az bf (bx bH 2 (aa (bx bJ 2 (aa (ag 0) (aa (az cn (pC (.int 1)) (az fH (pC (.int 2)) (ag 3))) am))) (aa (az cn (pC (.int 31)) (ag 3)) am))) (pC (.int 19)))) (gN 5))
 (bq (bx cZ 3 (aa (ag 2) (aa (ag 5) (aa (bx bH 2 (aa (bx bJ 2 (aa (ag 0) (aa (az cn (pC (.int 2)) (az fH (pC (.int 2)) (ag 3))) am))) (aa (az cn (pC (.int 35)) (ag 3)) am))) am)))) (gN 2)))))
 (aO (bq (bx f8 1 (aa (ag 2) am)) (gN 6))
 (aO (bq (bx bM 1 (aa (ag 2) am)) (gN 7))
 (aO (et (aG (az mY (ag 7) (ag 6))) (ce (pC (.bool false))) bv)
 (aO (et (gb (aG (az BS (ag 6) (pC .none))) (gL (aG (dh tP (aa (eF 1 [] (nw (ag 7)) (gN 0) db (Ci (az tF (ag 0) (pC .none)) (bx dk 1 (aa (ag 0) am)))) am))))) (ce (pC (.bool false))) bv)
 (ce (az tF (bx bM 1 (aa (ag 1) am)) (pC .none))))))))))
noncomputable def F_law:FN:=fq 8 Ak
noncomputable def ou (ns:List Int) (lo hi:Option Int):List Int:=(ns.drop (HT.sIx ns.length 0 lo)).take (HT.sIx ns.length ns.length hi - HT.sIx ns.length 0 lo)
theorem km (ns:List Int) (k:Int) (hk:0≤k) (hl:ns.length≤63):∃c:Int,bJ [.list (ns.map .int),.int k]= .ok (.fz (.int c)):=by
 unfold bJ jX
 have e1:Cu (.list (ns.map .int)) (some k) (some (k+1))=some (.ow (ie (ns.map .int) (some k) (some (k+1)))):=rfl
 have hc:ie (ns.map PyData.int) (some k) (some (k+1))=(ou ns (some k) (some (k+1))).map .int:=by unfold ie ou;rw[List.length_map,List.map_take,List.map_drop]
 rw[hc] at e1
 have hcl:(ou ns (some k) (some (k+1))).length≤63:=by
  unfold ou
  rw[List.length_take,List.length_drop]
  omega
 generalize ou ns (some k) (some (k+1))=cs at e1 hcl
 have e2:cn (.list (cs.map .int)) (.list [.int 0])=some (.ow (cs.map .int++[.int 0])):=by
  show(if(cs.map PyData.int).length+1≤1000000 then _ else _)=_
  rw[List.length_map,if_pos (by omega)]
 cases cs with
 |nil=>
  have e3:bC (.list (([]:List Int).map PyData.int++[.int 0])) (.int 0)=some (.fz (.int 0)):=yL
  exact⟨0,ey (ρ:=[some (.fz (.list (ns.map .int))),some (.fz (.int k))]) rfl (cb (by walk_at "ev") rfl rfl)⟩
 |cons c r=>
  have e3:bC (.list ((c::r).map PyData.int++[.int 0])) (.int 0)=some (.fz (.int c)):=yL
  exact⟨c,ey (ρ:=[some (.fz (.list (ns.map .int))),some (.fz (.int k))]) rfl (cb (by walk_at "ev") rfl rfl)⟩
theorem lh (c s:Int) (h0:0≤s) (h1:s≤1000):∃r:Int,0≤r∧cz [.int c,.int s]= .ok (.fz (.int r)):=by
 unfold cz iz
 have b1:0≤c % 1000000007∧c % 1000000007<1000000007:=⟨Int.emod_nonneg _ (by decide),Int.emod_lt_of_pos _ (by decide)⟩
 have m1:bf (.int c) (.int 1000000007)=some (.fz (.int (c % 1000000007))):=bU (by decide)
 have m2:fH (.int 13) (.int s)=some (.fz (.int (13*s))):=gu ⟨by omega,by omega⟩
 generalize c % 1000000007=x at b1 m1
 have m3:fH (.int s) (.int s)=some (.fz (.int (s*s))):=gu ⟨by omega,by omega⟩
 generalize s*s=ss at m3
 have m4:fH (.int (x+13*s)) (.int (x+13*s+ss+11))=some (.fz (.int ((x+13*s)*(x+13*s+ss+11)))):=gu ⟨by omega,by omega⟩
 generalize (x+13*s)*(x+13*s+ss+11)=y at m4
 have m5:fH (.int 40487) (.int s)=some (.fz (.int (40487*s))):=gu ⟨by omega,by omega⟩
 have b2:0≤(y+40487*s+7) % 1000000033∧(y+40487*s+7) % 1000000033<1000000033:=⟨Int.emod_nonneg _ (by decide),Int.emod_lt_of_pos _ (by decide)⟩
 have m6:bf (.int (y+40487*s+7)) (.int 1000000033)=some (.fz (.int ((y+40487*s+7) % 1000000033))):=bU (by decide)
 generalize (y+40487*s+7) % 1000000033=z at b2 m6
 have m7:cy (.int z) (.int 7)=some (.fz (.int (z/7))):=dL ⟨by omega,by omega⟩
 have m8:fH (.int z) (.int (z/7+31))=some (.fz (.int (z*(z/7+31)))):=gu ⟨by omega,by omega⟩
 generalize z*(z/7+31)=u at m8
 have b3:0≤(u+90001) % 999999937:=Int.emod_nonneg _ (by decide)
 have m9:bf (.int (u+90001)) (.int 999999937)=some (.fz (.int ((u+90001) % 999999937))):=bU (by decide)
 have m10:cy (.int ((u+90001) % 999999937)) (.int 3)=some (.fz (.int ((u+90001) % 999999937/3))):=dL ⟨by omega,by omega⟩
 refine⟨(u+90001) % 999999937/3,by omega,ey (ρ:=[some (.fz (.int c)),some (.fz (.int s)),none]) rfl (ej (dn (by walk_at "ev") rfl (ej (dn (by walk_at "ev") rfl (cb (by walk_at "ev") rfl rfl)))))⟩
theorem zz (c:Int):0≤if 0 - c>c then 0 - c else c:=by split<;>omega
theorem jC (c s:Int) (h0:0≤s) (h1:s≤1000):∃r:Int,0≤r∧bH [.int c,.int s]= .ok (.fz (.int r)):=by
 unfold bH iK
 obtain⟨r,hr,er⟩:=lh c s h0 h1
 obtain⟨q,hq,eq⟩:=lh r 3 (by decide) (by decide)
 have em:jE [.int c,.int (0 - c)]=some (.fz (.int (if 0 - c>c then 0 - c else c))):=rfl
 have nn:=zz c
 generalize (if 0 - c>c then 0 - c else c)=mx at em nn
 obtain⟨rv,e,t⟩:=jD (ds:=[.int c,.int s]) (ρ:=[some (.fz (.int c)),some (.fz (.int s))]) (n:=2) (g:=iK) (T:=fun v=>∃r:Int,0≤r∧v= .fz (.int r)) rfl
  (ej (eO (by walk_at "ev") (fun _=>cb (by walk_at "ev") rfl ⟨mx,nn,rfl⟩) (fun _=>cN (cb (by walk_at "ev") rfl ⟨q,hq,rfl⟩))))
 obtain⟨r,h,rfl⟩:=t
 exact⟨r,h,e⟩
theorem yk (c:Int):∃xs:List Int,xs.length=20∧(∀x∈xs,0≤x)∧eU [.int c,.int 20]= .ok (.ow (xs.map .int)):=by
 have nn:=zz c
 have em:jE [.int c,.int (0 - c)]=some (.fz (.int (if 0 - c>c then 0 - c else c))):=rfl
 generalize (if 0 - c>c then 0 - c else c)=mx at em nn
 have p8:=Hr
 have p24:=Gn
 have r20:fK [.int 20]=some (eS (List.range 20)):=jA (n:=20) (by decide) (by decide)
 have r3:fK [.int 3]=some (eS (List.range 3)):=jA (n:=3) (by decide) (by decide)
 obtain⟨rv,e,xs,h1,h2,rfl⟩:=jD (ds:=[.int c,.int 20]) (ρ:=[some (.fz (.int c)),some (.fz (.int 20)),none,none,none,none,none]) (n:=7) (g:=gR) (T:=fun v=>∃xs:List Int,xs.length=20∧(∀x∈xs,0≤x)∧v= .ow (xs.map .int)) rfl (by
  unfold gR
  walk_at "go"
  with_reducible apply iC (fun i ρ=>∃(xs:List Int) (l:Int) (t4 t5 t6:Option PV),ρ=[some (.fz (.int c)),some (.fz (.int 20)),some (.ow (xs.map .int)),some (.fz (.int l)),t4,t5,t6]∧xs.length=i∧(∀x∈xs,0≤x)∧0≤l)
  ·walk_at "ev"
  ·exact⟨[],mx,none,none,none,rfl,rfl,fun x h=>(by cases h),nn⟩
  ·rintro i d ρ hi ⟨xs,l,t4,t5,t6,rfl,hxl,hx,hl⟩
   obtain⟨k,hk,rfl⟩:=gU hi
   have hk20:k<20:=List.mem_range.mp (List.mem_of_getElem? hk)
   have hi20:i<20:=by have:=(List.getElem?_eq_some_iff.mp hk).1;simpa using this
   refine⟨_,rfl,?_⟩
   walk_at "go"
   with_reducible apply iC (fun i ρ=>∃(x:Int) (t6:Option PV),ρ=[some (.fz (.int c)),some (.fz (.int 20)),some (.ow (xs.map .int)),some (.fz (.int l)),some (.fz (nd k)),some (.fz (.int x)),t6]∧0≤x)
   ·walk_at "ev"
   ·exact⟨0,t6,rfl,by decide⟩
   ·rintro j d ρ hj ⟨x,t6,rfl,hx0⟩
    obtain⟨jj,hjj,rfl⟩:=gU hj
    have hj3:jj<3:=List.mem_range.mp (List.mem_of_getElem? hjj)
    obtain⟨r,hr,er⟩:=lh c (3*(k:Int)+(jj:Int)) (by omega) (by omega)
    have m1:fH (.int 3) (nd k)=some (.fz (.int (3*(k:Int)))):=gu ⟨by omega,by omega⟩
    have m2:fH (.int x) (.int (10^8))=some (.fz (.int (x*10^8))):=Aj ⟨by decide,by decide⟩
    have m3:bf (.int r) (.int (10^8))=some (.fz (.int (r % 10^8))):=bU (by decide)
    have n3:0≤r % 10^8:=Int.emod_nonneg _ (by decide)
    refine⟨_,rfl,?_⟩
    walk_at "go"
    refine⟨x*10^8+r % 10^8,_,rfl,?_⟩
    have:0≤x*10^8:=Int.mul_nonneg hx0 (by decide)
    omega
   ·rintro ρ ⟨x,t6,rfl,hx0⟩
    have m3:bf (.int l) (.int (10^24))=some (.fz (.int (l % 10^24))):=bU (by decide)
    have m4:cy (.int l) (.int (10^24))=some (.fz (.int (l/10^24))):=dL ⟨by decide,by decide⟩
    have n3:0≤l % 10^24:=Int.emod_nonneg _ (by decide)
    have n4:0≤l/10^24:=Int.ediv_nonneg hl (by decide)
    have fin:∀(x l:Int) (t6:Option PV),0≤x→0≤l→Go (gi (oy 2 (ag 5)) [some (.fz (.int c)),some (.fz (.int 20)),some (.ow (xs.map .int)),some (.fz (.int l)),some (.fz (nd k)),some (.fz (.int x)),t6])
      (fun ρ=>∃(xs:List Int) (l:Int) (t4 t5 t6:Option PV),ρ=[some (.fz (.int c)),some (.fz (.int 20)),some (.ow (xs.map .int)),some (.fz (.int l)),t4,t5,t6]∧xs.length=i+1∧(∀x∈xs,0≤x)∧0≤l)
      (fun ρ=>∃(xs:List Int) (l:Int) (t4 t5 t6:Option PV),ρ=[some (.fz (.int c)),some (.fz (.int 20)),some (.ow (xs.map .int)),some (.fz (.int l)),t4,t5,t6]∧xs.length=i+1∧(∀x∈xs,0≤x)∧0≤l)
      (fun v=>∃xs:List Int,xs.length=20∧(∀x∈xs,0≤x)∧v= .ow (xs.map .int)):=fun x l t6 h0 h1=>by
     have hlen:(xs.map PyData.int).length<1000000:=by rw[List.length_map];omega
     refine kq (by walk_at "ev") ⟨xs++[x],l,_,_,_,by rw[List.map_append];rfl,by rw[List.length_append,hxl];rfl,fun y hy=> ?_,h1⟩
     rcases List.mem_append.mp hy with z|z
     ·exact hx y z
     ·rw[List.mem_singleton.mp z];exact h0
    have p18:=yU
    walk_at "go"
    ·intro _
     walk_at "go"
     exact fin _ _ _ n3 n4
    ·intro _
     exact cG (fin _ _ _ hx0 hl)
  ·rintro ρ ⟨xs,l,t4,t5,t6,rfl,hxl,hx,hl⟩
   exact cb (by walk_at "ev") rfl ⟨xs,hxl,hx,rfl⟩)
 exact⟨xs,h1,h2,e⟩
noncomputable def A8 (c:Nat):Str:=⟨#[97+c]⟩
inductive Mn where
 |letter (c:Nat)
 |layer (n:Int)
 |tap (c:Nat) (n:Int)
 |once (n:Int)
 |none
 |below
noncomputable def mD:Mn→D
 | .letter c=> .tuple [.str "letter",.str (A8 c)]
 | .layer n=> .tuple [.str "layer",.int n]
 | .tap c n=> .tuple [.str "tap",.str (A8 c),.int n]
 | .once n=> .tuple [.str "once",.int n]
 | .none=> .tuple [.str "none"]
 | .below=> .tuple [.str "below"]
noncomputable def VM (L nL:Int):Mn→Prop
 | .letter c=>c<26
 | .layer n=>1≤n∧n<nL
 | .tap c n=>c<26∧1≤n∧n<nL
 | .once n=>1≤n∧n<nL
 | .none=>True
 | .below=>L≠0
noncomputable def Mn.isL:Mn→Bool
 | .letter _=>true
 |_=>false
theorem kr (x:Int) (h:0≤x):∃c:Nat,c<26∧bK [.int x]= .ok (.fz (.str (A8 c))):=by
 unfold bK iO
 have b1:0≤x % 26∧x % 26<26:=⟨Int.emod_nonneg _ (by decide),Int.emod_lt_of_pos _ (by decide)⟩
 have m1:bf (.int x) (.int 26)=some (.fz (.int (x % 26))):=bU (by decide)
 have tab:∀c,c<26→(("abcdefghijklmnopqrstuvwxyz":Str).cps.toList)[c]? =some (97+c):=by decide+kernel
 have ln:("abcdefghijklmnopqrstuvwxyz":Str).length≤1000000:=by decide+kernel
 have m2:Gy (.str "abcdefghijklmnopqrstuvwxyz") (.int (x % 26))=some (.fz (.str (A8 (x % 26).toNat))):=by
  show(if("abcdefghijklmnopqrstuvwxyz":Str).length≤1000000 then(nq ("abcdefghijklmnopqrstuvwxyz":Str).cps.toList (x % 26)).map (fun c=>RV.fz (.str ⟨#[c]⟩)) else none)=_
  rw[if_pos ln,rR b1.1 (tab (x % 26).toNat (by omega))]
  rfl
 exact⟨(x % 26).toNat,by omega,ey (ρ:=[some (.fz (.int x))]) rfl (cb (by walk_at "ev") rfl rfl)⟩
theorem ub (x k nL:Int) (h:0≤x) (hk:0<k∧k<2^128) (hn:1≤nL):∃t:Int,1≤t∧(2≤nL→t<nL)∧True∧
  cy (.int x) (.int k)=some (.fz (.int (x/k)))∧jE [.int 1,.int (nL - 1)]=some (.fz (.int (if nL - 1>1 then nL - 1 else 1)))∧bf (.int (x/k)) (.int (if nL - 1>1 then nL - 1 else 1))=some (.fz (.int (t - 1)))∧cn (.int 1) (.int (t - 1))=some (.fz (.int t)):=by
 have hp:0<if nL - 1>1 then nL - 1 else 1:=by split<;>omega
 have b1:0≤(x/k) % (if nL - 1>1 then nL - 1 else 1):=Int.emod_nonneg _ (by omega)
 have b2:(x/k) % (if nL - 1>1 then nL - 1 else 1)<(if nL - 1>1 then nL - 1 else 1):=Int.emod_lt_of_pos _ hp
 refine⟨1+(x/k) % (if nL - 1>1 then nL - 1 else 1),by omega,fun h2=> ?_,trivial,dL hk,rfl,?_,?_⟩
 ·split at b2<;>split<;>omega
 ·rw[bU hp]
  congr 3
  omega
 ·rw[vE]
  congr 3
  omega
theorem vH (x L nL:Int) (h:0≤x) (hL:0≤L) (hn:1≤nL):∃m,VM L nL m∧dB [.int x,.int L,.int nL]= .ok (.fz (mD m)):=by
 have b1:0≤x % 8∧x % 8<8:=⟨Int.emod_nonneg _ (by decide),Int.emod_lt_of_pos _ (by decide)⟩
 have m1:bf (.int x) (.int 8)=some (.fz (.int (x % 8))):=bU (by decide)
 have m2:cy (.int x) (.int 8)=some (.fz (.int (x/8))):=dL ⟨by decide,by decide⟩
 obtain⟨c,hc,ec⟩:=kr (x/8) (by omega)
 obtain⟨t,t1,t2,_,m3,m4,m5,m6⟩:=ub x 208 nL h ⟨by decide,by decide⟩ hn
 generalize x % 8=s at b1 m1
 have e4:∀a:Int,fO (.int s) (.int a)=some (.fz (.bool (decide (s=a)))):=fun a=>ib _ _
 obtain⟨rv,e,m,hm,rfl⟩:=jD (ds:=[.int x,.int L,.int nL]) (ρ:=[some (.fz (.int x)),some (.fz (.int L)),some (.fz (.int nL)),none,none,none]) (n:=6) (g:=iB) (T:=fun v=>∃m,VM L nL m∧v= .fz (mD m)) rfl (by
  refine ej (dn (by walk_at "ev") rfl (ej (dn (by walk_at "ev") rfl (ej (eO (by walk_at "ev") (fun _=>cb (by walk_at "ev") rfl ⟨.letter c,hc,rfl⟩) (fun q=>cN ?_))))))
  have q1:¬s<3:=by intro z;rw[decide_eq_true z] at q;cases q
  have q2:¬(nL=1∧s<7):=by
   rintro⟨z1,z2⟩
   rw[decide_eq_true z1,decide_eq_true z2,Bool.and_self,Bool.or_true] at q
   cases q
  refine ej (dn (by walk_at "ev") rfl (ej (eO (by walk_at "ev") (fun q=>cb (by walk_at "ev") rfl ⟨.layer t,⟨t1,t2 ?_⟩,rfl⟩) (fun q3=>cN ?_))))
  ·have:=of_decide_eq_true q;omega
  refine ej (eO (by walk_at "ev") (fun q=>cb (by walk_at "ev") rfl ⟨.tap c t,⟨hc,t1,t2 ?_⟩,rfl⟩) (fun q4=>cN ?_))
  ·have:=of_decide_eq_true q;omega
  refine ej (eO (by walk_at "ev") (fun q=>cb (by walk_at "ev") rfl ⟨.once t,⟨t1,t2 ?_⟩,rfl⟩) (fun q5=>cN ?_))
  ·have:=of_decide_eq_true q;omega
  refine ej (eO (by walk_at "ev") (fun q=>cb (by walk_at "ev") rfl ⟨.below,?_,rfl⟩) (fun q6=>cN (cb (by walk_at "ev") rfl ⟨.none,True.intro,rfl⟩)))
  ·have q':=(Bool.and_eq_true _ _▸q:_∧_).2
   have:=of_decide_eq_true q'
   show L≠0
   omega)
 exact⟨m,hm,e⟩
theorem pM (x L nL:Int) (h:0≤x) (hL:0≤L) (hn:1≤nL):∃m,VM L nL m∧cR [.int x,.int L,.int nL]= .ok (.fz (mD m)):=by
 have b1:0≤x % 6∧x % 6<6:=⟨Int.emod_nonneg _ (by decide),Int.emod_lt_of_pos _ (by decide)⟩
 have m1:bf (.int x) (.int 6)=some (.fz (.int (x % 6))):=bU (by decide)
 have m2:cy (.int x) (.int 6)=some (.fz (.int (x/6))):=dL ⟨by decide,by decide⟩
 obtain⟨c,hc,ec⟩:=kr (x/6) (by omega)
 obtain⟨t,t1,t2,_,m3,m4,m5,m6⟩:=ub x 156 nL h ⟨by decide,by decide⟩ hn
 generalize x % 6=s at b1 m1
 obtain⟨rv,e,m,hm,rfl⟩:=jD (ds:=[.int x,.int L,.int nL]) (ρ:=[some (.fz (.int x)),some (.fz (.int L)),some (.fz (.int nL)),none,none,none,none]) (n:=7) (g:=gw) (T:=fun v=>∃m,VM L nL m∧v= .fz (mD m)) rfl (by
  refine ej (dn (by walk_at "ev") rfl (ej (dn (by walk_at "ev") rfl (ej (dn (by walk_at "ev") rfl (ej (dn (by walk_at "ev") rfl (ej ?_))))))))
  refine eO (by walk_at "ev") (fun _=>dn (by walk_at "ev") rfl (cb (by walk_at "ev") rfl ⟨.none,True.intro,rfl⟩)) (fun q1=> ?_)
  refine eO (by walk_at "ev") (fun q2=>dn (by walk_at "ev") rfl (cb (by walk_at "ev") rfl ⟨.below,?_,rfl⟩)) (fun q2=> ?_)
  ·have z2:=of_decide_eq_true q2
   show L≠0
   intro z
   rw[decide_eq_true z2,decide_eq_true z,Bool.and_self,Bool.or_true] at q1
   cases q1
  refine eO (by walk_at "ev") (fun q3=> ?_) (fun q3=>cN (cb (by walk_at "ev") rfl ⟨.letter c,hc,rfl⟩))
  have z:=(Bool.and_eq_true _ _▸q3:_∧_)
  have z1:=of_decide_eq_true z.1
  have z2:=of_decide_eq_true z.2
  have s3:s=3∨s=4∨s=5:=by omega
  rcases s3 with rfl|rfl|rfl
  ·have ix:bC (.list [.tuple [.str "layer",.int t],.tuple [.str "tap",.str (A8 c),.int t],.tuple [.str "once",.int t]]) (.int (3 - 3))=some (.fz (.tuple [.str "layer",.int t])):=tR (by decide) rfl
   exact dn (by walk_at "ev") rfl (cb (by walk_at "ev") rfl ⟨.layer t,⟨t1,t2 (by omega)⟩,rfl⟩)
  ·have ix:bC (.list [.tuple [.str "layer",.int t],.tuple [.str "tap",.str (A8 c),.int t],.tuple [.str "once",.int t]]) (.int (4 - 3))=some (.fz (.tuple [.str "tap",.str (A8 c),.int t])):=tR (by decide) rfl
   exact dn (by walk_at "ev") rfl (cb (by walk_at "ev") rfl ⟨.tap c t,⟨hc,t1,t2 (by omega)⟩,rfl⟩)
  ·have ix:bC (.list [.tuple [.str "layer",.int t],.tuple [.str "tap",.str (A8 c),.int t],.tuple [.str "once",.int t]]) (.int (5 - 3))=some (.fz (.tuple [.str "once",.int t])):=tR (by decide) rfl
   exact dn (by walk_at "ev") rfl (cb (by walk_at "ev") rfl ⟨.once t,⟨t1,t2 (by omega)⟩,rfl⟩))
 exact⟨m,hm,e⟩
structure Bd where
 n:Int
 ls:List (List Mn)
 cs:List (List Nat×Nat)
 wt:Int
noncomputable def xj (l:List Mn):D:= .tuple (l.map mD)
noncomputable def uK (c:List Nat×Nat):D:= .tuple [.tuple (eS c.1),.str (A8 c.2)]
noncomputable def bD (b:Bd):D:= .tuple [.int b.n,.tuple (b.ls.map xj),.tuple (b.cs.map uK),.int b.wt]
noncomputable def VL (n nL:Int) (ls:List (List Mn)):Prop:=∀(i:Nat) l,ls[i]? =some l→(l.length:Int)=n∧∀m∈l,VM i nL m
noncomputable def yx (l0:List Mn) (k:Nat):Bool:=(l0[k]?.map Mn.isL).getD false
noncomputable def VC (l0:List Mn) (c:List Nat×Nat):Prop:=2≤c.1.length∧c.1.Pairwise (·<·)∧(∀k∈c.1,yx l0 k=true)∧c.2<26
structure VB (b:Bd):Prop where
 n1:1≤b.n
 n5:b.n≤5
 l1:1≤b.ls.length
 l3:b.ls.length≤3
 vl:VL b.n b.ls.length b.ls
 c4:b.cs.length≤4
 vc:∀c∈b.cs,VC (b.ls.headD []) c
 cu:b.cs.Pairwise fun a c=>a.1≠c.1
 w1:1≤b.wt
 w4:b.wt≤4
noncomputable def wd:Mn→Str
 | .letter _=> "letter"
 | .layer _=> "layer"
 | .tap _ _=> "tap"
 | .once _=> "once"
 | .none=> "none"
 | .below=> "below"
theorem Gg (m:Mn):bC (mD m) (.int 0)=some (.fz (.str (wd m))):=by cases m<;>exact uX
theorem yq (m:Mn):fO (.str (wd m)) (.str "letter")=some (.fz (.bool m.isL)):=by
 cases m with
 |letter c=>exact AZ (a:= "letter") (by decide+kernel)
 |layer n=>exact ik (a:= "layer") (by decide+kernel) (by decide+kernel) (by decide+kernel)
 |tap c n=>exact ik (a:= "tap") (by decide+kernel) (by decide+kernel) (by decide+kernel)
 |once n=>exact ik (a:= "once") (by decide+kernel) (by decide+kernel) (by decide+kernel)
 |none=>exact ik (a:= "none") (by decide+kernel) (by decide+kernel) (by decide+kernel)
 |below=>exact ik (a:= "below") (by decide+kernel) (by decide+kernel) (by decide+kernel)
theorem mt {ft:FT} {cs:bb} (p:Nat→Bool) (xs:List Nat) (hl:xs.length≤1000000) (hk:dm cs=cs) (h:∀x∈xs,ft (some (.fz (nd x))::cs)= .ok (p x,some (.fz (nd x))::cs)):jb (dW (gN 0) ft (ag 0) (eS xs) (none::cs) [])= .ok (eS (xs.filter p)):=by
 rw[Co (fun ρ=>∃o,ρ=o::cs) (fun d=>match d with| .int i=>if p i.toNat=true then some (.int i) else none|_=>none) ⟨none,rfl⟩ (by rw[dZ];exact hl) ?_,ED (p:=p) xs fun x _=>by show(if p ((x:Nat):Int).toNat=true then _ else _)=_;rw[Int.toNat_natCast]]
 rintro d hd ρ ⟨o,rfl⟩
 obtain⟨x,hx,rfl⟩:=List.mem_map.mp hd
 refine⟨some (.fz (nd x))::cs,?_,_,rfl⟩
 show iW _ _ _ (nd x) (o::cs)= .ok ((if p ((x:Nat):Int).toNat=true then some (nd x) else none),some (.fz (nd x))::cs)
 rw[Int.toNat_natCast]
 have fg:dm (some (PV.fz (nd x))::cs)=some (.fz (nd x))::cs:=by
  show qr _::dm cs=_
  rw[hk];rfl
 have h':=h x hx
 cases q:p x with
 |true=>
  rw[q] at h'
  rw[if_pos rfl]
  exact pK rfl h' rfl rfl fg
 |false=>
  rw[q] at h'
  rw[if_neg Bool.false_ne_true]
  exact Ht rfl h' fg
noncomputable def pw (k:Nat):Int:=match k with
 |0=>1
 |1=>2
 |2=>4
 |3=>8
 |_=>16
theorem Fm (k:Nat) (h:k<5):bC (.list [.int 1,.int 2,.int 4,.int 8,.int 16]) (nd k)=some (.fz (.int (pw k)))∧0<pw k∧pw k<2^128:=by
 have:k=0∨k=1∨k=2∨k=3∨k=4:=by omega
 rcases this with rfl|rfl|rfl|rfl|rfl<;>exact⟨jc rfl,by decide,by decide⟩
noncomputable def qw (x:Int) (k:Nat):Bool:=decide (x/pw k % 2=1)
noncomputable def hJ (n:Int) (l0:List Mn):List Nat:=(List.range n.toNat).filter (yx l0)
theorem uD {n:Int} {l0:List Mn} (h:n≤5):∀k∈hJ n l0,k<5:=fun k hk=>by
 have:=List.mem_range.mp (List.mem_filter.mp hk).1
 omega
theorem p0 {n:Int} {l0:List Mn} (h:n≤5):(hJ n l0).length≤5:=by
 have h1:=List.length_filter_le (yx l0) (List.range n.toNat)
 rw[List.length_range] at h1
 unfold hJ
 omega
theorem uw {n:Int} {l0:List Mn} {r:List (List Mn)} (h1:0≤n) (h5:n≤5) (hl:(l0.length:Int)=n):jb (dW (gN 0) (aG (az fO (az bC (az bC (az bC (ag 1) (pC (.int 0))) (ag 0)) (pC (.int 0))) (pC (.str "letter")))) (ag 0) (eS (List.range n.toNat)) [none,some (.fz (.list ((l0::r).map xj)))] [])= .ok (eS (hJ n l0)):=by
 refine mt (yx l0) _ (by rw[List.length_range];omega) rfl fun x hx=> ?_
 have hx:=List.mem_range.mp hx
 have hxl:x<l0.length:=by omega
 have e1:bC (.list ((l0::r).map xj)) (.int 0)=some (.fz (xj l0)):=yL
 have e2:bC (xj l0) (nd x)=some (.fz (mD l0[x])):=vY (by rw[List.getElem?_map,List.getElem?_eq_getElem hxl];rfl)
 have e3:=Gg l0[x]
 have e4:=yq l0[x]
 have e5:yx l0 x=l0[x].isL:=by unfold yx;rw[List.getElem?_eq_getElem hxl];rfl
 rw[e5]
 walk_at "ev"
theorem wG {ps:List Nat} {x:Int} (hp:∀k∈ps,k<5) (hl:ps.length≤5):jb (dW (gN 0) (aG (az fO (az bf (az cy (ag 1) (az bC (cV (aa (pC (.int 1)) (aa (pC (.int 2)) (aa (pC (.int 4)) (aa (pC (.int 8)) (aa (pC (.int 16)) am)))))) (ag 0))) (pC (.int 2))) (pC (.int 1)))) (ag 0) (eS ps) [none,some (.fz (.int x))] [])= .ok (eS (ps.filter (qw x))):=by
 refine mt (qw x) _ (by omega) rfl fun k hk=> ?_
 obtain⟨e1,e2,e3⟩:=Fm k (hp k hk)
 have e4:cy (.int x) (.int (pw k))=some (.fz (.int (x/pw k))):=dL ⟨e2,e3⟩
 have e5:bf (.int (x/pw k)) (.int 2)=some (.fz (.int (x/pw k % 2))):=bU (by decide)
 have e6:fO (.int (x/pw k % 2)) (.int 1)=some (.fz (.bool (qw x k))):=ib _ _
 walk_at "ev"
noncomputable def zH (Ks:List (List Nat)):List D:=Ks.map fun K=> .tuple (eS K)
theorem rV:∀Ks:List (List Nat),PyData.canLayAll0 (zH Ks)=true
 |[]=>rfl
 |K::r=>by
  show(PyData.canLayAll0 (eS K)&&PyData.canLayAll0 (zH r))=true
  rw[rF,rV r];rfl
theorem rO (s:List Nat):∀Ks:List (List Nat),((zH Ks).any fun e=>PyData.eqv e (.tuple (eS s)))=decide (s∈Ks)
 |[]=>rfl
 |K::r=>by
  show(PyData.eqvAll (eS K) (eS s)||(zH r).any fun e=>PyData.eqv e (.tuple (eS s)))=_
  rw[rO s r,xi]
  by_cases h:K=s
  ·rw[decide_eq_true h,decide_eq_true (show s∈K::r by rw[h];exact List.mem_cons_self),Bool.true_or]
  ·rw[decide_eq_false h,Bool.false_or]
   by_cases g:s∈r
   ·rw[decide_eq_true g,decide_eq_true (List.mem_cons_of_mem _ g)]
   ·rw[decide_eq_false g,decide_eq_false (fun z=>(List.mem_cons.mp z).elim (fun e=>h e.symm) g)]
theorem BD (s:List Nat) (Ks:List (List Nat)):ku (.tuple (eS s)) (.list (zH Ks))=some (.fz (.bool (!decide (s∈Ks)))):=by
 show(if(kL (.tuple (eS s))&&PyData.canLayAll0 (zH Ks))=true then _ else _)=_
 rw[zl,rV,Bool.and_self,if_pos rfl,rO]
theorem Hy (s:List Nat) (Ks:List (List Nat)):ng (.tuple (eS s)) (.list (zH Ks))=some (.fz (.bool (decide (s∈Ks)))):=by
 show(if(kL (.tuple (eS s))&&PyData.canLayAll0 (zH Ks))=true then _ else _)=_
 rw[zl,rV,Bool.and_self,if_pos rfl,rO]
theorem xt (cs:List (List Nat×Nat)) (hl:cs.length≤1000) (fe:FE) (cp:bb) (hc:dm cp=cp) (he:∀c,fe (some (.fz (uK c))::cp)= .ok (.fz (.tuple (eS c.1)),some (.fz (uK c))::cp)):jb (dW (gN 0) db fe (cs.map uK) (none::cp) [])= .ok (zH (cs.map (·.1))):=by
 obtain⟨xs,h1,h2,h3⟩:=i4 (gt:=gN 0) (ft:=db) (fe:=fe) (ds:=cs.map uK) (ρ:=none::cp) (fun ρ=>∃o,ρ=o::cp) (fun i x=>∃c,cs[i]? =some c∧x= .tuple (eS c.1)) ⟨none,rfl⟩ (by rw[List.length_map];omega) (by
  rintro i d hi ρ ⟨o,rfl⟩
  rw[List.getElem?_map] at hi
  cases q:cs[i]? with
  |none=>rw[q] at hi;cases hi
  |some c=>
   rw[q] at hi
   cases hi
   have fg:dm (some (PV.fz (uK c))::cp)=some (.fz (uK c))::cp:=by
    show qr _::dm cp=_
    rw[hc];rfl
   exact⟨_,_,pK rfl rfl (he c) rfl fg,⟨_,rfl⟩,c,rfl,rfl⟩)
 rw[h1]
 congr 1
 refine List.ext_getElem? fun i=> ?_
 unfold zH
 rw[List.getElem?_map,List.getElem?_map]
 cases q:xs[i]? with
 |none=>
  have:cs.length≤i:=by
   have:=List.getElem?_eq_none_iff.mp q
   rw[h2,List.length_map] at this
   exact this
  rw[List.getElem?_eq_none this];rfl
 |some x=>
  obtain⟨c,h4,rfl⟩:=h3 i x q
  rw[h4];rfl
theorem oZ {ρ:bb} {a b c:Nat} {s:List Nat} {cs:List (List Nat×Nat)} {x:Int} {N C:bb→Prop} {T:RV→Prop} (ha:ρ[a]? =some (some (.fz (.tuple (eS s))))) (hb:ρ[b]? =some (some (.ow (cs.map uK)))) (hc:ρ[c]? =some (some (.fz (.int x)))) (hx:0≤x) (hl:cs.length≤1000)
  (h1:N ρ) (h2:∀l,l<26→2≤s.length→s∉cs.map (·.1)→N (ρ.set b (some (.ow ((cs++[(s,l)]).map uK))))):
  Go (et (gb (aG (az my (dh bV (aa (ag a) am)) (pC (.int 1)))) (aG (az ku (ag a) (eF 1 [] (jM b) (gN 0) db (az bC (ag 0) (pC (.int 0))))))) (gi (oy b (aD (aa (ag a) (aa (bx bK 1 (aa (az cy (ag c) (pC (.int 32))) am)) am))))) bv ρ) N C T:=by
 have va:ag a ρ= .ok (.fz (.tuple (eS s)),ρ):=ar ha
 have vc:ag c ρ= .ok (.fz (.int x),ρ):=ar hc
 have cmp:eF 1 [] (jM b) (gN 0) db (az bC (ag 0) (pC (.int 0))) ρ= .ok (.ow (zH (cs.map (·.1))),ρ):=d8 (by unfold jM;rw[hb];rfl) rfl (xt cs hl _ [] rfl fun c=>a8 (rv:= .fz (.tuple (eS c.1))) (ar rfl) aU rfl rfl uX)
 have en:=BD s (cs.map (·.1))
 have eg:my (nd (eS s).length) (.int 1)=some (.fz (.bool (decide ((1:Int)<((eS s).length:Nat))))):=rfl
 have ed:cy (.int x) (.int 32)=some (.fz (.int (x/32))):=dL ⟨by decide,by decide⟩
 obtain⟨l,hl26,el⟩:=kr (x/32) (by omega)
 refine eO (b:=decide ((1:Int)<((eS s).length:Nat))&& !decide (s∈cs.map (·.1))) (ρ1:=ρ) (gp (aX (a8 (dA (ao va aF) rfl (oY _)) aU rfl rfl eg) rfl) fun _=>aX (a8 va cmp rfl rfl en) rfl) (fun q=> ?_) fun _=>cN h1
 have q':=(Bool.and_eq_true _ _▸q:_∧_)
 have q1:=of_decide_eq_true q'.1
 rw[dZ] at q1
 have q2:s∉cs.map (·.1):=fun z=>by rw[decide_eq_true z] at q';cases q'.2
 refine kq (pv:= .fz .none) (ρ1:=ρ.set b (some (.ow ((cs++[(s,l)]).map uK)))) (sV (d:=uK (s,l)) (ds:=cs.map uK) (ρ2:=ρ) hb (da (ao va (ao (eN (ao (a8 vc aU rfl rfl ed) aF) rfl rfl el) aF)) rfl (by show 2≤1000;decide)) rfl hb (by rw[List.length_map];omega) (by rw[List.map_append];rfl)) (h2 l hl26 (by omega) q2)
theorem j8 {n i k:Nat} (h:(List.range n)[i]? =some k):k=i∧i<n:=by
 obtain⟨h1,h2⟩:=List.getElem?_eq_some_iff.mp h
 rw[List.getElem_range] at h2
 rw[List.length_range] at h1
 exact⟨h2.symm,h1⟩
theorem wz {xs:List Int} {i:Int} (h0:0≤i) (h:i.toNat<xs.length):bC (.list (xs.map .int)) (.int i)=some (.fz (.int xs[i.toNat])):=tR h0 (by rw[List.getElem?_map,List.getElem?_eq_getElem h];rfl)
theorem VL.snoc {n nL:Int} {ls:List (List Mn)} {ms:List Mn} (h:VL n nL ls) (h1:(ms.length:Int)=n) (h2:∀m∈ms,VM ls.length nL m):VL n nL (ls++[ms]):=by
 intro i l hi
 rw[List.getElem?_append] at hi
 split at hi
 ·exact h i l hi
 ·rename_i hn
  have e:i=ls.length:=by
   have:=(List.getElem?_eq_some_iff.mp hi).1
   rw[List.length_singleton] at this
   omega
  subst e
  rw[Nat.sub_self] at hi
  cases hi
  exact⟨h1,h2⟩
theorem C6 {k:Nat} {nL:Int} {ms:List Mn} (h:∀(i:Nat) m,ms[i]? =some m→VM k nL m):∀m∈ms,VM k nL m:=fun m hm=>by
 obtain⟨i,hi⟩:=List.mem_iff_getElem?.mp hm
 exact h i m hi
theorem Ad {n:Int} {l0:List Mn} {x:Int} (h:2≤((hJ n l0).filter (qw x)).length) {l:Nat} (hl:l<26):VC l0 ((hJ n l0).filter (qw x),l):=by
 refine⟨h,?_,fun k hk=> ?_,hl⟩
 ·exact List.Pairwise.filter _ (List.Pairwise.filter _ List.pairwise_lt_range)
 ·exact(List.mem_filter.mp (List.mem_filter.mp hk).1).2
theorem sE {l0:List Mn} {cs:List (List Nat×Nat)} {c:List Nat×Nat} (h1:∀c∈cs,VC l0 c) (h2:VC l0 c):∀d∈cs++[c],VC l0 d:=fun d hd=>by
 rcases List.mem_append.mp hd with z|z
 ·exact h1 d z
 ·rw[List.mem_singleton.mp z];exact h2
theorem r6 {cs:List (List Nat×Nat)} {s:List Nat} {l:Nat} (h1:cs.Pairwise fun a c=>a.1≠c.1) (h2:s∉cs.map (·.1)):(cs++[(s,l)]).Pairwise fun a c=>a.1≠c.1:=by
 refine List.pairwise_append.mpr ⟨h1,List.pairwise_singleton _ _,fun a ha b hb=> ?_⟩
 rw[List.mem_singleton.mp hb]
 exact fun z=>h2 (List.mem_map.mpr ⟨a,ha,z⟩)
theorem tK (xs:List Int) (hl:xs.length=20) (hx:∀x∈xs,0≤x):∃b,VB b∧dM [.list (xs.map .int)]= .ok (.fz (bD b)):=by
 have e0:bC (.list (xs.map .int)) (.int 0)=some (.fz (.int xs[0])):=wz (i:=0) (by decide) (by rw[hl];decide)
 have hx0:0≤xs[0]:=hx _ (List.getElem_mem _)
 generalize xs[0]=x0 at e0 hx0
 have m1:bf (.int x0) (.int 5)=some (.fz (.int (x0 % 5))):=bU (by decide)
 have m2:cy (.int x0) (.int 5)=some (.fz (.int (x0/5))):=dL ⟨by decide,by decide⟩
 have m3:bf (.int (x0/5)) (.int 3)=some (.fz (.int (x0/5 % 3))):=bU (by decide)
 have m4:cy (.int x0) (.int 60)=some (.fz (.int (x0/60))):=dL ⟨by decide,by decide⟩
 have m5:bf (.int (x0/60)) (.int 5)=some (.fz (.int (x0/60 % 5))):=bU (by decide)
 have m6:cy (.int x0) (.int 15)=some (.fz (.int (x0/15))):=dL ⟨by decide,by decide⟩
 have m7:bf (.int (x0/15)) (.int 4)=some (.fz (.int (x0/15 % 4))):=bU (by decide)
 obtain⟨n,hn⟩:∃n,n=1+x0 % 5:=⟨_,rfl⟩
 obtain⟨nL,hnL⟩:∃n,n=1+x0/5 % 3:=⟨_,rfl⟩
 have a1:cn (.int 1) (.int (x0 % 5))=some (.fz (.int n)):=by rw[hn];rfl
 have a2:cn (.int 1) (.int (x0/5 % 3))=some (.fz (.int nL)):=by rw[hnL];rfl
 have n1:1≤n∧n≤5:=by omega
 have l1:1≤nL∧nL≤3:=by omega
 have rn:fK [.int nL]=some (eS (List.range nL.toNat)):=jA (by omega) (by omega)
 have rk:fK [.int n]=some (eS (List.range n.toNat)):=jA (by omega) (by omega)
 have hcl:(ou xs (some 16) (some (16+x0/60 % 5))).length≤4:=by
  unfold ou
  rw[List.length_take,List.length_drop,hl]
  have:HT.sIx 20 0 (some 16)=16:=by decide
  omega
 have hcm:∀x∈ou xs (some 16) (some (16+x0/60 % 5)),0≤x:=fun x h=>hx x (List.mem_of_mem_drop (List.mem_of_mem_take h))
 have hsl:Cu (.list (xs.map .int)) (some 16) (some (16+x0/60 % 5))=some (.ow ((ou xs (some 16) (some (16+x0/60 % 5))).map .int)):=by
  show some (RV.ow (ie _ _ _))=_
  unfold ie ou
  rw[List.length_map,List.map_take,List.map_drop]
 generalize ou xs (some 16) (some (16+x0/60 % 5))=ct at hcl hcm hsl
 obtain⟨rv,e,b,hb,rfl⟩:=jD (ds:=[.list (xs.map .int)]) (ρ:=[some (.fz (.list (xs.map .int))),none,none,none,none,none,none,none,none]) (n:=9) (g:=fV) (T:=fun v=>∃b,VB b∧v= .fz (bD b)) rfl (by
  unfold fV
  walk_at "go"
  with_reducible apply iC (fun i ρ=>∃(ls:List (List Mn)) (t4:Option PV),ρ=[some (.fz (.list (xs.map .int))),some (.fz (.int n)),some (.fz (.int nL)),some (.ow (ls.map xj)),t4,none,none,none,none]∧ls.length=i∧VL n nL ls)
  ·walk_at "ev"
  ·exact⟨[],none,rfl,rfl,fun i l h=>by simp at h⟩
  ·rintro i d ρ hi ⟨ls,t4,rfl,hls,hv⟩
   obtain⟨k,hk,rfl⟩:=gU hi
   obtain⟨rfl,hkl⟩:=j8 hk
   obtain⟨ys,c1,c2,c3⟩:=i4 (gt:=gN 0) (ft:=db) (fe:=bx cR 3 (aa (az bC (ag 1) (az cn (az cn (pC (.int 1)) (az fH (pC (.int 5)) (ag 2))) (ag 0))) (aa (ag 2) (aa (ag 3) am)))) (ds:=eS (List.range n.toNat)) (ρ:=[none,some (.fz (.list (xs.map .int))),some (.fz (nd k)),some (.fz (.int nL))])
    (fun ρ=>∃o,ρ=[o,some (.fz (.list (xs.map .int))),some (.fz (nd k)),some (.fz (.int nL))]) (fun _ x=>∃m,x=mD m∧VM k nL m) ⟨none,rfl⟩ (by rw[dZ,List.length_range];omega) (by
     rintro j d hj ρ ⟨o,rfl⟩
     obtain⟨y,hy,rfl⟩:=gU hj
     obtain⟨rfl,hyl⟩:=j8 hy
     have m8:fH (.int 5) (nd k)=some (.fz (.int (5*(k:Int)))):=gu ⟨by decide,by decide⟩
     have e1:=wz (xs:=xs) (i:=1+5*(k:Int)+(y:Int)) (by omega) (by omega)
     obtain⟨m,hm,em⟩:=pM _ k nL (hx _ (List.getElem_mem (by omega:(1+5*(k:Int)+(y:Int)).toNat<xs.length))) (by omega) l1.1
     exact⟨_,_,pK rfl rfl (by walk_at "ev") rfl rfl,⟨_,rfl⟩,m,rfl,hm⟩)
   obtain⟨ms,rfl,hms⟩:=lF (f:=mD) (Q:=fun _ m=>VM k nL m) ys 0 (by simpa using c3)
   rw[List.length_map,dZ,List.length_range] at c2
   have hlen:(ls.map xj).length<1000000:=by rw[List.length_map];omega
   refine⟨_,rfl,kq (pv:= .fz .none) (sV rfl (dA (ao (d8 (by walk_at "ev") rfl c1) aF) rfl rfl) rfl rfl hlen rfl) ⟨ls++[ms],_,by rw[List.map_append];rfl,by rw[List.length_append,hls];rfl,hv.snoc (by omega) (by rw[hls];exact C6 fun i m h=>hms i m h)⟩⟩
  ·rintro ρ ⟨ls,t4,rfl,hls,hv⟩
   rw[dZ,List.length_range] at hls
   cases ls with
   |nil=>rw[List.length_nil] at hls;omega
   |cons l0 r=>
    have hl0:=(hv 0 l0 rfl).1
    refine cK (d8 (by walk_at "ev") rfl (uw (r:=r) (by omega) n1.2 hl0)) rfl (by walk_at "nm") ?_
    walk_at "go"
    with_reducible apply iC (fun i ρ=>∃(cs:List (List Nat×Nat)) (t7 t8:Option PV),ρ=[some (.fz (.list (xs.map .int))),some (.fz (.int n)),some (.fz (.int nL)),some (.fz (.list ((l0::r).map xj))),t4,some (.ow (eS (hJ n l0))),some (.ow (cs.map uK)),t7,t8]∧cs.length≤i∧(∀c∈cs,VC l0 c)∧cs.Pairwise fun a c=>a.1≠c.1)
    ·walk_at "ev"
    ·exact⟨[],none,none,rfl,Nat.le_refl _,fun c h=>(by cases h),List.Pairwise.nil⟩
    ·rintro i d ρ hi ⟨cs,t7,t8,rfl,hcs,hvc,hcu⟩
     rw[List.getElem?_map] at hi
     cases q:ct[i]? with
     |none=>rw[q] at hi;cases hi
     |some x=>
      rw[q] at hi
      cases hi
      have hxx:0≤x:=hcm x (List.mem_of_getElem? q)
      have hil:=(List.getElem?_eq_some_iff.mp q).1
      refine⟨_,rfl,cK (dA (ao (d8 rfl rfl (wG (x:=x) (uD n1.2) (p0 n1.2))) aF) rfl rfl) rfl (by walk_at "nm") ?_⟩
      refine oZ (s:=(hJ n l0).filter (qw x)) (cs:=cs) (x:=x) rfl rfl rfl hxx (by omega) ⟨cs,_,_,rfl,by omega,hvc,hcu⟩ fun l hl26 h2 hni=>⟨cs++[((hJ n l0).filter (qw x),l)],_,_,rfl,by rw[List.length_append,List.length_singleton];omega,sE hvc (Ad h2 hl26),r6 hcu hni⟩
    ·rintro ρ ⟨cs,t7,t8,rfl,hcs,hvc,hcu⟩
     rw[List.length_map] at hcs
     walk_at "go"
     refine⟨⟨n,l0::r,cs,1+x0/15 % 4⟩,⟨n1.1,n1.2,by show 1≤r.length+1;omega,by show(l0::r).length≤3;omega,?_,by show cs.length≤4;omega,hvc,hcu,by show 1≤1+x0/15 % 4;omega,by show 1+x0/15 % 4≤4;omega⟩,rfl⟩
     have:(((l0::r).length:Nat):Int)=nL:=by omega
     show VL n (((l0::r).length:Nat):Int) (l0::r)
     rw[this]
     exact hv)
 exact⟨b,hb,e⟩
theorem C5 {a b:Int} (r:Bool):bC (.list [.int a,.int b]) (.int (if r then 1 else 0))=some (.fz (.int (if r=true then b else a))):=by
 cases r with
 |true=>exact FR
 |false=>exact yL
noncomputable def zC (l:List Mn):Prop:=∀m∈l,m.isL=true
theorem B7 {l:List Mn} (h:zC l) {k:Nat} (hk:k<l.length):yx l k=true:=by
 unfold yx
 rw[List.getElem?_eq_getElem hk]
 exact h _ (List.getElem_mem hk)
theorem yN {n:Int} {l0:List Mn} (hl:(l0.length:Int)=n) (h3:3≤n) (hn5:n≤5) (ha:zC l0) {j:Int} (h0:0≤j) (h4:j<4):∃s:List Nat,bC (.list [.tuple [.int 0,.int 1],.tuple [.int 1,.int 2],.tuple [.int 0,.int 1,.int 2],.tuple [.int 0,.int (n - 1)]]) (.int j)=some (.fz (.tuple (eS s)))∧
  2≤s.length∧s.Pairwise (·<·)∧∀k∈s,yx l0 k=true:=by
 have ok:∀k:Nat,(k:Int)<n→yx l0 k=true:=fun k hk=>B7 ha (by omega)
 have hj:j=0∨j=1∨j=2∨j=3:=by omega
 rcases hj with rfl|rfl|rfl|rfl
 ·refine⟨[0,1],tR (by decide) rfl,by decide,by decide,fun k hk=>ok k ?_⟩
  simp only[List.mem_cons,List.not_mem_nil,or_false] at hk
  omega
 ·refine⟨[1,2],tR (by decide) rfl,by decide,by decide,fun k hk=>ok k ?_⟩
  simp only[List.mem_cons,List.not_mem_nil,or_false] at hk
  omega
 ·refine⟨[0,1,2],tR (by decide) rfl,by decide,by decide,fun k hk=>ok k ?_⟩
  simp only[List.mem_cons,List.not_mem_nil,or_false] at hk
  omega
 ·refine⟨[0,(n - 1).toNat],tR (by decide) ?_,by show 2≤2;decide,?_,fun k hk=>ok k ?_⟩
  ·show some (PyData.tuple [.int 0,.int (n - 1)])=some (.tuple [.int ((0:Nat):Int),.int ((n - 1).toNat:Int)])
   rw[show((n - 1).toNat:Int)=n - 1 by omega]
   rfl
  ·refine List.pairwise_cons.mpr ⟨fun b hb=> ?_,List.pairwise_singleton _ _⟩
   rw[List.mem_singleton.mp hb]
   omega
  ·simp only[List.mem_cons,List.not_mem_nil,or_false] at hk
   omega
theorem vT (rs:List Int) (h0:∀r∈rs,0≤r) (hl:rs.length≤5):∃ms:List Mn,jb (dW (gN 0) db (aD (aa (pC (.str "letter")) (aa (bx bK 1 (aa (az cy (ag 0) (pC (.int 8))) am)) am))) (rs.map .int) [none] [])= .ok (ms.map mD)∧ms.length=rs.length∧zC ms∧∀(L nL:Int),∀m∈ms,VM L nL m:=by
 obtain⟨ys,c1,c2,c3⟩:=i4 (gt:=gN 0) (ft:=db) (fe:=aD (aa (pC (.str "letter")) (aa (bx bK 1 (aa (az cy (ag 0) (pC (.int 8))) am)) am))) (ds:=rs.map .int) (ρ:=[none])
  (fun ρ=>∃o,ρ=[o]) (fun _ x=>∃m,x=mD m∧∃c,c<26∧m=Mn.letter c) ⟨none,rfl⟩ (by rw[List.length_map];omega) (by
   rintro j d hj ρ ⟨o,rfl⟩
   rw[List.getElem?_map] at hj
   cases q:rs[j]? with
   |none=>rw[q] at hj;cases hj
   |some r=>
    rw[q] at hj
    cases hj
    have hr:=h0 r (List.mem_of_getElem? q)
    have m1:cy (.int r) (.int 8)=some (.fz (.int (r/8))):=dL ⟨by decide,by decide⟩
    obtain⟨c,hc,ec⟩:=kr (r/8) (by omega)
    exact⟨_,_,pK rfl rfl (by walk_at "ev") rfl rfl,⟨_,rfl⟩,.letter c,rfl,c,hc,rfl⟩)
 obtain⟨ms,rfl,hms⟩:=lF (f:=mD) (Q:=fun _ m=>∃c,c<26∧m=Mn.letter c) ys 0 (by simpa using c3)
 refine⟨ms,c1,by rw[List.length_map,List.length_map] at c2;exact c2,fun m hm=> ?_,fun L nL m hm=> ?_⟩
 ·obtain⟨i,hi⟩:=List.mem_iff_getElem?.mp hm
  obtain⟨c,_,rfl⟩:=hms i m hi
  rfl
 ·obtain⟨i,hi⟩:=List.mem_iff_getElem?.mp hm
  obtain⟨c,hc,rfl⟩:=hms i m hi
  exact hc
theorem D4 (ns:List Int) (hns:ns.length≤63) (a:Int) (ha:0≤a) (ha2:a≤100):∃b,VB b∧gc [.list (ns.map .int),.int a]= .ok (.fz (bD b)):=by
 obtain⟨c,hc⟩:=km ns a ha hns
 obtain⟨xs,x1,x2,x3⟩:=yk c
 obtain⟨b0,hb0,eb0⟩:=tK xs x1 x2
 obtain⟨w,hw,ew⟩:=jC c a ha (by omega)
 have p18:=yU
 have m1:cy (.int w) (.int 60)=some (.fz (.int (w/60))):=dL ⟨by decide,by decide⟩
 have m2:bf (.int (w/60)) (.int 4)=some (.fz (.int (w/60 % 4))):=bU (by decide)
 obtain⟨rich,hrich⟩:∃b:Bool,b=decide (w/60 % 4=1):=⟨_,rfl⟩
 have m3:fO (.int (w/60 % 4)) (.int 1)=some (.fz (.bool rich)):=by rw[hrich];exact ib _ _
 have m4:bf (.int w) (.int 5)=some (.fz (.int (w % 5))):=bU (by decide)
 have m5:bf (.int w) (.int 3)=some (.fz (.int (w % 3))):=bU (by decide)
 have i1:A3 [.bool rich]=some (.fz (.int (if rich then 1 else 0))):=rfl
 obtain⟨n,hn⟩:∃n:Int,n=if rich=true then 3+w % 3 else 1+w % 5:=⟨_,rfl⟩
 have i2:bC (.list [.int (1+w % 5),.int (3+w % 3)]) (.int (if rich then 1 else 0))=some (.fz (.int n)):=by rw[hn];exact C5 rich
 have n1:1≤n∧n≤5:=by rw[hn];split<;>omega
 have n3:rich=true→3≤n:=fun z=>by rw[hn,if_pos z];omega
 have m6:cy (.int w) (.int 5)=some (.fz (.int (w/5))):=dL ⟨by decide,by decide⟩
 have m7:bf (.int (w/5)) (.int 3)=some (.fz (.int (w/5 % 3))):=bU (by decide)
 obtain⟨nL,hnL⟩:∃n,n=1+w/5 % 3:=⟨_,rfl⟩
 have a2:cn (.int 1) (.int (w/5 % 3))=some (.fz (.int nL)):=by rw[hnL];rfl
 have l1:1≤nL∧nL≤3:=by omega
 have rn:fK [.int nL]=some (eS (List.range nL.toNat)):=jA (by omega) (by omega)
 have rk:fK [.int n]=some (eS (List.range n.toNat)):=jA (by omega) (by omega)
 have m8:cy (.int w) (.int 15)=some (.fz (.int (w/15))):=dL ⟨by decide,by decide⟩
 have m9:bf (.int (w/15)) (.int 4)=some (.fz (.int (w/15 % 4))):=bU (by decide)
 have m10:cy (.int w) (.int 240)=some (.fz (.int (w/240))):=dL ⟨by decide,by decide⟩
 have m11:bf (.int (w/240)) (.int 4)=some (.fz (.int (w/240 % 4))):=bU (by decide)
 have m12:cy (.int w) (.int 960)=some (.fz (.int (w/960))):=dL ⟨by decide,by decide⟩
 obtain⟨c16,hc16⟩:=km ns (a+16) (by omega) hns
 obtain⟨w16,hw16,ew16⟩:=jC c16 16 (by decide) (by decide)
 have m13:bf (.int w16) (.int 5)=some (.fz (.int (w16 % 5))):=bU (by decide)
 obtain⟨nC,hnC⟩:∃n:Int,n=if rich=true then 1+w/240 % 4 else w16 % 5:=⟨_,rfl⟩
 have i3:bC (.list [.int (w16 % 5),.int (1+w/240 % 4)]) (.int (if rich then 1 else 0))=some (.fz (.int nC)):=by rw[hnC];exact C5 rich
 have c4:0≤nC∧nC≤4:=by rw[hnC];split<;>omega
 have rc:fK [.int nC]=some (eS (List.range nC.toNat)):=jA (by omega) (by omega)
 obtain⟨rv,e,b,hb,rfl⟩:=jD (ds:=[.list (ns.map .int),.int a]) (ρ:=[some (.fz (.list (ns.map .int))),some (.fz (.int a)),none,none,none,none,none,none,none,none,none,none,none]) (n:=13) (g:=jz) (T:=fun v=>∃b,VB b∧v= .fz (bD b)) rfl (by
  unfold jz
  walk_at "go"
  ·intro _
   walk_at "go"
   exact⟨b0,hb0,rfl⟩
  intro _
  walk_at "go"
  with_reducible apply iC (fun i ρ=>∃(ls:List (List Mn)) (t6 t7:Option PV),ρ=[some (.fz (.list (ns.map .int))),some (.fz (.int a)),some (.fz (.int w)),some (.fz (.bool rich)),some (.fz (.int n)),some (.ow (ls.map xj)),t6,t7,none,none,none,none,none]∧ls.length=i∧VL n nL ls∧(rich=true→∀l,ls.head? =some l→zC l))
  ·walk_at "ev"
  ·exact⟨[],none,none,rfl,rfl,fun i l h=>by simp at h,fun _ l h=>by simp at h⟩
  ·rintro i d ρ hi ⟨ls,t6,t7,rfl,hls,hv,hh⟩
   obtain⟨k,hk,rfl⟩:=gU hi
   obtain⟨rfl,hkl⟩:=j8 hk
   have mk:fH (.int 5) (nd k)=some (.fz (.int (5*(k:Int)))):=gu ⟨by decide,by decide⟩
   obtain⟨ys,c1,c2,c3⟩:=i4 (gt:=gN 0) (ft:=db) (fe:=bx bH 2 (aa (bx bJ 2 (aa (ag 1) (aa (az cn (az cn (az cn (ag 2) (pC (.int 1))) (az fH (pC (.int 5)) (ag 3))) (ag 0)) am))) (aa (az cn (az fH (pC (.int 5)) (ag 3)) (ag 0)) am))) (ds:=eS (List.range n.toNat)) (ρ:=[none,some (.fz (.list (ns.map .int))),some (.fz (.int a)),some (.fz (nd k))])
    (fun ρ=>∃o,ρ=[o,some (.fz (.list (ns.map .int))),some (.fz (.int a)),some (.fz (nd k))]) (fun _ x=>∃r:Int,x= .int r∧0≤r) ⟨none,rfl⟩ (by rw[dZ,List.length_range];omega) (by
     rintro j d hj ρ ⟨o,rfl⟩
     obtain⟨y,hy,rfl⟩:=gU hj
     obtain⟨rfl,hyl⟩:=j8 hy
     obtain⟨cc,hcc⟩:=km ns (a+1+5*(k:Int)+(y:Int)) (by omega) hns
     obtain⟨ww,hww,eww⟩:=jC cc (5*(k:Int)+(y:Int)) (by omega) (by omega)
     exact⟨_,_,pK rfl rfl (by walk_at "ev") rfl rfl,⟨_,rfl⟩,ww,rfl,hww⟩)
   obtain⟨rs,rfl,hrs⟩:=lF (f:=PyData.int) (Q:=fun _ r=>(0:Int)≤r) ys 0 (by simpa using c3)
   have hr0:∀r∈rs,0≤r:=fun r hr=>by
    obtain⟨i,hi⟩:=List.mem_iff_getElem?.mp hr
    exact hrs i r hi
   rw[List.length_map,dZ,List.length_range] at c2
   obtain⟨zs,d1,d2,d3⟩:=i4 (gt:=gN 0) (ft:=db) (fe:=bx dB 3 (aa (ag 0) (aa (ag 1) (aa (az cn (pC (.int 1)) (az bf (az cy (ag 2) (pC (.int 5))) (pC (.int 3)))) am)))) (ds:=rs.map .int) (ρ:=[none,some (.fz (nd k)),some (.fz (.int w))])
    (fun ρ=>∃o,ρ=[o,some (.fz (nd k)),some (.fz (.int w))]) (fun _ x=>∃m,x=mD m∧VM k nL m) ⟨none,rfl⟩ (by rw[List.length_map];omega) (by
     rintro j d hj ρ ⟨o,rfl⟩
     rw[List.getElem?_map] at hj
     cases q:rs[j]? with
     |none=>rw[q] at hj;cases hj
     |some r=>
      rw[q] at hj
      cases hj
      obtain⟨m,hm,em⟩:=vH r k nL (hr0 r (List.mem_of_getElem? q)) (by omega) l1.1
      exact⟨_,_,pK rfl rfl (by walk_at "ev") rfl rfl,⟨_,rfl⟩,m,rfl,hm⟩)
   obtain⟨ms,rfl,hms⟩:=lF (f:=mD) (Q:=fun _ m=>VM k nL m) zs 0 (by simpa using d3)
   rw[List.length_map,List.length_map] at d2
   obtain⟨qs,q1,q2,q3,q4⟩:=vT rs hr0 (by omega)
   have hlen:(ls.map xj).length<1000000:=by rw[List.length_map];omega
   have hv2:VL n nL (ls++[ms]):=hv.snoc (by omega) (by rw[hls];exact C6 fun i m h=>hms i m h)
   refine⟨_,rfl,cK (d8 (by walk_at "ev") rfl c1) rfl (by walk_at "nm") (rh (pv:= .fz .none) (sV rfl (dA (ao (d8 rfl rfl d1) aF) rfl rfl) rfl rfl hlen rfl) ?_)⟩
   refine eO (b:=rich&&decide ((k:Int)=0)) (by walk_at "ev") (fun q=> ?_) (fun q=>cN ⟨ls++[ms],_,_,by rw[List.map_append];rfl,by rw[List.length_append,hls];rfl,hv2,fun z l hl=> ?_⟩)
   ·have q':=(Bool.and_eq_true _ _▸q:_∧_)
    have hk0:=of_decide_eq_true q'.2
    refine dn (fE (ao (dA (ao (d8 rfl rfl q1) aF) rfl rfl) aF) rfl (by show 1≤1000;decide)) rfl ⟨[qs],_,_,rfl,by show 1=k+1;omega,?_,fun _ l hl=>by cases hl;exact q3⟩
    intro i l hi
    have:i=0:=by
     have:=(List.getElem?_eq_some_iff.mp hi).1
     rw[List.length_singleton] at this
     omega
    subst this
    cases hi
    exact⟨by omega,fun m hm=>q4 _ _ m hm⟩
   ·cases ls with
    |cons l0 r=>exact hh z l (by simpa using hl)
    |nil=>
     rw[List.length_nil] at hls
     rw[z,decide_eq_true (by omega)] at q
     cases q
  ·rintro ρ ⟨ls,t6,t7,rfl,hls,hv,hh⟩
   rw[dZ,List.length_range] at hls
   cases ls with
   |nil=>rw[List.length_nil] at hls;omega
   |cons l0 r=>
    have hl0:=(hv 0 l0 rfl).1
    have hall:rich=true→zC l0:=fun z=>hh z l0 rfl
    refine cK (d8 (by walk_at "ev") rfl (uw (r:=r) (by omega) n1.2 hl0)) rfl (by walk_at "nm") ?_
    walk_at "go"
    with_reducible apply iC (fun i ρ=>∃(cs:List (List Nat×Nat)) (t10 t11 t12:Option PV),ρ=[some (.fz (.list (ns.map .int))),some (.fz (.int a)),some (.fz (.int w)),some (.fz (.bool rich)),some (.fz (.int n)),some (.fz (.list ((l0::r).map xj))),t6,t7,some (.ow (eS (hJ n l0))),some (.ow (cs.map uK)),t10,t11,t12]∧cs.length≤i∧(∀c∈cs,VC l0 c)∧cs.Pairwise fun a c=>a.1≠c.1)
    ·walk_at "ev"
    ·exact⟨[],none,none,none,rfl,Nat.le_refl _,fun c h=>(by cases h),List.Pairwise.nil⟩
    ·rintro i d ρ hi ⟨cs,t10,t11,t12,rfl,hcs,hvc,hcu⟩
     obtain⟨k,hk,rfl⟩:=gU hi
     obtain⟨rfl,hkl⟩:=j8 hk
     obtain⟨cc,hcc⟩:=km ns (a+17+(k:Int)) (by omega) hns
     obtain⟨x,hxx,ex⟩:=jC cc (17+(k:Int)) (by omega) (by omega)
     refine⟨_,rfl,cK (by walk_at "ev") rfl (by walk_at "nm") (cK (dA (ao (d8 rfl rfl (wG (x:=x) (uD n1.2) (p0 n1.2))) aF) rfl rfl) rfl (by walk_at "nm") ?_)⟩
     refine e8 (b:=rich) (by walk_at "ev") (fun q=> ?_) (fun q=>cG ?_)
     ·have b4:0≤((k:Int)+w/960) % 4∧((k:Int)+w/960) % 4<4:=⟨Int.emod_nonneg _ (by decide),Int.emod_lt_of_pos _ (by decide)⟩
      have m14:bf (.int ((k:Int)+w/960)) (.int 4)=some (.fz (.int (((k:Int)+w/960) % 4))):=bU (by decide)
      obtain⟨s,s1,s2,s3,s4⟩:=yN hl0 (n3 q) n1.2 (hall q) b4.1 b4.2
      refine cK (by walk_at "ev") rfl (by walk_at "nm") ?_
      exact oZ (s:=s) (cs:=cs) (x:=x) rfl rfl rfl hxx (by omega) ⟨cs,_,_,_,rfl,by omega,hvc,hcu⟩ fun l hl26 h2 hni=>⟨cs++[(s,l)],_,_,_,rfl,by rw[List.length_append,List.length_singleton];omega,sE hvc ⟨s2,s3,s4,hl26⟩,r6 hcu hni⟩
     ·exact oZ (s:=(hJ n l0).filter (qw x)) (cs:=cs) (x:=x) rfl rfl rfl hxx (by omega) ⟨cs,_,_,_,rfl,by omega,hvc,hcu⟩ fun l hl26 h2 hni=>⟨cs++[((hJ n l0).filter (qw x),l)],_,_,_,rfl,by rw[List.length_append,List.length_singleton];omega,sE hvc (Ad h2 hl26),r6 hcu hni⟩
    ·rintro ρ ⟨cs,t10,t11,t12,rfl,hcs,hvc,hcu⟩
     rw[dZ,List.length_range] at hcs
     walk_at "go"
     refine⟨⟨n,l0::r,cs,1+w/15 % 4⟩,⟨n1.1,n1.2,by show 1≤r.length+1;omega,by show(l0::r).length≤3;omega,?_,by show cs.length≤4;omega,hvc,hcu,by show 1≤1+w/15 % 4;omega,by show 1+w/15 % 4≤4;omega⟩,rfl⟩
     have:(((l0::r).length:Nat):Int)=nL:=by omega
     show VL n (((l0::r).length:Nat):Int) (l0::r)
     rw[this]
     exact hv)
 exact⟨b,hb,e⟩
noncomputable def tx (l:List Nat):Str:=⟨l.toArray⟩
theorem Dh (a b:List Nat):tx a++tx b=tx (a++b):=by
 show(⟨a.toArray++b.toArray⟩:Str)=⟨(a++b).toArray⟩
 rw[List.append_toArray]
theorem k9 (l:List Nat):(tx l).length=l.length:=by
 show l.toArray.size=_
 rw[List.size_toArray]
theorem qq {l:List Nat} (h:∀c∈l,c<1114112):PyData.strOk (tx l)=true:=by
 show l.toArray.all (fun c=>decide (c<0x110000))=true
 rw[←Array.all_toList,List.all_eq_true]
 exact fun c hc=>decide_eq_true (h c hc)
theorem Dv {a b:List Nat} (h:tx a=tx b):a=b:=congrArg (fun z:Str=>z.cps.toList) h
theorem G6 (z:Str):tx z.cps.toList=z:=rfl
theorem Fc (l:List Nat):vS (tx l)=l.map fun c=>PyData.str (tx [c]):=rfl
theorem wQ {l:List Nat} (h:l.length≤1000):A2 [.str (tx l)]=some (.fz (.int (l.length:Int))):=by
 show(if(tx l).length≤1000000 then some (RV.fz (.int ((tx l).length:Int))) else none)=_
 rw[k9,if_pos (by omega)]
theorem GI {a b:List Nat} (h:a.length+b.length≤1000):GU (.str (tx a)) (.str (tx b))=some (.fz (.str (tx (a++b)))):=by
 show(if(tx a).length+(tx b).length≤1000000 then some (RV.fz (.str (tx a++tx b))) else none)=_
 rw[k9,k9,if_pos (by omega),Dh]
theorem wV (c:Nat):∀(n:Nat) (a:Array Nat),(List.replicate n (#[c]:Array Nat)).foldl (·++·) a=a++(List.replicate n c).toArray
 |0,a=>by simp
 |n+1,a=>by
  rw[List.replicate_succ,List.foldl_cons,wV c n,List.replicate_succ]
  apply Array.toList_inj.mp
  simp
theorem Ez (c:Nat) (n:Nat):Txt.mul (tx [c]) (n:Int)=tx (List.replicate n c):=by
 unfold Txt.mul
 by_cases h0:n=0
 ·subst h0;rfl
 rw[if_neg (by omega)]
 by_cases h1:n=1
 ·subst h1;rfl
 rw[if_neg (by
  intro z
  have z:(((n:Int)==1)||((tx [c]).length==0))=true:=z
  rw[k9] at z
  simp at z
  omega)]
 show(⟨(List.replicate (n:Int).toNat (#[c]:Array Nat)).foldl (·++·) #[]⟩:Str)=_
 rw[wV,Int.toNat_natCast]
 simp
 rfl
theorem Gz {c:Nat} {i:Int} (h0:0≤i) (h1:i≤1000):L9.Hz (.str (tx [c])) (.int i)=some (.fz (.str (tx (List.replicate i.toNat c)))):=by
 show(if(tx [c]).length≤1000∧0≤i∧i≤1000 then some (RV.fz (.str (Txt.mul (tx [c]) i))) else none)=_
 rw[if_pos ⟨by rw[k9];exact Nat.le_of_ble_eq_true rfl,h0,h1⟩]
 obtain⟨n,rfl⟩:∃n:Nat,i=(n:Int):=⟨i.toNat,by omega⟩
 rw[Ez,Int.toNat_natCast]
theorem xZ (x:Str) (l u:Option Int):∀c∈(Txt.slice x l u).cps.toList,c∈x.cps.toList:=by
 unfold Txt.slice
 split
 ·exact fun c h=>h
 ·intro c h
  obtain⟨i,_,hi⟩:=List.mem_filterMap.mp (show c∈List.filterMap (fun i=>x.cps[i]?) _ from h)
  exact Array.mem_toList_iff.mpr (Array.mem_of_getElem? hi)
theorem E7 {l:List Nat} (h:l.length≤1000) (lo hi:Option Int):∃m:List Nat,m.length≤l.length∧(∀c∈m,c∈l)∧Et (.str (tx l)) lo hi=some (.fz (.str (tx m))):=by
 refine⟨(Txt.slice (tx l) lo hi).cps.toList,?_,xZ (tx l) lo hi,?_⟩
 ·have:=Txt.slice_le (tx l) lo hi
  rw[k9] at this
  exact this
 ·show(if(tx l).length≤1000000 then some (RV.fz (.str (Txt.slice (tx l) lo hi))) else none)=_
  rw[k9,if_pos (by omega)]
  rfl
noncomputable def kD (ks:List Int):D:= .tuple (ks.map .int)
noncomputable abbrev ef (l:List Nat):D:= .str (tx l)
theorem qK {α:Type} {f g:α→D} {gt:FG} {fe:FE} {ρ0:bb} (I:bb→Prop) (xs:List α) (hl:xs.length≤1000000) (h0:I ρ0) (hs:∀x∈xs,∀ρ,I ρ→∃ρ',iW gt db fe (f x) ρ= .ok (some (g x),ρ')∧I ρ'):jb (dW gt db fe (xs.map f) ρ0 [])= .ok (xs.map g):=by
 obtain⟨ys,h1,h2,h3⟩:=i4 (gt:=gt) (ft:=db) (fe:=fe) (ds:=xs.map f) (ρ:=ρ0) I (fun i y=>∃x,xs[i]? =some x∧y=g x) h0 (by rw[List.length_map];exact hl) (by
  intro i d hi ρ hI
  rw[List.getElem?_map] at hi
  cases q:xs[i]? with
  |none=>rw[q] at hi;cases hi
  |some x=>
   obtain rfl:d=f x:=by rw[q] at hi;exact(Option.some.inj hi).symm
   obtain⟨ρ',e,hI'⟩:=hs x (List.mem_of_getElem? q) ρ hI
   exact⟨_,_,e,hI',x,rfl,rfl⟩)
 rw[h1]
 congr 1
 refine List.ext_getElem? fun i=> ?_
 rw[List.getElem?_map]
 cases q:ys[i]? with
 |none=>
  have:xs.length≤i:=by
   have:=List.getElem?_eq_none_iff.mp q
   rw[h2,List.length_map] at this
   exact this
  rw[List.getElem?_eq_none this];rfl
 |some y=>
  obtain⟨x,h4,rfl⟩:=h3 i y q
  rw[h4];rfl
theorem rN {α:Type} {f g:α→D} {fe:FE} {cp:bb} (xs:List α) (hl:xs.length≤1000000) (hc:dm cp=cp) (he:∀x∈xs,fe (some (.fz (f x))::cp)= .ok (.fz (g x),some (.fz (f x))::cp)):jb (dW (gN 0) db fe (xs.map f) (none::cp) [])= .ok (xs.map g):=by
 refine qK (fun ρ=>∃o,ρ=o::cp) xs hl ⟨none,rfl⟩ ?_
 rintro x hx ρ ⟨o,rfl⟩
 have fg:dm (some (PV.fz (f x))::cp)=some (.fz (f x))::cp:=by
  show qr _::dm cp=_
  rw[hc];rfl
 exact⟨_,pK rfl rfl (he x hx) rfl fg,_,rfl⟩
theorem uH {α:Type} (p:α→Bool):∀l:List α,qX (l.map fun c=>PyData.bool (p c))=some (l.map p)
 |[]=>rfl
 |c::r=>by
  show(qX (r.map fun c=>PyData.bool (p c))).map (p c::·)=_
  rw[uH p r];rfl
theorem oh {α:Type} (p:α→Bool) (l:List α):tP [.list (l.map fun c=>PyData.bool (p c))]=some (.fz (.bool (l.all p))):=by
 show(qX _).map (fun bs=>RV.fz (.bool (bs.all id)))=_
 rw[uH]
 show some (RV.fz (.bool _))=_
 rw[List.all_map]
 rfl
theorem lq:∀ns:List Int,mL (ns.map PyData.int)=some ns
 |[]=>rfl
 |n::r=>by
  show(mL (r.map PyData.int)).map (n::·)=_
  rw[lq r];rfl
theorem FV {fe:FE} {ρ ρ1:bb} {pv:PV} {z:Str} (h:fe ρ= .ok (pv,ρ1)) (hz:C4 pv=some z):AE fe ρ= .ok (vS z,ρ1):=by
 unfold AE
 rw[h,Res.bind_ok]
 dsimp only
 rw[hz]
 rfl
noncomputable def CD (c:Nat):Bool:=decide (97≤c)&&decide (c≤122)
theorem Hc (c:Nat):BL (.str "a") (.str (tx [c]))=some (.fz (.bool (decide (97≤c)))):=by
 show some (RV.fz (.bool (!decide ([c]<("a":Str).cps.toList))))=_
 rw[show("a":Str).cps.toList=[97] by decide+kernel]
 congr 3
 rw[←decide_not]
 apply decide_eq_decide.mpr
 rw[List.cons_lt_cons_iff]
 simp
theorem GZ (c:Nat):BL (.str (tx [c])) (.str "z")=some (.fz (.bool (decide (c≤122)))):=by
 show some (RV.fz (.bool (!decide (("z":Str).cps.toList<[c]))))=_
 rw[show("z":Str).cps.toList=[122] by decide+kernel]
 congr 3
 rw[←decide_not]
 apply decide_eq_decide.mpr
 rw[List.cons_lt_cons_iff]
 simp
noncomputable def md (ks:List Int):Bool:=(ks.zip (ks.drop 1)).all fun p=>decide (p.1<p.2)
theorem uF:∀a b:List Int,kz (a.map .int) (b.map .int)=(a.zip b).map fun p=>PyData.tuple [.int p.1,.int p.2]
 |[],b=>by cases b<;>rfl
 |x::r,[]=>rfl
 |x::r,y::t=>by
  show PyData.tuple [.int x,.int y]::kz (r.map .int) (t.map .int)=_
  rw[uF r t];rfl
theorem AU {ks:List Int} (h:1≤ks.length):Cu (kD ks) (some 1) none=some (.fz (kD (ks.drop 1))):=by
 have sl1:HT.sIx ks.length 0 (some 1)=1:=by have:=HT.sIx_nat ks.length 0 1;rw[show((1:Nat):Int)=1 from rfl] at this;omega
 show(if gZ (ks.map PyData.int).length (some 1) none=true then none else some (RV.fz (.tuple (ie (ks.map PyData.int) (some 1) none))))=_
 have w:gZ (ks.map PyData.int).length (some 1) none=false:=by
  unfold gZ
  rw[List.length_map,sl1]
  exact decide_eq_false fun z=>by cases z.1
 rw[w,if_neg Bool.false_ne_true]
 unfold ie kD
 rw[List.length_map,sl1,HT.sIx_none,←List.map_drop,List.take_of_length_le (by rw[List.length_map,List.length_drop];omega)]
theorem F4 (ks:List Int):bV [kD ks]=some (.fz (.int (ks.length:Int))):=by
 show some (RV.fz (.int ((ks.map PyData.int).length:Int)))=_
 rw[List.length_map]
theorem v4:∀(l:List D) (k i:Nat) (d:D),(eA k l)[i]? =some d→∃x,l[i]? =some x∧d= .tuple [nd (k+i),x]
 |[],_,_,_,h=>by cases h
 |x::r,k,0,d,h=>by
  cases h
  exact⟨x,rfl,rfl⟩
 |x::r,k,i+1,d,h=>by
  obtain⟨y,h1,h2⟩:=v4 r (k+1) i d h
  exact⟨y,h1,by rw[h2,show k+1+i=k+(i+1) by omega]⟩
theorem jm {N:Nat} {g:FS} {ds:List D} {x:Xc} {ρ:bb} (hρ:ds.map (fun d=>some (.fz d))++List.replicate (N - ds.length) none=ρ) (h:g ρ= .er x):fq N g ds= .er x:=by unfold fq;rw[hρ,h];rfl
theorem mI {f g:FS} {ρ:bb} {x:Xc} (h:f ρ= .er x):aO f g ρ= .er x:=by unfold aO;rw[h];rfl
theorem xF {c f:Str} {fe:FE} {ρ ρ1:bb} {pv:PV} {d:D} (he:fe ρ= .ok (pv,ρ1)) (hd:kF ρ1 pv=some d) (hf:L9.pP d=true):L9.kh c f fe ρ= .er ⟨c,[(f,d)]⟩:=by
 unfold L9.kh
 rw[he,Res.bind_ok]
 dsimp only
 rw[hd]
 show(if L9.pP d=true then _ else _)=_
 rw[if_pos hf]
theorem rH {gt:FG} {b:FS} {x:Xc} (I:Nat→bb→Prop):∀(k s:Nat) (ds:List D) (ρ:bb),k<ds.length→I s ρ→(∀i d ρ,i<k→ds[i]? =some d→I (s+i) ρ→∃ρ1 ρ2,gt (.fz d) ρ= .ok ρ1∧b ρ1= .ok (.nx ρ2)∧I (s+i+1) ρ2)→
  (∀d ρ,ds[k]? =some d→I (s+k) ρ→∃ρ1,gt (.fz d) ρ= .ok ρ1∧b ρ1= .er x)→oW gt b ds ρ= .er x
 |_,_,[],_,hk,_,_,_=>absurd hk (Nat.not_lt_zero _)
 |0,s,d::r,ρ,_,h0,_,hx=>by
  obtain⟨ρ1,g1,g2⟩:=hx d ρ rfl h0
  show(gt (.fz d) ρ).bind _=_
  rw[g1,Res.bind_ok,g2,Res.bind_er]
 |k+1,s,d::r,ρ,hk,h0,hs,hx=>by
  obtain⟨ρ1,ρ2,g1,g2,g3⟩:=hs 0 d ρ (by omega) rfl h0
  show(gt (.fz d) ρ).bind _=_
  rw[g1,Res.bind_ok,g2,Res.bind_ok]
  refine rH I k (s+1) r ρ2 (by rw[List.length_cons] at hk;omega) g3 (fun i d' ρ' hi hd hI=> ?_) fun d' ρ' hd hI=>hx d' ρ' hd (by rw[show s+(k+1)=s+1+k by omega];exact hI)
  have:=hs (i+1) d' ρ' (by omega) hd (by rw[show s+(i+1)=s+1+i by omega];exact hI)
  rw[show s+(i+1)+1=s+1+i+1 by omega] at this
  exact this
theorem Bx (a b:List Nat):PyData.eqv (.str (tx a)) (.str (tx b))=decide (a=b):=by
 show decide (tx a=tx b)=_
 exact decide_eq_decide.mpr ⟨Dv,fun h=>by rw[h]⟩
theorem sJ:∀{L:List (List Nat)},(∀l∈L,∀c∈l,c<1114112)→PyData.canLayAll0 (L.map fun l=>PyData.str (tx l))=true
 |[],_=>rfl
 |l::r,h=>by
  show(PyData.strOk (tx l)&&PyData.canLayAll0 (r.map fun l=>PyData.str (tx l)))=true
  rw[qq (h l List.mem_cons_self),sJ fun m hm=>h m (List.mem_cons_of_mem _ hm)];rfl
theorem sw (w:List Nat):∀L:List (List Nat),((L.map fun l=>PyData.str (tx l)).any fun e=>PyData.eqv e (.str (tx w)))=decide (w∈L)
 |[]=>rfl
 |l::r=>by
  rw[List.map_cons,List.any_cons,sw w r,Bx]
  by_cases h:l=w
  ·subst h;simp
  ·have:¬w=l:=fun z=>h z.symm
   simp[h,this]
theorem Hm {w:List Nat} {L:List (List Nat)} (hw:∀c∈w,c<1114112) (hL:∀l∈L,∀c∈l,c<1114112):ng (.str (tx w)) (.list (L.map fun l=>PyData.str (tx l)))=some (.fz (.bool (decide (w∈L)))):=by
 show(if((PyData.strOk (tx w)&&decide (0≤64))&&PyData.canLayAll0 (L.map fun l=>PyData.str (tx l)))=true then some (RV.fz (.bool ((L.map fun l=>PyData.str (tx l)).any fun e=>PyData.eqv e (.str (tx w))))) else none)=_
 rw[qq hw,sJ hL,sw]
 rfl
theorem GE {w:List Nat} {L:List (List Nat)} (hw:∀c∈w,c<1114112) (hL:∀l∈L,∀c∈l,c<1114112):ku (.str (tx w)) (.list (L.map fun l=>PyData.str (tx l)))=some (.fz (.bool (!decide (w∈L)))):=by
 show(if((PyData.strOk (tx w)&&decide (0≤64))&&PyData.canLayAll0 (L.map fun l=>PyData.str (tx l)))=true then some (RV.fz (.bool (!(L.map fun l=>PyData.str (tx l)).any fun e=>PyData.eqv e (.str (tx w))))) else none)=_
 rw[qq hw,sJ hL,sw]
 rfl
theorem yX:∀(l acc:List Int),(l.foldl PyProof.Rows.step_dedup acc).length≤acc.length+l.length
 |[],acc=>Nat.le_refl _
 |x::r,acc=>by
  rw[List.foldl_cons]
  have h:=yX r (PyProof.Rows.step_dedup acc x)
  have h2:(PyProof.Rows.step_dedup acc x).length≤acc.length+1:=by
   unfold PyProof.Rows.step_dedup
   split
   ·omega
   ·rw[List.length_append,List.length_singleton];exact Nat.le_refl _
  rw[List.length_cons]
  omega
theorem tq:∀(l acc:List Int),(l.foldl PyProof.Rows.step_dedup acc).length=acc.length+l.length→l.Nodup∧∀x∈l,x∉acc
 |[],acc,_=>⟨List.nodup_nil,fun x h=>by cases h⟩
 |x::r,acc,h=>by
  rw[List.foldl_cons] at h
  by_cases q:acc.any (·==x)=true
  ·have e:PyProof.Rows.step_dedup acc x=acc:=by unfold PyProof.Rows.step_dedup;rw[if_pos q]
   rw[e,List.length_cons] at h
   have:=yX r acc
   omega
  ·have e:PyProof.Rows.step_dedup acc x=acc++[x]:=by unfold PyProof.Rows.step_dedup;rw[if_neg q]
   rw[e,List.length_cons] at h
   obtain⟨h1,h2⟩:=tq r (acc++[x]) (by rw[List.length_append,List.length_singleton];omega)
   have hx:x∉acc:=fun z=>q (List.any_eq_true.mpr ⟨x,z,beq_self_eq_true x⟩)
   refine⟨List.nodup_cons.mpr ⟨fun z=>h2 x z (List.mem_append_right _ List.mem_cons_self),h1⟩,fun y hy=> ?_⟩
   rcases List.mem_cons.mp hy with rfl|hy
   ·exact hx
   ·exact fun z=>h2 y hy (List.mem_append_left _ z)
theorem mV:∀(l acc:List Int),l.Nodup→(∀x∈l,x∉acc)→(l.foldl PyProof.Rows.step_dedup acc).length=acc.length+l.length
 |[],acc,_,_=>rfl
 |x::r,acc,h,hd=>by
  obtain⟨h1,h2⟩:=List.nodup_cons.mp h
  have hx:=hd x List.mem_cons_self
  have e:PyProof.Rows.step_dedup acc x=acc++[x]:=by
   unfold PyProof.Rows.step_dedup
   rw[if_neg fun z=> ?_]
   obtain⟨y,hy,e⟩:=List.any_eq_true.mp z
   rw[eq_of_beq e] at hy
   exact hx hy
  rw[List.foldl_cons,e,mV r _ h2 fun y hy z=> ?_,List.length_append,List.length_singleton,List.length_cons]
  ·omega
  ·rcases List.mem_append.mp z with z|z
   ·exact hd y (List.mem_cons_of_mem _ hy) z
   ·rw[List.mem_singleton.mp z] at hy;exact h1 hy
theorem Em (ks:List Int):L9.wI ks≤ks.length:=by have:=yX ks [];unfold L9.wI;simpa using this
theorem we (ks:List Int):L9.wI ks=ks.length↔ks.Nodup:=by
 unfold L9.wI
 constructor
 ·exact fun h=>(tq ks [] (by simpa using h)).1
 ·exact fun h=>by simpa using mV ks [] h fun _ _ z=>by cases z
theorem ly:∀ks:List Int,md ks=true↔ks.Pairwise (·<·)
 |[]=>by simp[md]
 |[a]=>by simp[md]
 |a::b::r=>by
  have ih:=ly (b::r)
  have e:md (a::b::r)=(decide (a<b)&&md (b::r)):=rfl
  rw[e,Bool.and_eq_true,decide_eq_true_iff,ih]
  constructor
  ·rintro⟨h1,h2⟩
   refine List.pairwise_cons.mpr ⟨fun x hx=> ?_,h2⟩
   rcases List.mem_cons.mp hx with rfl|hx
   ·exact h1
   ·exact Int.lt_trans h1 ((List.pairwise_cons.mp h2).1 x hx)
  ·exact fun h=>have z:=List.pairwise_cons.mp h;⟨z.1 b List.mem_cons_self,z.2⟩
theorem Gk {ks:List Int} (h1:ks.Pairwise (·≤·)) (h2:ks.Nodup):ks.Pairwise (·<·):=(h1.and h2).imp fun⟨a,b⟩=>by omega
theorem xn:∀{ks:List Int} (hne:ks≠[]),ks.Pairwise (·≤·)→∀x∈ks,x≤ks.getLast hne
 |[a],_,_,x,hx=>by rw[List.mem_singleton.mp hx];exact Int.le_refl _
 |a::b::r,_,h,x,hx=>by
  rw[List.getLast_cons (List.cons_ne_nil b r)]
  obtain⟨h1,h2⟩:=List.pairwise_cons.mp h
  rcases List.mem_cons.mp hx with rfl|hx
  ·exact Int.le_trans (h1 b List.mem_cons_self) (xn (List.cons_ne_nil b r) h2 b List.mem_cons_self)
  ·exact xn (List.cons_ne_nil b r) h2 x hx
theorem De:∀ks:List Int,PyData.canLayAll0 (ks.map PyData.int)=true
 |[]=>rfl
 |k::r=>by show(true&&PyData.canLayAll0 (r.map PyData.int))=true;rw[De r];rfl
theorem BE:∀ks:List Int,PyData.depthAll (ks.map PyData.int)=0
 |[]=>rfl
 |k::r=>by show max 0 (PyData.depthAll (r.map PyData.int))=0;rw[BE r];rfl
theorem Cj:∀a b:List Int,PyData.eqvAll (a.map PyData.int) (b.map PyData.int)=decide (a=b)
 |[],[]=>rfl
 |[],_::_=>rfl
 |_::_,[]=>rfl
 |x::r,y::t=>by
  show(decide (x=y)&&PyData.eqvAll (r.map PyData.int) (t.map PyData.int))=_
  rw[Cj r t]
  by_cases h:x=y<;>by_cases g:r=t<;>simp[h,g]
theorem A1 (a b:List Int):mY (.list (a.map .int)) (.list (b.map .int))=some (.fz (.bool (!decide (a=b)))):=by
 unfold mY
 have h1:kL (.list (a.map PyData.int))=true:=by
  show(PyData.canLayAll0 (a.map PyData.int)&&decide (PyData.depthAll (a.map PyData.int)+1≤64))=true
  rw[De,BE];rfl
 rw[h1,show PyData.canLay0 (.list (b.map PyData.int))=true from De b,Bool.and_self,if_pos rfl,show PyData.eqv (.list (a.map PyData.int)) (.list (b.map PyData.int))=_ from Cj a b]
theorem GK (a:Int) (r:List Int):bC (kD (a::r)) (.int (-1))=some (.fz (.int ((a::r).getLast (List.cons_ne_nil a r)))):=by
 have e:(a::r).map PyData.int=(a::r).dropLast.map PyData.int++[.int ((a::r).getLast (List.cons_ne_nil a r))]:=by
  conv=>lhs;rw[←List.dropLast_concat_getLast (List.cons_ne_nil a r)]
  rw[List.map_append];rfl
 show(nq ((a::r).map PyData.int) (-1)).map RV.fz=_
 rw[e,An];rfl
theorem GL {neg:Bool} {fa:FE} {fl:FA} {ρ ρ1 ρ2:bb} {p:PV} {ps:List PV} {i lo hi:Int} (ha:fa ρ= .ok (p,ρ1)) (hl:fl ρ1= .ok (ps,ρ2)) (hd:kF ρ2 (fw p)=some (.int i)) (he:jW ρ2 ps=some [.int lo,.int hi]):L9.DW neg fa fl ρ= .ok (.fz (.bool (if neg then !decide (lo≤i∧i<hi) else decide (lo≤i∧i<hi))),ρ2):=L9.DI (rv:= .fz (.bool _)) ha hl hd he rfl
theorem HW (n a:Int):(!decide (1≤n∧n<a+1))= !(decide (1≤n)&&decide (n≤a)):=by
 congr 1
 rw[←Bool.decide_and]
 apply decide_eq_decide.mpr
 omega
inductive Mg where
 |letter (s:List Nat)
 |layer (n:Int)
 |tap (s:List Nat) (n:Int)
 |once (n:Int)
 |none
 |below
noncomputable def mG:Mg→D
 | .letter s=> .tuple [.str "letter",ef s]
 | .layer n=> .tuple [.str "layer",.int n]
 | .tap s n=> .tuple [.str "tap",ef s,.int n]
 | .once n=> .tuple [.str "once",.int n]
 | .none=> .tuple [.str "none"]
 | .below=> .tuple [.str "below"]
structure Gb where
 n:Int
 ls:List (List Mg)
 cs:List (List Int×List Nat)
 wt:Int
noncomputable def bZ (l:List Mg):D:= .tuple (l.map mG)
noncomputable def cT (c:List Int×List Nat):D:= .tuple [kD c.1,ef c.2]
noncomputable def gD (b:Gb):D:= .tuple [.int b.n,.tuple (b.ls.map bZ),.tuple (b.cs.map cT),.int b.wt]
noncomputable def Ar (s:List Nat):Prop:=s.length≤10∧∀c∈s,c<1114112
noncomputable def MF:Mg→Prop
 | .letter s=>Ar s
 | .tap s _=>Ar s
 |_=>True
structure GF (k:Nat) (b:Gb):Prop where
 ll:b.ls.length≤3+k
 lm:∀l∈b.ls,l.length≤5+k∧∀m∈l,MF m
 cl:b.cs.length≤5+k
 cm:∀c∈b.cs,c.1.length≤5+k∧Ar c.2
noncomputable def kA (s:List Nat):Bool:=decide ((s.length:Int)=1)&&s.all CD
theorem pW {c:Nat} {fa:FE} {ρ:bb} (h:fa ρ= .ok (.fz (ef [c]),ρ)):eh BL BL (pC (.str "a")) fa (pC (.str "z")) ρ= .ok (.fz (.bool ([c].all CD)),ρ):=by
 have e:[c].all CD=(decide (97≤c)&&decide (c≤122)):=by
  show(CD c&&true)=_
  rw[Bool.and_true];rfl
 rw[e]
 exact gz (dy:=ef [c]) aU h aU rfl rfl rfl (Hc c) fun _=>GZ c
theorem ze {s:List Nat} (h:((s.length:Nat):Int)=1):∃c,s=[c]:=by
 match s,h with
 |[c],_=>exact⟨c,rfl⟩
 |[],h=>cases h
 |_::_::_,h=>rw[List.length_cons,List.length_cons] at h;omega
theorem mO {s:List Nat} (h:s.length≤1000):dq [ef s]= .ok (.fz (.bool (kA s))):=by
 have ln:=wQ h
 refine ey (ρ:=[some (.fz (ef s))]) rfl ?_
 unfold jL
 refine cb (lO (a:=decide ((s.length:Int)=1)) (b:=s.all CD) (aX (bR (dx:= .int (s.length:Int)) (dy:= .int 1) (dA (rv:= .fz (.int (s.length:Int))) (ao (ar rfl) aF) rfl ln) aU rfl rfl (ib _ _)) rfl) fun q=> ?_) rfl rfl
 obtain⟨c,rfl⟩:=ze (of_decide_eq_true q)
 exact pW (ar rfl)
theorem lE {s:List Nat} (h:s.length≤1000):cv [ef s]= .ok (.fz (.bool (kA s))):=by
 have ln:=wQ h
 refine ey (ρ:=[some (.fz (ef s))]) rfl ?_
 unfold gE
 refine cb (lO (a:=decide ((s.length:Int)=1)) (b:=s.all CD) (aX (bR (dx:= .int (s.length:Int)) (dy:= .int 1) (dA (rv:= .fz (.int (s.length:Int))) (ao (ar rfl) aF) rfl ln) aU rfl rfl (ib _ _)) rfl) fun q=> ?_) rfl rfl
 obtain⟨c,rfl⟩:=ze (of_decide_eq_true q)
 exact pW (ar rfl)
noncomputable def oA:Mg→Str
 | .letter _=> "letter"
 | .layer _=> "layer"
 | .tap _ _=> "tap"
 | .once _=> "once"
 | .none=> "none"
 | .below=> "below"
noncomputable def b2:Mg→Bool
 | .letter _=>true
 | .tap _ _=>true
 |_=>false
noncomputable def b3:Mg→Bool
 | .layer _=>true
 | .tap _ _=>true
 | .once _=>true
 |_=>false
noncomputable def bB:Mg→Bool
 | .below=>true
 |_=>false
noncomputable def sG:Mg→List Nat
 | .letter s=>s
 | .tap s _=>s
 |_=>[]
noncomputable def nG:Mg→Int
 | .layer n=>n
 | .tap _ n=>n
 | .once n=>n
 |_=>0
theorem Bz (m:Mg):bC (mG m) (.int 0)=some (.fz (.str (oA m))):=by cases m<;>exact uX
theorem HC {m:Mg} (h:b2 m=true):bC (mG m) (.int 1)=some (.fz (ef (sG m))):=by cases m<;>first|exact Ca|cases h
theorem HN {m:Mg} (h:b3 m=true):bC (mG m) (.int (-1))=some (.fz (.int (nG m))):=by cases m<;>first|rfl|cases h
theorem Ft {a:Str} (ha:PyData.strOk a=true):mY (.str a) (.str a)=some (.fz (.bool false)):=by
 unfold mY
 rw[show kL (.str a)=true by unfold kL;rw[show PyData.canLay0 (.str a)=true from ha];rfl,show PyData.canLay0 (.str a)=true from ha,Bool.and_self,if_pos rfl,show PyData.eqv (.str a) (.str a)=(a==a) from rfl,beq_self_eq_true]
 rfl
theorem ud {a b:Str} (ha:PyData.strOk a=true) (hb:PyData.strOk b=true) (h:(a==b)=false):mY (.str a) (.str b)=some (.fz (.bool true)):=by
 unfold mY
 rw[show kL (.str a)=true by unfold kL;rw[show PyData.canLay0 (.str a)=true from ha];rfl,show PyData.canLay0 (.str b)=true from hb,Bool.and_self,if_pos rfl,show PyData.eqv (.str a) (.str b)=(a==b) from rfl,h]
 rfl
theorem E4 {a b c:Str} {v:Bool} (ha:PyData.strOk a=true) (hb:PyData.strOk b=true) (hc:PyData.strOk c=true) (h:(b==a||c==a)=v):ng (.str a) (.tuple [.str b,.str c])=some (.fz (.bool v)):=by rw[GR ha hb hc,h]
theorem Fb {a b c e:Str} {v:Bool} (ha:PyData.strOk a=true) (hb:PyData.strOk b=true) (hc:PyData.strOk c=true) (he:PyData.strOk e=true) (h:(b==a||(c==a||e==a))=v):ng (.str a) (.tuple [.str b,.str c,.str e])=some (.fz (.bool v)):=by rw[G7 ha hb hc he,h]
theorem BX:∀m:Mg,fO (.str (oA m)) (.str "below")=some (.fz (.bool (bB m)))
 | .letter _=>ik (a:= "letter") (by decide+kernel) (by decide+kernel) (by decide+kernel)
 | .layer _=>ik (a:= "layer") (by decide+kernel) (by decide+kernel) (by decide+kernel)
 | .tap _ _=>ik (a:= "tap") (by decide+kernel) (by decide+kernel) (by decide+kernel)
 | .once _=>ik (a:= "once") (by decide+kernel) (by decide+kernel) (by decide+kernel)
 | .none=>ik (a:= "none") (by decide+kernel) (by decide+kernel) (by decide+kernel)
 | .below=>AZ (a:= "below") (by decide+kernel)
theorem Am:∀m:Mg,mY (.str (oA m)) (.str "below")=some (.fz (.bool (!bB m)))
 | .letter _=>ud (a:= "letter") (by decide+kernel) (by decide+kernel) (by decide+kernel)
 | .layer _=>ud (a:= "layer") (by decide+kernel) (by decide+kernel) (by decide+kernel)
 | .tap _ _=>ud (a:= "tap") (by decide+kernel) (by decide+kernel) (by decide+kernel)
 | .once _=>ud (a:= "once") (by decide+kernel) (by decide+kernel) (by decide+kernel)
 | .none=>ud (a:= "none") (by decide+kernel) (by decide+kernel) (by decide+kernel)
 | .below=>Ft (a:= "below") (by decide+kernel)
theorem CQ:∀m:Mg,ng (.str (oA m)) (.tuple [.str "letter",.str "tap"])=some (.fz (.bool (b2 m)))
 | .letter _=>E4 (a:= "letter") (v:=true) (by decide+kernel) (by decide+kernel) (by decide+kernel) (by decide+kernel)
 | .layer _=>E4 (a:= "layer") (v:=false) (by decide+kernel) (by decide+kernel) (by decide+kernel) (by decide+kernel)
 | .tap _ _=>E4 (a:= "tap") (v:=true) (by decide+kernel) (by decide+kernel) (by decide+kernel) (by decide+kernel)
 | .once _=>E4 (a:= "once") (v:=false) (by decide+kernel) (by decide+kernel) (by decide+kernel) (by decide+kernel)
 | .none=>E4 (a:= "none") (v:=false) (by decide+kernel) (by decide+kernel) (by decide+kernel) (by decide+kernel)
 | .below=>E4 (a:= "below") (v:=false) (by decide+kernel) (by decide+kernel) (by decide+kernel) (by decide+kernel)
theorem Cv:∀m:Mg,ng (.str (oA m)) (.tuple [.str "layer",.str "tap",.str "once"])=some (.fz (.bool (b3 m)))
 | .letter _=>Fb (a:= "letter") (v:=false) (by decide+kernel) (by decide+kernel) (by decide+kernel) (by decide+kernel) (by decide+kernel)
 | .layer _=>Fb (a:= "layer") (v:=true) (by decide+kernel) (by decide+kernel) (by decide+kernel) (by decide+kernel) (by decide+kernel)
 | .tap _ _=>Fb (a:= "tap") (v:=true) (by decide+kernel) (by decide+kernel) (by decide+kernel) (by decide+kernel) (by decide+kernel)
 | .once _=>Fb (a:= "once") (v:=true) (by decide+kernel) (by decide+kernel) (by decide+kernel) (by decide+kernel) (by decide+kernel)
 | .none=>Fb (a:= "none") (v:=false) (by decide+kernel) (by decide+kernel) (by decide+kernel) (by decide+kernel) (by decide+kernel)
 | .below=>Fb (a:= "below") (v:=false) (by decide+kernel) (by decide+kernel) (by decide+kernel) (by decide+kernel) (by decide+kernel)
theorem Ej (m:Mg):ng (.str (oA m)) (.list [.str "letter",.str "tap"])=some (.fz (.bool (b2 m))):=CQ m
theorem EB (m:Mg):ng (.str (oA m)) (.list [.str "layer",.str "tap",.str "once"])=some (.fz (.bool (b3 m))):=Cv m
noncomputable def oH (m:Mg) (L nL:Int):Bool:=if bB m=true then !decide (L=0) else !(b2 m&& !kA (sG m))&&(!b3 m||(decide (1≤nG m)&&decide (nG m<nL)))
theorem MF.s {m:Mg} (h:MF m) (hb:b2 m=true):Ar (sG m):=by cases m<;>first|exact h|cases hb
theorem vI {L nL:Int} {m:Mg} (h:MF m):gh [mG m,.int L,.int nL]= .ok (.fz (.bool (oH m L nL))):=by
 have e0:=Bz m
 have eb:=BX m
 have i2:=CQ m
 have i3:=Cv m
 refine ey (ρ:=[some (.fz (mG m)),some (.fz (.int L)),some (.fz (.int nL)),none]) rfl ?_
 unfold kN
 refine cK (pv:= .fz (.str (oA m))) (ρ3:=[some (.fz (mG m)),some (.fz (.int L)),some (.fz (.int nL)),some (.fz (.str (oA m)))]) (a8 (rv:= .fz (.str (oA m))) (ar rfl) aU rfl rfl e0) rfl rfl ?_
 unfold oH
 refine e8 (b:=bB m) (aX (bR (ar rfl) aU rfl rfl eb) rfl) (fun q=> ?_) fun q=>cG ?_
 ·rw[if_pos q]
  exact eW (pv:= .fz (.bool (!decide (L=0)))) (bR (ar rfl) aU rfl rfl (lN _ _)) rfl rfl
 rw[q,if_neg Bool.false_ne_true]
 have c2:(gb (aG (az ng (ag 3) (aD (aa (pC (.str "letter")) (aa (pC (.str "tap")) am))))) (gL (aG (bx dq 1 (aa (az bC (ag 0) (pC (.int 1))) am))))) [some (.fz (mG m)),some (.fz (.int L)),some (.fz (.int nL)),some (.fz (.str (oA m)))]
   = .ok (b2 m&& !kA (sG m),[some (.fz (mG m)),some (.fz (.int L)),some (.fz (.int nL)),some (.fz (.str (oA m)))]):=by
  refine gp (aX (bR (dx:= .str (oA m)) (dy:= .tuple [.str "letter",.str "tap"]) (ar rfl) (da (ds:=[.str "letter",.str "tap"]) (ao aU (ao aU aF)) rfl (Nat.le_of_ble_eq_true rfl)) rfl rfl i2) rfl) fun z=> ?_
  have es:=HC z
  have el:=mO (s:=sG m) (by have:=(h.s z).1;omega)
  exact dY (aX (fZ (ds:=[ef (sG m)]) (ao (a8 (rv:= .fz (ef (sG m))) (ar rfl) aU rfl rfl es) aF) rfl rfl el) rfl)
 refine e8 c2 (fun q2=> ?_) fun q2=>cG ?_
 ·rw[q2]
  exact eW (pv:= .fz (.bool false)) aU rfl rfl
 rw[q2]
 refine e8 (b:=b3 m) (aX (bR (dx:= .str (oA m)) (dy:= .tuple [.str "layer",.str "tap",.str "once"]) (ar rfl) (da (ds:=[.str "layer",.str "tap",.str "once"]) (ao aU (ao aU (ao aU aF))) rfl (Nat.le_of_ble_eq_true rfl)) rfl rfl i3) rfl) (fun q3=> ?_) fun q3=>cG ?_
 ·have en:=HN q3
  rw[q3]
  exact eW (pv:= .fz (.bool (decide (1≤nG m)&&decide (nG m<nL)))) (gz (dy:= .int (nG m)) aU (a8 (rv:= .fz (.int (nG m))) (ar rfl) (qk (rv:= .fz (.int (-1))) aU rfl rfl) rfl rfl en) (ar rfl) rfl rfl rfl (kK _ _) fun _=>gI _ _) rfl rfl
 ·rw[q3]
  exact cb (pv:= .fz (.bool true)) aU rfl rfl
theorem tV {L nL:Int} (hL:0≤L) {m:Mg} (h:MF m):fL [mG m,.int L,.int nL]= .ok (.fz (.bool (oH m L nL))):=by
 have e0:=Bz m
 have eb:=Am m
 have i2:=Ej m
 have i3:=EB m
 refine ey (ρ:=[some (.fz (mG m)),some (.fz (.int L)),some (.fz (.int nL))]) rfl ?_
 unfold ju
 have ew:(az bC (ag 0) (pC (.int 0))) [some (.fz (mG m)),some (.fz (.int L)),some (.fz (.int nL))]= .ok (.fz (.str (oA m)),[some (.fz (mG m)),some (.fz (.int L)),some (.fz (.int nL))]):=a8 (rv:= .fz (.str (oA m))) (ar rfl) aU rfl rfl e0
 have c2:(gb (aG (az ng (az bC (ag 0) (pC (.int 0))) (cV (aa (pC (.str "letter")) (aa (pC (.str "tap")) am))))) (gL (aG (bx cv 1 (aa (az bC (ag 0) (pC (.int 1))) am))))) [some (.fz (mG m)),some (.fz (.int L)),some (.fz (.int nL))]
   = .ok (b2 m&& !kA (sG m),[some (.fz (mG m)),some (.fz (.int L)),some (.fz (.int nL))]):=by
  refine gp (aX (bR (dx:= .str (oA m)) (dy:= .list [.str "letter",.str "tap"]) ew (fE (ds:=[.str "letter",.str "tap"]) (ao aU (ao aU aF)) rfl (Nat.le_of_ble_eq_true rfl)) rfl rfl i2) rfl) fun z=> ?_
  have es:=HC z
  have el:=lE (s:=sG m) (by have:=(h.s z).1;omega)
  exact dY (aX (fZ (ds:=[ef (sG m)]) (ao (a8 (rv:= .fz (ef (sG m))) (ar rfl) aU rfl rfl es) aF) rfl rfl el) rfl)
 have nb2:bB m=true→b2 m=false:=fun z=>by cases m<;>first|rfl|cases z
 have nb3:bB m=true→b3 m=false:=fun z=>by cases m<;>first|rfl|cases z
 unfold oH
 refine e8 c2 (fun q2=> ?_) fun q2=>cG ?_
 ·refine eW (pv:= .fz (.bool false)) (rv:= .fz (.bool false)) aU rfl ?_
  cases q:bB m with
  |true=>rw[nb2 q] at q2;cases q2
  |false=>rw[if_neg Bool.false_ne_true,q2];rfl
 have c3:(gb (aG (az ng (az bC (ag 0) (pC (.int 0))) (cV (aa (pC (.str "layer")) (aa (pC (.str "tap")) (aa (pC (.str "once")) am)))))) (nK (aG (az me (az bC (ag 0) (qY kW (pC (.int 1)))) (pC (.int 1)))) (aG (az Dp (az bC (ag 0) (qY kW (pC (.int 1)))) (ag 2))))) [some (.fz (mG m)),some (.fz (.int L)),some (.fz (.int nL))]
   = .ok (b3 m&&(decide (nG m<1)||decide (nG m≥nL)),[some (.fz (mG m)),some (.fz (.int L)),some (.fz (.int nL))]):=by
  refine gp (aX (bR (dx:= .str (oA m)) (dy:= .list [.str "layer",.str "tap",.str "once"]) ew (fE (ds:=[.str "layer",.str "tap",.str "once"]) (ao aU (ao aU (ao aU aF))) rfl (Nat.le_of_ble_eq_true rfl)) rfl rfl i3) rfl) fun z=> ?_
  have en:=HN z
  have ex:(az bC (ag 0) (qY kW (pC (.int 1)))) [some (.fz (mG m)),some (.fz (.int L)),some (.fz (.int nL))]= .ok (.fz (.int (nG m)),[some (.fz (mG m)),some (.fz (.int L)),some (.fz (.int nL))]):=a8 (rv:= .fz (.int (nG m))) (ar rfl) (qk (rv:= .fz (.int (-1))) aU rfl rfl) rfl rfl en
  exact hG (aX (bR ex aU rfl rfl (gI _ _)) rfl) fun _=>aX (bR ex (ar rfl) rfl rfl (AX _ _)) rfl
 have nn:(decide (1≤nG m)&&decide (nG m<nL))= !(decide (nG m<1)||decide (nG m≥nL)):=by
  rw[Bool.not_or,←decide_not,←decide_not]
  congr 1<;>(apply decide_eq_decide.mpr;omega)
 refine e8 c3 (fun q3=> ?_) fun q3=>cG ?_
 ·refine eW (pv:= .fz (.bool false)) (rv:= .fz (.bool false)) aU rfl ?_
  cases q:bB m with
  |true=>rw[nb3 q] at q3;cases q3
  |false=>
   rw[if_neg Bool.false_ne_true,nn,q2]
   rw[Bool.and_eq_true] at q3
   rw[q3.1,q3.2];rfl
 refine cb (pv:= .fz (.bool (!bB m||decide (L>0)))) (rv:= .fz (.bool (!bB m||decide (L>0)))) (o6 (aX (bR ew aU rfl rfl eb) rfl) fun _=>bR (ar rfl) aU rfl rfl (kG _ _)) rfl ?_
 cases q:bB m with
 |true=>
  rw[if_pos rfl]
  show RV.fz (.bool (decide (L>0)))=_
  congr 2
  rw[←decide_not]
  apply decide_eq_decide.mpr
  omega
 |false=>
  rw[if_neg Bool.false_ne_true,nn,q2]
  cases z:b3 m with
  |false=>rfl
  |true=>
   rw[z] at q3
   have q3:(decide (nG m<1)||decide (nG m≥nL))=false:=q3
   rw[q3];rfl
theorem kZ {c f g:Str} {fa:FA} {ρ ρ1:bb} {ps:List PV} {d e:D} (ha:fa ρ= .ok (ps,ρ1)) (hd:jW ρ1 ps=some [d,e]) (h1:L9.pP d=true) (h2:L9.pP e=true):L9.g7 c f g fa ρ= .er ⟨c,[(g,e),(f,d)]⟩:=by
 unfold L9.g7
 rw[ha,Res.bind_ok]
 dsimp only
 rw[hd]
 show(if L9.pP d=true∧L9.pP e=true then _ else _)=_
 rw[if_pos ⟨h1,h2⟩]
theorem sD {F:FN} {n:Nat} {fa:FA} {ρ ρ1 ρ2:bb} {ps:List PV} {ds:List D} {x:Xc} (ha:fa ρ= .ok (ps,ρ1)) (hd:jH ρ1 ps=some (ds,ρ2)) (hn:ds.length=n) (hF:F ds= .er x):kH F n fa ρ= .er x:=by
 unfold kH
 rw[ha,Res.bind_ok]
 dsimp only
 rw[hd]
 show(if ds.length=n then _ else _)=_
 rw[if_pos hn,hF]
 rfl
theorem js {F:FN} {n:Nat} {fa:FA} {ρ ρ1 ρ2:bb} {ps:List PV} {ds:List D} {rv:RV} (ha:fa ρ= .ok (ps,ρ1)) (hd:jH ρ1 ps=some (ds,ρ2)) (hn:ds.length=n) (hF:F ds= .ok rv):kH F n fa ρ= .ok (rv.pv,ρ2):=by
 unfold kH
 rw[ha,Res.bind_ok]
 dsimp only
 rw[hd]
 show(if ds.length=n then _ else _)=_
 rw[if_pos hn,hF]
 rfl
theorem sH {fe:FE} {ρ:bb} {x:Xc} (h:fe ρ= .er x):gi fe ρ= .er x:=by unfold gi;rw[h];rfl
theorem oQ {i:Nat} (h:i≤1000):L9.pP (nd i)=true:=by
 show decide (((i:Nat):Int).natAbs.log2<1920)=true
 refine decide_eq_true ?_
 rw[Int.natAbs_natCast]
 exact Nat.lt_of_le_of_lt (Nat.log2_le_self i) (by omega)
noncomputable abbrev xB (l k:D):Xc:=⟨"NoBed",[("key",k),("layer",l)]⟩
noncomputable abbrev xC (p:D):Xc:=⟨"NoChord",[("place",p)]⟩
section
variable {b:Gb} {k:Nat}
theorem GY:bC (gD b) (.int 0)=some (.fz (.int b.n)):=uX
theorem GC:bC (gD b) (.int 1)=some (.fz (.tuple (b.ls.map bZ))):=Ca
theorem G3:bC (gD b) (.int 2)=some (.fz (.tuple (b.cs.map cT))):=Fh
theorem HS:bC (gD b) (.int 3)=some (.fz (.int b.wt)):=Gh (by decide) rfl
theorem rS:bV [.tuple (b.ls.map bZ)]=some (.fz (.int (b.ls.length:Int))):=by
 show some (RV.fz (.int ((b.ls.map bZ).length:Int)))=_
 rw[List.length_map]
theorem u9:bV [.tuple (b.cs.map cT)]=some (.fz (.int (b.cs.length:Int))):=by
 show some (RV.fz (.int ((b.cs.map cT).length:Int)))=_
 rw[List.length_map]
theorem AM (l:List Mg):bV [bZ l]=some (.fz (.int (l.length:Int))):=by
 show some (RV.fz (.int ((l.map mG).length:Int)))=_
 rw[List.length_map]
noncomputable abbrev wq (lo hi x:Int):Bool:=decide (lo≤x)&&decide (x≤hi)
noncomputable def qU (b:Gb):Bool:= !wq 1 5 b.n|| !wq 1 3 (b.ls.length:Int)
noncomputable def rb (b:Gb):Bool:=decide ((b.cs.length:Int)>4)|| !wq 1 4 b.wt
theorem y6:cX [gD b]=if(qU b||rb b)=true then .er (xB .none .none) else .ok (.fz .none):=by
 have e0:=GY (b:=b)
 have e1:=GC (b:=b)
 have e2:=G3 (b:=b)
 have e3:=HS (b:=b)
 have l1:=rS (b:=b)
 have l2:=u9 (b:=b)
 have c1:(nK (gL (aG (eh tQ tQ (pC (.int 1)) (az bC (ag 0) (pC (.int 0))) (pC (.int 5))))) (gL (aG (eh tQ tQ (pC (.int 1)) (dh bV (aa (az bC (ag 0) (pC (.int 1))) am)) (pC (.int 3)))))) [some (.fz (gD b))]= .ok (qU b,[some (.fz (gD b))]):=
  hG (dY (aX (gz (dy:= .int b.n) aU (a8 (rv:= .fz (.int b.n)) (ar rfl) aU rfl rfl e0) aU rfl rfl rfl (kK _ _) fun _=>kK _ _) rfl)) fun _=>dY (aX (gz (dy:= .int (b.ls.length:Int)) aU (dA (rv:= .fz (.int (b.ls.length:Int))) (ao (a8 (rv:= .fz (.tuple (b.ls.map bZ))) (ar rfl) aU rfl rfl e1) aF) rfl l1) aU rfl rfl rfl (kK _ _) fun _=>kK _ _) rfl)
 have c2:(nK (aG (az my (dh bV (aa (az bC (ag 0) (pC (.int 2))) am)) (pC (.int 4)))) (gL (aG (eh tQ tQ (pC (.int 1)) (az bC (ag 0) (pC (.int 3))) (pC (.int 4)))))) [some (.fz (gD b))]= .ok (rb b,[some (.fz (gD b))]):=
  hG (aX (bR (dx:= .int (b.cs.length:Int)) (dy:= .int 4) (dA (rv:= .fz (.int (b.cs.length:Int))) (ao (a8 (rv:= .fz (.tuple (b.cs.map cT))) (ar rfl) aU rfl rfl e2) aF) rfl l2) aU rfl rfl (kG _ _)) rfl) fun _=>dY (aX (gz (dy:= .int b.wt) aU (a8 (rv:= .fz (.int b.wt)) (ar rfl) aU rfl rfl e3) aU rfl rfl rfl (kK _ _) fun _=>kK _ _) rfl)
 have rn:∀{ρ:bb},L9.g7 "NoBed" "layer" "key" (aa (pC .none) (aa (pC .none) am)) ρ= .er (xB .none .none):=kZ (ao aU (ao aU aF)) rfl rfl rfl
 cases q1:qU b with
 |true=>
  rw[q1] at c1
  rw[Bool.true_or,if_pos rfl]
  refine jm (ρ:=[some (.fz (gD b))]) rfl ?_
  unfold ei
  exact mI ((yt c1).trans rn)
 |false=>
  rw[q1] at c1
  cases q2:rb b with
  |true=>
   rw[q2] at c2
   rw[Bool.false_or,if_pos rfl]
   refine jm (ρ:=[some (.fz (gD b))]) rfl ?_
   unfold ei
   exact(hW ((Bf c1).trans rfl)).trans ((yt c2).trans rn)
  |false=>
   rw[q2] at c2
   rw[Bool.false_or,if_neg Bool.false_ne_true]
   refine ey (ρ:=[some (.fz (gD b))]) rfl ?_
   unfold ei
   exact e8 c1 (fun z=>by cases z) fun _=>cG (eO c2 (fun z=>by cases z) fun _=>cN rfl)
noncomputable def bW (b:Gb) (i:Nat):List Mg:=b.ls.getD i []
theorem wb {i:Nat} (h:i<b.ls.length):(b.ls.map bZ)[i]? =some (bZ (bW b i)):=by
 unfold bW
 rw[List.getElem?_map,List.getElem?_eq_getElem h,List.getD_eq_getElem?_getD,List.getElem?_eq_getElem h]
 rfl
theorem ve {i:Nat} (h:i<b.ls.length):bW b i∈b.ls:=by
 unfold bW
 rw[List.getD_eq_getElem?_getD,List.getElem?_eq_getElem h]
 exact List.getElem_mem h
theorem v6 {l:List Mg} {j:Nat} (h:j<l.length):(l.map mG)[j]? =some (mG (l.getD j .none)):=by
 rw[List.getElem?_map,List.getElem?_eq_getElem h,List.getD_eq_getElem?_getD,List.getElem?_eq_getElem h]
 rfl
theorem AC {l:List Mg} {j:Nat} (h:j<l.length):l.getD j .none∈l:=by
 rw[List.getD_eq_getElem?_getD,List.getElem?_eq_getElem h]
 exact List.getElem_mem h
noncomputable def mP (b:Gb) (i j:Nat):Bool:= !oH ((bW b i).getD j .none) (i:Int) (b.ls.length:Int)
noncomputable def mH (b:Gb) (i:Nat):Option Nat:=(List.range (bW b i).length).find? fun j=>mP b i j
noncomputable def h8 (b:Gb) (i:Nat):Option D:=if((bW b i).length:Int)=b.n then(mH b i).map nd else some .none
theorem uZ (hF:GF k b) (hk:k≤10) {i:Nat} (hi:i<b.ls.length):c7 [gD b,nd i]=match h8 b i with|some d=> .er (xB (nd i) d)|none=> .ok (.fz .none):=by
 have ll:=hF.ll
 have e0:=GY (b:=b)
 have e1:=GC (b:=b)
 have l1:=rS (b:=b)
 have ix:bC (.tuple (b.ls.map bZ)) (nd i)=some (.fz (bZ (bW b i))):=vY (wb hi)
 have lm:=hF.lm _ (ve hi)
 have l2:=AM (bW b i)
 have a0:(az bC (az bC (ag 0) (pC (.int 1))) (ag 1)) [some (.fz (gD b)),some (.fz (nd i)),none,none,none]= .ok (.fz (bZ (bW b i)),[some (.fz (gD b)),some (.fz (nd i)),none,none,none]):=a8 (rv:= .fz (bZ (bW b i))) (a8 (rv:= .fz (.tuple (b.ls.map bZ))) (ar rfl) aU rfl rfl e1) (ar rfl) rfl rfl ix
 have c1:(aG (az mY (dh bV (aa (ag 2) am)) (az bC (ag 0) (pC (.int 0))))) [some (.fz (gD b)),some (.fz (nd i)),some (.fz (bZ (bW b i))),none,none]= .ok (!decide (((bW b i).length:Int)=b.n),[some (.fz (gD b)),some (.fz (nd i)),some (.fz (bZ (bW b i))),none,none]):=
  aX (bR (dx:= .int ((bW b i).length:Int)) (dy:= .int b.n) (dA (rv:= .fz (.int ((bW b i).length:Int))) (ao (ar rfl) aF) rfl l2) (a8 (rv:= .fz (.int b.n)) (ar rfl) aU rfl rfl e0) rfl rfl (lN _ _)) rfl
 have cM:∀j,j<(bW b i).length→(gL (aG (bx gh 3 (aa (ag 4) (aa (ag 1) (aa (dh bV (aa (az bC (ag 0) (pC (.int 1))) am)) am)))))) [some (.fz (gD b)),some (.fz (nd i)),some (.fz (bZ (bW b i))),some (.fz (nd j)),some (.fz (mG ((bW b i).getD j .none)))]= .ok (mP b i j,[some (.fz (gD b)),some (.fz (nd i)),some (.fz (bZ (bW b i))),some (.fz (nd j)),some (.fz (mG ((bW b i).getD j .none)))]):=fun j hj=>by
  have mm:=vI (L:=(i:Int)) (nL:=(b.ls.length:Int)) (lm.2 _ (AC hj))
  unfold mP
  generalize (bW b i).getD j .none=m at mm
  generalize bZ (bW b i)=lg
  exact dY (aX (fZ (ds:=[mG m,nd i,.int (b.ls.length:Int)]) (ao (ar rfl) (ao (ar rfl) (ao (dA (rv:= .fz (.int (b.ls.length:Int))) (ao (a8 (rv:= .fz (.tuple (b.ls.map bZ))) (ar rfl) aU rfl rfl e1) aF) rfl l1) aF))) rfl rfl mm) rfl)
 have cell:∀j d,(eA 0 ((bW b i).map mG))[j]? =some d→j<(bW b i).length∧d= .tuple [nd j,mG ((bW b i).getD j .none)]:=fun j d hj=>by
  obtain⟨x,hx,rfl⟩:=v4 _ _ _ _ hj
  have hjl:j<(bW b i).length:=by
   obtain⟨z,_⟩:=List.getElem?_eq_some_iff.mp hx
   rw[List.length_map] at z
   exact z
  rw[v6 hjl] at hx
  cases hx
  rw[Nat.zero_add]
  exact⟨hjl,rfl⟩
 have en:L3.qh (aa (ag 2) am) [some (.fz (gD b)),some (.fz (nd i)),some (.fz (bZ (bW b i))),none,none]= .ok (eA 0 ((bW b i).map mG),[some (.fz (gD b)),some (.fz (nd i)),some (.fz (bZ (bW b i))),none,none]):=uC (d:=bZ (bW b i)) (ao (ar rfl) aF) rfl rfl
 unfold h8
 by_cases hl:((bW b i).length:Int)=b.n
 ·rw[if_pos hl]
  rw[decide_eq_true hl] at c1
  cases hf:mH b i with
  |some j=>
   have hf':=hf
   unfold mH at hf'
   rw[List.find?_range_eq_some] at hf'
   obtain⟨h1,h2,h3⟩:=hf'
   have hj:=List.mem_range.mp h2
   refine jm (ρ:=[some (.fz (gD b)),some (.fz (nd i)),none,none,none]) rfl ?_
   unfold fA
   refine(hW (j7 a0 rfl rfl)).trans ((hW ((Bf c1).trans rfl)).trans ((oJ en).trans ?_))
   refine rH (fun _ ρ=>∃t3 t4,ρ=[some (.fz (gD b)),some (.fz (nd i)),some (.fz (bZ (bW b i))),t3,t4]) j 0 _ _ (by rw[ic,List.length_map];exact hj) ⟨none,none,rfl⟩ ?_ ?_
   ·rintro x d ρ hx hd ⟨t3,t4,rfl⟩
    obtain⟨hxl,rfl⟩:=cell x d hd
    have cm:=cM x hxl
    have:mP b i x=false:=by have:=h3 x hx;exact Bool.eq_false_iff.mpr fun z=>by rw[z] at this;cases this
    rw[this] at cm
    exact⟨_,_,rfl,(Bf cm).trans rfl,_,_,rfl⟩
   ·rintro d ρ hd ⟨t3,t4,rfl⟩
    obtain⟨hxl,rfl⟩:=cell j d hd
    have cm:=cM j hxl
    rw[h1] at cm
    exact⟨_,rfl,(yt cm).trans (kZ (ao (ar rfl) (ao (ar rfl) aF)) rfl (oQ (by omega)) (oQ (by omega)))⟩
  |none=>
   have hf':=hf
   unfold mH at hf'
   rw[List.find?_eq_none] at hf'
   refine ey (ρ:=[some (.fz (gD b)),some (.fz (nd i)),none,none,none]) rfl ?_
   unfold fA
   refine cK (ρ3:=[some (.fz (gD b)),some (.fz (nd i)),some (.fz (bZ (bW b i))),none,none]) a0 rfl rfl (e8 c1 (fun z=>by cases z) fun _=>cG ?_)
   refine uQ (fun _ ρ=>∃t3 t4:Option PV,ρ=[some (.fz (gD b)),some (.fz (nd i)),some (.fz (bZ (bW b i))),t3,t4]) en ⟨none,none,rfl⟩ ?_ (fun _ _=>rfl)
   rintro x d ρ hd ⟨t3,t4,rfl⟩
   obtain⟨hxl,rfl⟩:=cell x d hd
   have cm:=cM x hxl
   rw[Bool.eq_false_iff.mpr (hf' x (List.mem_range.mpr hxl))] at cm
   exact⟨_,rfl,eO cm (fun z=>by cases z) fun _=>cN ⟨_,_,rfl⟩⟩
 ·rw[if_neg hl]
  rw[decide_eq_false hl] at c1
  refine jm (ρ:=[some (.fz (gD b)),some (.fz (nd i)),none,none,none]) rfl ?_
  unfold fA
  exact(hW (j7 a0 rfl rfl)).trans (mI ((yt c1).trans (kZ (ao (ar rfl) (ao aU aF)) rfl (oQ (by omega)) rfl)))
end
noncomputable def bL:Mg→Bool
 | .letter _=>true
 |_=>false
theorem tJ:∀m:Mg,fO (.str (oA m)) (.str "letter")=some (.fz (.bool (bL m)))
 | .letter _=>AZ (a:= "letter") (by decide+kernel)
 | .layer _=>ik (a:= "layer") (by decide+kernel) (by decide+kernel) (by decide+kernel)
 | .tap _ _=>ik (a:= "tap") (by decide+kernel) (by decide+kernel) (by decide+kernel)
 | .once _=>ik (a:= "once") (by decide+kernel) (by decide+kernel) (by decide+kernel)
 | .none=>ik (a:= "none") (by decide+kernel) (by decide+kernel) (by decide+kernel)
 | .below=>ik (a:= "below") (by decide+kernel) (by decide+kernel) (by decide+kernel)
theorem Bl {ks:List Int} (h:1≤ks.length) (h2:ks.length≤1000):j9 [kD ks]= .ok (.fz (.bool (md ks))):=by
 have esl:=AU h
 have cmp:jb (dW (gT 2 (nb (gN 0) (nb (gN 1) yY))) db (az me (ag 0) (ag 1)) (kz (ks.map .int) ((ks.drop 1).map .int)) [none,none] [])= .ok ((ks.zip (ks.drop 1)).map fun p=>PyData.bool (decide (p.1<p.2))):=by
  rw[uF]
  refine qK (fun ρ=>∃o p,ρ=[o,p]) _ (by rw[List.length_zip];omega) ⟨none,none,rfl⟩ ?_
  rintro p hp ρ ⟨o,q,rfl⟩
  exact⟨_,pK rfl rfl (bR (dx:= .int p.1) (dy:= .int p.2) (ar rfl) (ar rfl) rfl rfl (gI _ _)) rfl rfl,_,_,rfl⟩
 have al:=oh (fun p:Int×Int=>decide (p.1<p.2)) (ks.zip (ks.drop 1))
 refine ey (ρ:=[some (.fz (kD ks))]) rfl ?_
 unfold r9
 exact cb (rz (ao (d8 (xp (d:=kD ks) (e:=kD (ks.drop 1)) (ao (ar rfl) (ao (iV (rv:= .fz (kD (ks.drop 1))) (ar rfl) (dR aU rfl) eP rfl esl) aF)) rfl rfl rfl) rfl cmp) aF) rfl al) rfl rfl
section
variable {b:Gb} {k:Nat}
noncomputable def pE (b:Gb) (x:Int):Bool:=(decide (0≤x)&&decide (x<b.n))&&bL ((bW b 0).getD x.toNat .none)
noncomputable def sm (b:Gb) (ks:List Int):Bool:=if(decide ((ks.length:Int)<2)|| !md ks)=true then false else ks.all (pE b)
theorem tT (h1:1≤b.ls.length) (h0:((bW b 0).length:Int)=b.n) {ks:List Int} (hk:ks.length≤1000):dD [gD b,kD ks]= .ok (.fz (.bool (sm b ks))):=by
 have e0:=GY (b:=b)
 have e1:=GC (b:=b)
 have ix0:bC (.tuple (b.ls.map bZ)) (.int 0)=some (.fz (bZ (bW b 0))):=vY (i:=0) (wb (by omega))
 have ln:=F4 ks
 have cmp:jb (dW (gN 0) db (so (eh tQ me (pC (.int 0)) (ag 0) (az bC (ag 1) (pC (.int 0)))) (az fO (az bC (az bC (az bC (az bC (ag 1) (pC (.int 1))) (pC (.int 0))) (ag 0)) (pC (.int 0))) (pC (.str "letter")))) (ks.map .int) [none,some (.fz (gD b))] [])= .ok (ks.map fun x=>PyData.bool (pE b x)):=by
  refine rN ks (by omega) rfl fun x _=> ?_
  refine lO (a:=decide (0≤x)&&decide (x<b.n)) (b:=bL ((bW b 0).getD x.toNat .none)) (aX (gz (dy:= .int x) (dz:= .int b.n) aU (ar rfl) (a8 (rv:= .fz (.int b.n)) (ar rfl) aU rfl rfl e0) rfl rfl rfl (kK _ _) fun _=>gI _ _) rfl) fun q=> ?_
  rw[Bool.and_eq_true,decide_eq_true_iff,decide_eq_true_iff] at q
  have hx:x.toNat<(bW b 0).length:=by omega
  have ixm:bC (bZ (bW b 0)) (.int x)=some (.fz (mG ((bW b 0).getD x.toNat .none))):=Gh q.1 (v6 hx)
  have ew:=Bz ((bW b 0).getD x.toNat .none)
  have el:=tJ ((bW b 0).getD x.toNat .none)
  generalize (bW b 0).getD x.toNat .none=m at ixm ew el
  exact bR (dx:= .str (oA m)) (dy:= .str "letter") (a8 (rv:= .fz (.str (oA m))) (a8 (rv:= .fz (mG m)) (a8 (rv:= .fz (bZ (bW b 0))) (a8 (rv:= .fz (.tuple (b.ls.map bZ))) (ar rfl) aU rfl rfl e1) aU rfl rfl ix0) (ar rfl) rfl rfl ixm) aU rfl rfl ew) aU rfl rfl el
 have al:=oh (pE b) ks
 refine ey (ρ:=[some (.fz (gD b)),some (.fz (kD ks))]) rfl ?_
 unfold iD sm
 refine e8 (b:=decide ((ks.length:Int)<2)|| !md ks) (hG (aX (bR (dx:= .int (ks.length:Int)) (dy:= .int 2) (dA (rv:= .fz (.int (ks.length:Int))) (ao (ar rfl) aF) rfl ln) aU rfl rfl (gI _ _)) rfl) fun q=> ?_) (fun q=> ?_) fun q=>cG ?_
 ·have q:=of_decide_eq_false q
  have er:=Bl (ks:=ks) (by omega) hk
  exact dY (aX (fZ (ao (ar rfl) aF) rfl rfl er) rfl)
 ·rw[if_pos q]
  exact eW (pv:= .fz (.bool false)) aU rfl rfl
 ·rw[q,if_neg Bool.false_ne_true]
  exact cb (rz (ao (d8 (ka (d:=kD ks) (ar rfl) rfl rfl) rfl cmp) aF) rfl al) rfl rfl
noncomputable abbrev c0:List Int×List Nat:=([],[])
noncomputable def gM (b:Gb) (p:Nat):List Int×List Nat:=b.cs.getD p c0
theorem CK {p:Nat} (h:p<b.cs.length):(b.cs.map cT)[p]? =some (cT (gM b p)):=by
 unfold gM
 rw[List.getElem?_map,List.getElem?_eq_getElem h,List.getD_eq_getElem?_getD,List.getElem?_eq_getElem h]
 rfl
theorem y4 {p:Nat} (h:p<b.cs.length):gM b p∈b.cs:=by
 unfold gM
 rw[List.getD_eq_getElem?_getD,List.getElem?_eq_getElem h]
 exact List.getElem_mem h
theorem AH (p:Nat):kx (.tuple (b.cs.map cT)) none (some (p:Int))=some (.fz (.tuple ((b.cs.take p).map cT))):=by
 show some (RV.fz (.tuple (ie (b.cs.map cT) none (some (p:Int)))))=_
 unfold ie
 rw[HT.sIx_none,List.drop_zero,HT.sIx_nat,Nat.sub_zero,List.length_map,List.map_take]
 congr 3
 rw[List.take_eq_take_iff]
 rw[List.length_map]
 omega
theorem sB:∀L:List (List Int),PyData.canLayAll0 (L.map kD)=true
 |[]=>rfl
 |l::r=>by
  show(PyData.canLayAll0 (l.map PyData.int)&&PyData.canLayAll0 (r.map kD))=true
  rw[De,sB r];rfl
theorem sf (w:List Int):∀L:List (List Int),((L.map kD).any fun e=>PyData.eqv e (kD w))=decide (w∈L)
 |[]=>rfl
 |l::r=>by
  rw[List.map_cons,List.any_cons,sf w r,show PyData.eqv (kD l) (kD w)=_ from Cj l w]
  by_cases h:l=w
  ·subst h;simp
  ·have:¬w=l:=fun z=>h z.symm
   simp[h,this]
theorem Db (w:List Int):kL (kD w)=true:=by
 show(PyData.canLayAll0 (w.map PyData.int)&&decide (PyData.depthAll (w.map PyData.int)+1≤64))=true
 rw[De,BE];rfl
theorem Dx (w:List Int) (L:List (List Int)):ng (kD w) (.list (L.map kD))=some (.fz (.bool (decide (w∈L)))):=by
 show(if(kL (kD w)&&PyData.canLayAll0 (L.map kD))=true then some (RV.fz (.bool ((L.map kD).any fun e=>PyData.eqv e (kD w)))) else none)=_
 rw[Db,sB,sf];rfl
theorem Bi (w:List Int) (L:List (List Int)):ku (kD w) (.list (L.map kD))=some (.fz (.bool (!decide (w∈L)))):=by
 show(if(kL (kD w)&&PyData.canLayAll0 (L.map kD))=true then some (RV.fz (.bool (!(L.map kD).any fun e=>PyData.eqv e (kD w)))) else none)=_
 rw[Db,sB,sf];rfl
theorem uI (cs:List (List Int×List Nat)) (hl:cs.length≤1000):jb (dW (gN 0) db (az bC (ag 0) (pC (.int 0))) (cs.map cT) [none] [])= .ok ((cs.map (·.1)).map kD):=by
 rw[List.map_map]
 refine rN cs (by omega) rfl fun c _=> ?_
 exact a8 (rv:= .fz (kD c.1)) (ar rfl) aU rfl rfl uX
noncomputable def oz (b:Gb) (p:Nat):Bool:=decide ((gM b p).1∈(b.cs.take p).map (·.1))
noncomputable def BQ (b:Gb) (p:Nat):Bool:= !kA (gM b p).2|| !sm b (gM b p).1
theorem uY (hF:GF k b) (hk:k≤10) (h1:1≤b.ls.length) (h0:((bW b 0).length:Int)=b.n) {p:Nat} (hp:p<b.cs.length):ez [gD b,nd p]=if(BQ b p||oz b p)=true then .er (xC (nd p)) else .ok (.fz .none):=by
 have cl:=hF.cl
 have cm:=hF.cm _ (y4 hp)
 have e2:=G3 (b:=b)
 have ix:bC (.tuple (b.cs.map cT)) (nd p)=some (.fz (cT (gM b p))):=vY (CK hp)
 have ek:bC (cT (gM b p)) (.int 0)=some (.fz (kD (gM b p).1)):=uX
 have es:bC (cT (gM b p)) (.int 1)=some (.fz (ef (gM b p).2)):=Ca
 have il:=mO (s:=(gM b p).2) (by have:=cm.2.1;omega)
 have cs:=tT h1 h0 (ks:=(gM b p).1) (by have:=cm.1;omega)
 have hin:=Dx (gM b p).1 ((b.cs.take p).map (·.1))
 have cut:=AH (b:=b) p
 have cmp:=uI (b.cs.take p) (by rw[List.length_take];omega)
 have ho:oz b p=decide ((gM b p).1∈(b.cs.take p).map (·.1)):=rfl
 have hc:BQ b p=(!kA (gM b p).2|| !sm b (gM b p).1):=rfl
 rw[←ho] at hin
 obtain⟨ks,s,hks⟩:∃ks s,gM b p=(ks,s):=⟨_,_,rfl⟩
 rw[hks] at ix ek es il cs hin hc
 dsimp only at il cs hin hc
 generalize oz b p=ob at*
 have a0:∀{t:Option PV},(az bC (az bC (ag 0) (pC (.int 2))) (ag 1)) [some (.fz (gD b)),some (.fz (nd p)),t]= .ok (.fz (cT (ks,s)),[some (.fz (gD b)),some (.fz (nd p)),t]):=a8 (rv:= .fz (cT (ks,s))) (a8 (rv:= .fz (.tuple (b.cs.map cT))) (ar rfl) aU rfl rfl e2) (ar rfl) rfl rfl ix
 have a1:(az bC (az bC (az bC (ag 0) (pC (.int 2))) (ag 1)) (pC (.int 0))) [some (.fz (gD b)),some (.fz (nd p)),none]= .ok (.fz (kD ks),[some (.fz (gD b)),some (.fz (nd p)),none]):=a8 (rv:= .fz (kD ks)) a0 aU rfl rfl ek
 have c1:(nK (gL (aG (bx dq 1 (aa (az bC (az bC (az bC (ag 0) (pC (.int 2))) (ag 1)) (pC (.int 1))) am)))) (gL (aG (bx dD 2 (aa (ag 0) (aa (ag 2) am)))))) [some (.fz (gD b)),some (.fz (nd p)),some (.fz (kD ks))]= .ok (BQ b p,[some (.fz (gD b)),some (.fz (nd p)),some (.fz (kD ks))]):=by
  rw[hc]
  exact hG (dY (aX (fZ (ds:=[ef s]) (ao (a8 (rv:= .fz (ef s)) a0 aU rfl rfl es) aF) rfl rfl il) rfl)) fun _=>dY (aX (fZ (ds:=[gD b,kD ks]) (ao (ar rfl) (ao (ar rfl) aF)) rfl rfl cs) rfl)
 have c2:(aG (az ng (ag 2) (eF 1 [] (nw (kE kx (az bC (ag 0) (pC (.int 2))) eD (cH (ag 1)))) (gN 0) db (az bC (ag 0) (pC (.int 0)))))) [some (.fz (gD b)),some (.fz (nd p)),some (.fz (kD ks))]= .ok (ob,[some (.fz (gD b)),some (.fz (nd p)),some (.fz (kD ks))]):=
  aX (bR (dx:=kD ks) (dy:= .list (((b.cs.take p).map (·.1)).map kD)) (ar rfl) (d8 (ka (d:= .tuple ((b.cs.take p).map cT)) (iV (rv:= .fz (.tuple ((b.cs.take p).map cT))) (a8 (rv:= .fz (.tuple (b.cs.map cT))) (ar rfl) aU rfl rfl e2) eP (dR (ar rfl) rfl) rfl cut) rfl rfl) rfl cmp) rfl rfl hin) rfl
 have rn:∀{t:Option PV},L9.kh "NoChord" "place" (ag 1) [some (.fz (gD b)),some (.fz (nd p)),t]= .er (xC (nd p)):=xF (ar rfl) rfl (oQ (by omega))
 cases q1:BQ b p with
 |true=>
  rw[q1] at c1
  rw[Bool.true_or,if_pos rfl]
  refine jm (ρ:=[some (.fz (gD b)),some (.fz (nd p)),none]) rfl ?_
  unfold fx
  exact(hW (j7 a1 rfl rfl)).trans (mI ((yt c1).trans rn))
 |false=>
  rw[q1] at c1
  rw[Bool.false_or]
  cases ob with
  |true=>
   rw[if_pos rfl]
   refine jm (ρ:=[some (.fz (gD b)),some (.fz (nd p)),none]) rfl ?_
   unfold fx
   exact(hW (j7 a1 rfl rfl)).trans ((hW ((Bf c1).trans rfl)).trans ((yt c2).trans rn))
  |false=>
   rw[if_neg Bool.false_ne_true]
   refine ey (ρ:=[some (.fz (gD b)),some (.fz (nd p)),none]) rfl ?_
   unfold fx
   exact cK (ρ3:=[some (.fz (gD b)),some (.fz (nd p)),some (.fz (kD ks))]) a1 rfl rfl (e8 c1 (fun z=>by cases z) fun _=>cG (eO c2 (fun z=>by cases z) fun _=>cN rfl))
noncomputable def mz (b:Gb):Bool:=qU b||rb b
noncomputable def o0 (b:Gb):Option Nat:=(List.range b.ls.length).find? fun i=>(h8 b i).isSome
noncomputable def uM (b:Gb) (p:Nat):Bool:=BQ b p||oz b p
noncomputable def pO (b:Gb):Option Nat:=(List.range b.cs.length).find? fun p=>uM b p
noncomputable def jF (b:Gb):D:=if mz b=true then .tuple [.int 0,.none,.none] else match o0 b with
 |some i=> .tuple [.int 0,nd i,(h8 b i).getD .none]
 |none=>match pO b with
  |some p=> .tuple [.int 1,nd p,.none]
  |none=> .none
theorem zj (h:mz b=false):1≤b.ls.length∧b.ls.length≤3∧1≤b.n∧b.n≤5∧b.cs.length≤4:=by
 unfold mz qU rb wq at h
 simp only[Bool.or_eq_false_iff,Bool.not_eq_false',Bool.and_eq_true,decide_eq_true_iff,decide_eq_false_iff_not] at h
 omega
theorem Cw {i:Nat} (h:h8 b i=none):((bW b i).length:Int)=b.n∧mH b i=none:=by
 unfold h8 at h
 split at h
 ·rename_i hl
  exact⟨hl,Option.map_eq_none_iff.mp h⟩
 ·cases h
theorem p9 (h:o0 b=none) {i:Nat} (hi:i<b.ls.length):h8 b i=none:=by
 unfold o0 at h
 rw[List.find?_eq_none] at h
 have:=h i (List.mem_range.mpr hi)
 exact Option.not_isSome_iff_eq_none.mp this
theorem pJ (hF:GF k b) (hk:k≤10) (he:mY (gD b) (gD b)=some (.fz (.bool false))):bM [gD b]= .ok (.fz (jF b)):=by
 have ll:=hF.ll
 have cl:=hF.cl
 have e1:=GC (b:=b)
 have e2:=G3 (b:=b)
 have l1:=rS (b:=b)
 have l2:=u9 (b:=b)
 have nu:=y6 (b:=b)
 have r1:=nQ (n:=b.ls.length) (by omega)
 have r2:=nQ (n:=b.cs.length) (by omega)
 have i1:∀{t1 t2:Option PV},ia fK (aa (dh bV (aa (az bC (ag 0) (pC (.int 1))) am)) am) [some (.fz (gD b)),t1,t2]= .ok (eS (List.range b.ls.length),[some (.fz (gD b)),t1,t2]):=jn (ds:=[nd b.ls.length]) (ao (dA (rv:= .fz (nd b.ls.length)) (ao (a8 (rv:= .fz (.tuple (b.ls.map bZ))) (ar rfl) aU rfl rfl e1) aF) rfl l1) aF) rfl r1
 have i2:∀{t1 t2:Option PV},ia fK (aa (dh bV (aa (az bC (ag 0) (pC (.int 2))) am)) am) [some (.fz (gD b)),t1,t2]= .ok (eS (List.range b.cs.length),[some (.fz (gD b)),t1,t2]):=jn (ds:=[nd b.cs.length]) (ao (dA (rv:= .fz (nd b.cs.length)) (ao (a8 (rv:= .fz (.tuple (b.cs.map cT))) (ar rfl) aU rfl rfl e2) aF) rfl l2) aF) rfl r2
 have at_:∀(n j:Nat) (d:D),(eS (List.range n))[j]? =some d→j<n∧d=nd j:=fun n j d hd=>by
  obtain⟨x,hx,rfl⟩:=gU hd
  obtain⟨hl,e⟩:=List.getElem?_eq_some_iff.mp hx
  rw[List.getElem_range] at e
  rw[List.length_range] at hl
  exact⟨hl,by rw[e]⟩
 unfold bM
 dsimp only
 cases q:mz b with
 |true=>
  rw[show(qU b||rb b)=true from q,if_pos rfl] at nu
  have:dg [gD b]= .er (xB .none .none):=by
   refine jm (ρ:=[some (.fz (gD b)),none,none]) rfl ?_
   unfold gG
   exact mI (sH (sD (ds:=[gD b]) (ao (ar rfl) aF) rfl rfl nu))
  rw[this]
  dsimp only
  rw[if_pos rfl,if_pos ⟨rfl,rfl,rfl,rfl⟩]
  unfold jF
  rw[q,if_pos rfl]
 |false=>
  rw[show(qU b||rb b)=false from q,if_neg Bool.false_ne_true] at nu
  obtain⟨n1,n2,n3,n4,n5⟩:=zj q
  have s0:gi (kH cX 1 (aa (ag 0) am)) [some (.fz (gD b)),none,none]= .ok (.nx [some (.fz (gD b)),none,none]):=jf (js (ds:=[gD b]) (ao (ar rfl) aF) rfl rfl nu)
  have due:jF b=(match o0 b with|some i=> .tuple [.int 0,nd i,(h8 b i).getD .none]|none=>match pO b with|some p=> .tuple [.int 1,nd p,.none]|none=> .none):=by unfold jF;rw[q,if_neg Bool.false_ne_true]
  cases fl:o0 b with
  |some i=>
   rw[fl] at due
   dsimp only at due
   have fl':=fl
   unfold o0 at fl'
   rw[List.find?_range_eq_some] at fl'
   obtain⟨h1,h2,h3⟩:=fl'
   have hi:=List.mem_range.mp h2
   obtain⟨d,hd⟩:=Option.isSome_iff_exists.mp h1
   have lr:=uZ hF hk hi
   rw[hd] at lr due
   dsimp only at lr
   have hfd:L9.pP d=true:=by
    unfold h8 at hd
    split at hd
    ·cases fm:mH b i with
     |none=>rw[fm] at hd;cases hd
     |some j=>
      rw[fm] at hd
      cases hd
      unfold mH at fm
      rw[List.find?_range_eq_some] at fm
      have:=List.mem_range.mp fm.2.1
      have:=(hF.lm _ (ve hi)).1
      exact oQ (by omega)
    ·cases hd;rfl
   have:dg [gD b]= .er (xB (nd i) d):=by
    refine jm (ρ:=[some (.fz (gD b)),none,none]) rfl ?_
    unfold gG
    refine(hW s0).trans (mI ((oJ i1).trans ?_))
    refine rH (fun _ ρ=>∃t1 t2,ρ=[some (.fz (gD b)),t1,t2]) i 0 _ _ (by rw[dZ,List.length_range];exact hi) ⟨none,none,rfl⟩ ?_ ?_
    ·rintro j d' ρ hj hd' ⟨t1,t2,rfl⟩
     obtain⟨hjl,rfl⟩:=at_ _ _ _ hd'
     have lj:=uZ hF hk hjl
     have:h8 b j=none:=by
      have:=h3 j hj
      cases z:h8 b j with
      |none=>rfl
      |some y=>rw[z] at this;cases this
     rw[this] at lj
     dsimp only at lj
     exact⟨_,_,rfl,jf (js (ds:=[gD b,nd j]) (ao (ar rfl) (ao (ar rfl) aF)) rfl rfl lj),_,_,rfl⟩
    ·rintro d' ρ hd' ⟨t1,t2,rfl⟩
     obtain⟨hjl,rfl⟩:=at_ _ _ _ hd'
     exact⟨_,rfl,sH (sD (ds:=[gD b,nd i]) (ao (ar rfl) (ao (ar rfl) aF)) rfl rfl lr)⟩
   rw[this]
   dsimp only
   rw[if_pos rfl,if_pos ⟨rfl,rfl,hfd,oQ (by omega)⟩,due]
   rfl
  |none=>
   rw[fl] at due
   dsimp only at due
   have h0:=(Cw (p9 fl (i:=0) (by omega))).1
   have lays:∀j,j<b.ls.length→c7 [gD b,nd j]= .ok (.fz .none):=fun j hj=>by
    have lj:=uZ hF hk hj
    rw[p9 fl hj] at lj
    exact lj
   cases fc:pO b with
   |some p=>
    rw[fc] at due
    dsimp only at due
    have fc':=fc
    unfold pO at fc'
    rw[List.find?_range_eq_some] at fc'
    obtain⟨h1,h2,h3⟩:=fc'
    have hp:=List.mem_range.mp h2
    have cr:=uY hF hk n1 h0 hp
    rw[if_pos (show(BQ b p||oz b p)=true from h1)] at cr
    have:dg [gD b]= .er (xC (nd p)):=by
     refine jm (ρ:=[some (.fz (gD b)),none,none]) rfl ?_
     unfold gG
     obtain⟨ρ',g1,t1,g2⟩:=Eu (gt:=gN 1) (b:=gi (kH c7 2 (aa (ag 0) (aa (ag 1) am)))) (ds:=eS (List.range b.ls.length)) (ρ:=[some (.fz (gD b)),none,none]) (fun _ ρ=>∃t1,ρ=[some (.fz (gD b)),t1,none]) ⟨none,rfl⟩ (by
      rintro j d' ρ hd' ⟨t1,rfl⟩
      obtain⟨hjl,rfl⟩:=at_ _ _ _ hd'
      exact⟨_,_,rfl,.inl (jf (js (ds:=[gD b,nd j]) (ao (ar rfl) (ao (ar rfl) aF)) rfl rfl (lays j hjl))),_,rfl⟩)
     subst g2
     refine(hW s0).trans ((hW ((oJ i1).trans g1)).trans (mI ((oJ i2).trans ?_)))
     refine rH (fun _ ρ=>∃t2,ρ=[some (.fz (gD b)),t1,t2]) p 0 _ _ (by rw[dZ,List.length_range];exact hp) ⟨none,rfl⟩ ?_ ?_
     ·rintro j d' ρ hj hd' ⟨t2,rfl⟩
      obtain⟨hjl,rfl⟩:=at_ _ _ _ hd'
      have lj:=uY hF hk n1 h0 hjl
      have:(BQ b j||oz b j)=false:=by
       have:=h3 j hj
       exact Bool.eq_false_iff.mpr fun z=>by rw[show uM b j=true from z] at this;cases this
      rw[this,if_neg Bool.false_ne_true] at lj
      exact⟨_,_,rfl,jf (js (ds:=[gD b,nd j]) (ao (ar rfl) (ao (ar rfl) aF)) rfl rfl lj),_,rfl⟩
     ·rintro d' ρ hd' ⟨t2,rfl⟩
      obtain⟨hjl,rfl⟩:=at_ _ _ _ hd'
      exact⟨_,rfl,sH (sD (ds:=[gD b,nd p]) (ao (ar rfl) (ao (ar rfl) aF)) rfl rfl cr)⟩
    rw[this]
    dsimp only
    rw[if_neg (by decide),if_pos rfl,if_pos ⟨rfl,oQ (by omega)⟩,due]
   |none=>
    rw[fc] at due
    dsimp only at due
    have fc':=fc
    unfold pO at fc'
    rw[List.find?_eq_none] at fc'
    have:dg [gD b]= .ok (.fz (gD b)):=by
     refine ey (ρ:=[some (.fz (gD b)),none,none]) rfl ?_
     unfold gG
     refine rh (ρ1:=[some (.fz (gD b)),none,none]) (js (ds:=[gD b]) (ao (ar rfl) aF) rfl rfl nu) ?_
     refine iC (fun _ ρ=>∃t1,ρ=[some (.fz (gD b)),t1,none]) i1 ⟨none,rfl⟩ ?_ ?_
     ·rintro j d' ρ hd' ⟨t1,rfl⟩
      obtain⟨hjl,rfl⟩:=at_ _ _ _ hd'
      exact⟨_,rfl,kq (js (ds:=[gD b,nd j]) (ao (ar rfl) (ao (ar rfl) aF)) rfl rfl (lays j hjl)) ⟨_,rfl⟩⟩
     ·rintro ρ ⟨t1,rfl⟩
      refine iC (fun _ ρ=>∃t2,ρ=[some (.fz (gD b)),t1,t2]) i2 ⟨none,rfl⟩ ?_ ?_
      ·rintro j d' ρ hd' ⟨t2,rfl⟩
       obtain⟨hjl,rfl⟩:=at_ _ _ _ hd'
       have lj:=uY hF hk n1 h0 hjl
       rw[if_neg (show¬(BQ b j||oz b j)=true from fc' j (List.mem_range.mpr hjl))] at lj
       exact⟨_,rfl,kq (js (ds:=[gD b,nd j]) (ao (ar rfl) (ao (ar rfl) aF)) rfl rfl lj) ⟨_,rfl⟩⟩
      ·rintro ρ ⟨t2,rfl⟩
       exact cb (ar rfl) rfl rfl
    rw[this]
    show(match mY (gD b) (gD b) with
     |some (.fz (.bool false))=>Res.ok (RV.fz .none)
     |_=> .bad)=_
    rw[he,due]
end
theorem qC (x:Int):∀L:List Int,((L.map PyData.int).any fun e=>PyData.eqv e (.int x))=decide (x∈L)
 |[]=>rfl
 |l::r=>by
  rw[List.map_cons,List.any_cons,qC x r,show PyData.eqv (.int l) (.int x)=decide (l=x) from rfl]
  by_cases h:l=x
  ·subst h;simp
  ·have:¬x=l:=fun z=>h z.symm
   simp[h,this]
theorem oi (x:Int) (L:List Int):ku (.int x) (.list (L.map .int))=some (.fz (.bool (!decide (x∈L)))):=by
 show(if(kL (.int x)&&PyData.canLayAll0 (L.map PyData.int))=true then some (RV.fz (.bool (!(L.map PyData.int).any fun e=>PyData.eqv e (.int x)))) else none)=_
 rw[show kL (.int x)=true from rfl,De,qC];rfl
theorem zW (x:Int) (L:List Int):ng (.int x) (.list (L.map .int))=some (.fz (.bool (decide (x∈L)))):=by
 show(if(kL (.int x)&&PyData.canLayAll0 (L.map PyData.int))=true then some (RV.fz (.bool ((L.map PyData.int).any fun e=>PyData.eqv e (.int x)))) else none)=_
 rw[show kL (.int x)=true from rfl,De,qC];rfl
theorem Hd (x:Int):ku (.int x) (.list [.int 1,.int 2,.int 3,.int 4,.int 5])=some (.fz (.bool (!wq 1 5 x))):=by
 rw[show([.int 1,.int 2,.int 3,.int 4,.int 5]:List D)=[1,2,3,4,5].map .int from rfl,oi]
 congr 4
 unfold wq
 rw[←Bool.decide_and]
 apply decide_eq_decide.mpr
 simp
 omega
theorem Hw (x:Int):ku (.int x) (.list [.int 1,.int 2,.int 3,.int 4])=some (.fz (.bool (!wq 1 4 x))):=by
 rw[show([.int 1,.int 2,.int 3,.int 4]:List D)=[1,2,3,4].map .int from rfl,oi]
 congr 4
 unfold wq
 rw[←Bool.decide_and]
 apply decide_eq_decide.mpr
 simp
 omega
theorem GW (x:Int):ku (.int x) (.list [.int 1,.int 2,.int 3])=some (.fz (.bool (!wq 1 3 x))):=by
 rw[show([.int 1,.int 2,.int 3]:List D)=[1,2,3].map .int from rfl,oi]
 congr 4
 unfold wq
 rw[←Bool.decide_and]
 apply decide_eq_decide.mpr
 simp
 omega
section
variable {b:Gb} {k:Nat}
noncomputable def eK (b:Gb):List Int:=((List.range b.n.toNat).filter fun j=>bL ((bW b 0).getD j .none)).map fun j:Nat=>(j:Int)
theorem Ce (h1:1≤b.ls.length) (h0:((bW b 0).length:Int)=b.n) (h5:b.n≤5):jb (dW (gN 0) (aG (az fO (az bC (az bC (az bC (ag 1) (pC (.int 0))) (ag 0)) (pC (.int 0))) (pC (.str "letter")))) (ag 0) (eS (List.range b.n.toNat)) [none,some (.fz (.tuple (b.ls.map bZ)))] [])= .ok ((eK b).map .int):=by
 have ix0:bC (.tuple (b.ls.map bZ)) (.int 0)=some (.fz (bZ (bW b 0))):=vY (i:=0) (wb (by omega))
 have:=mt (ft:=aG (az fO (az bC (az bC (az bC (ag 1) (pC (.int 0))) (ag 0)) (pC (.int 0))) (pC (.str "letter")))) (cs:=[some (.fz (.tuple (b.ls.map bZ)))]) (fun j=>bL ((bW b 0).getD j .none)) (List.range b.n.toNat) (by rw[List.length_range];omega) rfl (by
  intro j hj
  have hj:=List.mem_range.mp hj
  have ixm:bC (bZ (bW b 0)) (nd j)=some (.fz (mG ((bW b 0).getD j .none))):=vY (v6 (by omega))
  have ew:=Bz ((bW b 0).getD j .none)
  have el:=tJ ((bW b 0).getD j .none)
  generalize (bW b 0).getD j .none=m at ixm ew el
  exact aX (bR (dx:= .str (oA m)) (dy:= .str "letter") (a8 (rv:= .fz (.str (oA m))) (a8 (rv:= .fz (mG m)) (a8 (rv:= .fz (bZ (bW b 0))) (ar rfl) aU rfl rfl ix0) (ar rfl) rfl rfl ixm) aU rfl rfl ew) aU rfl rfl el) rfl)
 rw[this]
 unfold eK eS
 rw[List.map_map]
 rfl
theorem xX (h0:((bW b 0).length:Int)=b.n) (x:Int):decide (x∈eK b)=pE b x:=by
 unfold pE eK
 rw[←Bool.decide_and]
 by_cases h:0≤x∧x<b.n
 ·rw[decide_eq_true h,Bool.true_and]
  cases q:bL ((bW b 0).getD x.toNat .none) with
  |true=>exact decide_eq_true (List.mem_map.mpr ⟨x.toNat,List.mem_filter.mpr ⟨List.mem_range.mpr (by omega),q⟩,by omega⟩)
  |false=>
   refine decide_eq_false fun z=> ?_
   obtain⟨j,hj,e⟩:=List.mem_map.mp z
   have h2:=(List.mem_filter.mp hj).2
   have e:j=x.toNat:=by omega
   subst e
   rw[q] at h2
   cases h2
 ·rw[decide_eq_false h,Bool.false_and]
  refine decide_eq_false fun z=>h ?_
  obtain⟨j,hj,e⟩:=List.mem_map.mp z
  have:=List.mem_range.mp (List.mem_filter.mp hj).1
  omega
theorem DN (hF:GF k b) (hk:k≤10) (h0:((bW b 0).length:Int)=b.n) {p:Nat} (hp:p<b.cs.length) {d2:D}:df [.tuple (b.cs.map cT),nd p,d2,.list ((eK b).map .int)]= .ok (.fz (.bool (!uM b p))):=by
 have cl:=hF.cl
 have cm:=hF.cm _ (y4 hp)
 have ix:bC (.tuple (b.cs.map cT)) (nd p)=some (.fz (cT (gM b p))):=vY (CK hp)
 have il:=lE (s:=(gM b p).2) (by have:=cm.2.1;omega)
 have hnin:=Bi (gM b p).1 ((b.cs.take p).map (·.1))
 have cut:=AH (b:=b) p
 have cmp:=uI (b.cs.take p) (by rw[List.length_take];omega)
 have ho:oz b p=decide ((gM b p).1∈(b.cs.take p).map (·.1)):=rfl
 have hc:uM b p=((!kA (gM b p).2|| !sm b (gM b p).1)||oz b p):=rfl
 rw[←ho] at hnin
 have kl:=cm.1
 obtain⟨ks,s,hks⟩:∃ks s,gM b p=(ks,s):=⟨_,_,rfl⟩
 rw[hks] at ix il hnin hc kl
 dsimp only at il hnin hc kl
 generalize oz b p=ob at*
 have ln:=F4 ks
 have srt:L9.jv [kD ks]=some (.ow ((gx ks).map .int)):=by
  show(match mL (ks.map PyData.int) with
   |some ns=>if ns.length<64 then some (RV.ow ((gx ns).map .int)) else none
   |none=>none)=_
  rw[lq]
  dsimp only
  rw[if_pos (by omega)]
 have lst:yE [kD ks]=some (.ow (ks.map .int)):=rfl
 have nel:=A1 ks (gx ks)
 have dd:L9.lQ [kD ks]=some (.fz (.int (L9.wI ks:Int))):=by
  show(match mL (ks.map PyData.int) with
   |some ns=>if ns.length≤1000 then some (RV.fz (.int (L9.wI ns))) else none
   |none=>none)=_
  rw[lq]
  dsimp only
  rw[if_pos (by omega)]
 have cma:jb (dW (gN 0) db (az ng (ag 0) (ag 1)) (ks.map .int) [none,some (.fz (.list ((eK b).map .int)))] [])= .ok (ks.map fun x=>PyData.bool (pE b x)):=by
  refine rN ks (by omega) rfl fun x _=> ?_
  have hi:=zW x (eK b)
  rw[xX h0] at hi
  exact bR (dx:= .int x) (dy:= .list ((eK b).map .int)) (ar rfl) (ar rfl) rfl rfl hi
 have al:=oh (pE b) ks
 have rise:(decide ((ks.length:Int)<2)|| !md ks)=(decide ((ks.length:Int)<2)||(!decide (ks=gx ks)||decide ((L9.wI ks:Int)<(ks.length:Int)))):=by
  cases q:decide ((ks.length:Int)<2) with
  |true=>rfl
  |false=>
   rw[Bool.false_or,Bool.false_or]
   have dl:=Em ks
   cases r:md ks with
   |true=>
    have hp:=(ly ks).mp r
    have hs:ks.Pairwise (·≤·):=hp.imp fun h=>Int.le_of_lt h
    have hd:ks.Nodup:=hp.imp fun h=>Int.ne_of_lt h
    rw[decide_eq_true (mF (im ks).symm hs (gy ks)),decide_eq_false (by rw[(we ks).mpr hd];omega)]
    rfl
   |false=>
    symm
    cases z:decide (ks=gx ks) with
    |false=>rfl
    |true=>
     have z:=of_decide_eq_true z
     have hs:ks.Pairwise (·≤·):=z▸gy ks
     refine decide_eq_true ?_
     by_cases y:L9.wI ks=ks.length
     ·have:=(ly ks).mpr (Gk hs ((we ks).mp y))
      rw[this] at r;cases r
     ·omega
 refine ey (ρ:=[some (.fz (.tuple (b.cs.map cT))),some (.fz (nd p)),some (.fz d2),some (.fz (.list ((eK b).map .int))),none,none]) rfl ?_
 unfold gq
 refine cK (pv:= .fz (cT (ks,s))) (ρ3:=[some (.fz (.tuple (b.cs.map cT))),some (.fz (nd p)),some (.fz d2),some (.fz (.list ((eK b).map .int))),some (.fz (kD ks)),some (.fz (ef s))]) (a8 (rv:= .fz (cT (ks,s))) (ar rfl) (ar rfl) rfl rfl ix) rfl rfl ?_
 have lv:(dh bV (aa (ag 4) am)) [some (.fz (.tuple (b.cs.map cT))),some (.fz (nd p)),some (.fz d2),some (.fz (.list ((eK b).map .int))),some (.fz (kD ks)),some (.fz (ef s))]= .ok (.fz (.int (ks.length:Int)),[some (.fz (.tuple (b.cs.map cT))),some (.fz (nd p)),some (.fz d2),some (.fz (.list ((eK b).map .int))),some (.fz (kD ks)),some (.fz (ef s))]):=dA (rv:= .fz (.int (ks.length:Int))) (ao (ar rfl) aF) rfl ln
 refine e8 (b:= !kA s||(decide ((ks.length:Int)<2)||(!decide (ks=gx ks)||decide ((L9.wI ks:Int)<(ks.length:Int))))) (hG (dY (aX (fZ (ds:=[ef s]) (ao (ar rfl) aF) rfl rfl il) rfl)) fun _=>hG (aX (bR lv aU rfl rfl (gI _ _)) rfl) fun _=>hG (aX (bR (dx:= .list (ks.map .int)) (dy:= .list ((gx ks).map .int)) (dA (rv:= .ow (ks.map .int)) (ao (ar rfl) aF) rfl lst) (dA (rv:= .ow ((gx ks).map .int)) (ao (ar rfl) aF) rfl srt) rfl rfl nel) rfl) fun _=>aX (bR (dx:= .int (L9.wI ks:Int)) (dy:= .int (ks.length:Int)) (L9.yl (rv:= .fz (.int (L9.wI ks:Int))) (ao (ar rfl) aF) rfl dd) lv rfl rfl (gI _ _)) rfl) (fun q=> ?_) fun q=>cG ?_
 ·refine eW (pv:= .fz (.bool false)) (rv:= .fz (.bool false)) aU rfl ?_
  rw[←rise] at q
  rw[hc]
  unfold sm
  cases z:kA s with
  |false=>rfl
  |true=>
   rw[z] at q
   have q:(decide ((ks.length:Int)<2)|| !md ks)=true:=q
   rw[if_pos q];rfl
 ·rw[←rise] at q
  have hl:kA s=true:=by
   cases z:kA s with
   |true=>rfl
   |false=>rw[z] at q;cases q
  rw[hl] at q
  have q:(decide ((ks.length:Int)<2)|| !md ks)=false:=q
  have hc2:uM b p=(!ks.all (pE b)||ob):=by
   rw[hc,hl]
   unfold sm
   rw[q,if_neg Bool.false_ne_true]
   rfl
  refine e8 (b:= !ks.all (pE b)) (dY (aX (rz (ao (d8 (ka (d:=kD ks) (ar rfl) rfl rfl) rfl cma) aF) rfl al) rfl)) (fun q2=> ?_) fun q2=>cG ?_
  ·refine eW (pv:= .fz (.bool false)) (rv:= .fz (.bool false)) aU rfl ?_
   rw[hc2,q2];rfl
  ·rw[q2] at hc2
   have hc2:uM b p=ob:=hc2
   rw[hc2]
   exact cb (pv:= .fz (.bool (!ob))) (bR (dx:=kD ks) (dy:= .list (((b.cs.take p).map (·.1)).map kD)) (ar rfl) (d8 (ka (d:= .tuple ((b.cs.take p).map cT)) (iV (rv:= .fz (.tuple ((b.cs.take p).map cT))) (ar rfl) eP (dR (ar rfl) rfl) rfl cut) rfl rfl) rfl cmp) rfl rfl hnin) rfl rfl
end
section
variable {b:Gb} {k:Nat}
theorem wo (q:mz b=false) {i:Nat} (hi:i<b.ls.length) (hb:∀j,j<i→h8 b j=none) {d:D} (hd:h8 b i=some d):jF b= .tuple [.int 0,nd i,d]:=by
 have fl:o0 b=some i:=by
  unfold o0
  rw[List.find?_range_eq_some]
  exact⟨by rw[hd];rfl,List.mem_range.mpr hi,fun j hj=>by rw[hb j hj];rfl⟩
 unfold jF
 rw[q,if_neg Bool.false_ne_true,fl]
 dsimp only
 rw[hd];rfl
theorem v3 (hb:∀j,j<b.ls.length→h8 b j=none):o0 b=none:=by
 unfold o0
 rw[List.find?_eq_none]
 intro j hj
 rw[hb j (List.mem_range.mp hj)]
 exact Bool.false_ne_true
theorem Ds (q:mz b=false) (hl:∀j,j<b.ls.length→h8 b j=none) {p:Nat} (hp:p<b.cs.length) (hb:∀j,j<p→uM b j=false) (hd:uM b p=true):jF b= .tuple [.int 1,nd p,.none]:=by
 have fc:pO b=some p:=by
  unfold pO
  rw[List.find?_range_eq_some]
  exact⟨hd,List.mem_range.mpr hp,fun j hj=>by rw[hb j hj];rfl⟩
 unfold jF
 rw[q,if_neg Bool.false_ne_true,v3 hl,fc]
theorem y8 (q:mz b=false) (hl:∀j,j<b.ls.length→h8 b j=none) (hb:∀j,j<b.cs.length→uM b j=false):jF b= .none:=by
 have fc:pO b=none:=by
  unfold pO
  rw[List.find?_eq_none]
  intro j hj
  rw[hb j (List.mem_range.mp hj)]
  exact Bool.false_ne_true
 unfold jF
 rw[q,if_neg Bool.false_ne_true,v3 hl,fc]
theorem uU {n j:Nat} {d:D} (hd:(eS (List.range n))[j]? =some d):j<n∧d=nd j:=by
 obtain⟨x,hx,rfl⟩:=gU hd
 obtain⟨hl,e⟩:=List.getElem?_eq_some_iff.mp hx
 rw[List.getElem_range] at e
 rw[List.length_range] at hl
 exact⟨hl,by rw[e]⟩
theorem yc (hF:GF k b) (hk:k≤10):f8 [gD b]= .ok (.fz (jF b)):=by
 have ll:=hF.ll
 have cl:=hF.cl
 have l1:=rS (b:=b)
 have l2:=u9 (b:=b)
 have r1:=nQ (n:=b.ls.length) (by omega)
 have r2:=nQ (n:=b.cs.length) (by omega)
 refine ey (ρ:=[some (.fz (gD b)),none,none,none,none,none,none,none,none]) rfl ?_
 unfold kY
 refine cK (pv:= .fz (gD b)) (ρ3:=[some (.fz (gD b)),some (.fz (.int b.n)),some (.fz (.tuple (b.ls.map bZ))),some (.fz (.tuple (b.cs.map cT))),some (.fz (.int b.wt)),none,none,none,none]) (ar rfl) rfl rfl ?_
 have lnv:∀{t5 t6 t7 t8:Option PV},(dh bV (aa (ag 2) am)) [some (.fz (gD b)),some (.fz (.int b.n)),some (.fz (.tuple (b.ls.map bZ))),some (.fz (.tuple (b.cs.map cT))),some (.fz (.int b.wt)),t5,t6,t7,t8]= .ok (.fz (.int (b.ls.length:Int)),[some (.fz (gD b)),some (.fz (.int b.n)),some (.fz (.tuple (b.ls.map bZ))),some (.fz (.tuple (b.cs.map cT))),some (.fz (.int b.wt)),t5,t6,t7,t8]):=dA (rv:= .fz (.int (b.ls.length:Int))) (ao (ar rfl) aF) rfl l1
 have cnv:∀{t5 t6 t7 t8:Option PV},(dh bV (aa (ag 3) am)) [some (.fz (gD b)),some (.fz (.int b.n)),some (.fz (.tuple (b.ls.map bZ))),some (.fz (.tuple (b.cs.map cT))),some (.fz (.int b.wt)),t5,t6,t7,t8]= .ok (.fz (.int (b.cs.length:Int)),[some (.fz (gD b)),some (.fz (.int b.n)),some (.fz (.tuple (b.ls.map bZ))),some (.fz (.tuple (b.cs.map cT))),some (.fz (.int b.wt)),t5,t6,t7,t8]):=dA (rv:= .fz (.int (b.cs.length:Int))) (ao (ar rfl) aF) rfl l2
 have hnum:mz b=(!wq 1 5 b.n||(!wq 1 3 (b.ls.length:Int)||(decide ((b.cs.length:Int)>4)|| !wq 1 4 b.wt))):=by
  unfold mz qU rb
  rw[Bool.or_assoc]
 refine e8 (b:=mz b) (by
  rw[hnum]
  exact hG (aX (bR (dx:= .int b.n) (dy:= .list [.int 1,.int 2,.int 3,.int 4,.int 5]) (ar rfl) (fE (ds:=[.int 1,.int 2,.int 3,.int 4,.int 5]) (by walk_at "ev") rfl (Nat.le_of_ble_eq_true rfl)) rfl rfl (Hd _)) rfl) fun _=>hG (aX (bR (dx:= .int (b.ls.length:Int)) (dy:= .list [.int 1,.int 2,.int 3]) lnv (fE (ds:=[.int 1,.int 2,.int 3]) (by walk_at "ev") rfl (Nat.le_of_ble_eq_true rfl)) rfl rfl (GW _)) rfl) fun _=>hG (aX (bR cnv aU rfl rfl (kG _ _)) rfl) fun _=>aX (bR (dx:= .int b.wt) (dy:= .list [.int 1,.int 2,.int 3,.int 4]) (ar rfl) (fE (ds:=[.int 1,.int 2,.int 3,.int 4]) (by walk_at "ev") rfl (Nat.le_of_ble_eq_true rfl)) rfl rfl (Hw _)) rfl) (fun q=> ?_) fun q=>cG ?_
 ·refine eW (pv:= .fz (.tuple [.int 0,.none,.none])) (rv:= .fz (.tuple [.int 0,.none,.none])) (da (ds:=[.int 0,.none,.none]) (ao aU (ao aU (ao aU aF))) rfl (Nat.le_of_ble_eq_true rfl)) rfl ?_
  unfold jF
  rw[q,if_pos rfl]
 obtain⟨n1,n2,n3,n4,n5⟩:=zj q
 have rn:fK [.int b.n]=some (eS (List.range b.n.toNat)):=jA (by omega) (by omega)
 refine iC (fun i ρ=>(∃t5 t6,ρ=[some (.fz (gD b)),some (.fz (.int b.n)),some (.fz (.tuple (b.ls.map bZ))),some (.fz (.tuple (b.cs.map cT))),some (.fz (.int b.wt)),t5,t6,none,none])∧∀j,j<i→h8 b j=none) (ds:=eS (List.range b.ls.length)) (ρ1:=[some (.fz (gD b)),some (.fz (.int b.n)),some (.fz (.tuple (b.ls.map bZ))),some (.fz (.tuple (b.cs.map cT))),some (.fz (.int b.wt)),none,none,none,none]) (jn (ds:=[nd b.ls.length]) (ao lnv aF) rfl r1) ⟨⟨none,none,rfl⟩,fun j h=>absurd h (Nat.not_lt_zero _)⟩ ?_ ?_
 ·rintro i d ρ hd ⟨⟨t5,t6,rfl⟩,hb⟩
  obtain⟨hi,rfl⟩:=uU hd
  have lm:=hF.lm _ (ve hi)
  have ix:bC (.tuple (b.ls.map bZ)) (nd i)=some (.fz (bZ (bW b i))):=vY (wb hi)
  have l3:=AM (bW b i)
  have lyv:∀{t6:Option PV},(az bC (ag 2) (ag 5)) [some (.fz (gD b)),some (.fz (.int b.n)),some (.fz (.tuple (b.ls.map bZ))),some (.fz (.tuple (b.cs.map cT))),some (.fz (.int b.wt)),some (.fz (nd i)),t6,none,none]= .ok (.fz (bZ (bW b i)),[some (.fz (gD b)),some (.fz (.int b.n)),some (.fz (.tuple (b.ls.map bZ))),some (.fz (.tuple (b.cs.map cT))),some (.fz (.int b.wt)),some (.fz (nd i)),t6,none,none]):=a8 (rv:= .fz (bZ (bW b i))) (ar rfl) (ar rfl) rfl rfl ix
  refine⟨_,rfl,?_⟩
  refine e8 (b:= !decide (((bW b i).length:Int)=b.n)) (ρ1:=[some (.fz (gD b)),some (.fz (.int b.n)),some (.fz (.tuple (b.ls.map bZ))),some (.fz (.tuple (b.cs.map cT))),some (.fz (.int b.wt)),some (.fz (nd i)),t6,none,none]) (aX (bR (dx:= .int ((bW b i).length:Int)) (dy:= .int b.n) (dA (rv:= .fz (.int ((bW b i).length:Int))) (ao lyv aF) rfl l3) (ar rfl) rfl rfl (lN _ _)) rfl) (fun z=> ?_) fun z=>cG ?_
  ·refine eW (pv:= .fz (.tuple [.int 0,nd i,.none])) (rv:= .fz (.tuple [.int 0,nd i,.none])) (da (ds:=[.int 0,nd i,.none]) (ao aU (ao (ar rfl) (ao aU aF))) rfl (Nat.le_of_ble_eq_true rfl)) rfl ?_
   rw[Bool.not_eq_true',decide_eq_false_iff_not] at z
   rw[wo q hi hb (d:= .none) (by unfold h8;rw[if_neg z])]
  ·rw[Bool.not_eq_false',decide_eq_true_iff] at z
   have hlen:(bW b i).length=b.n.toNat:=by omega
   refine uQ (fun j ρ=>(∃t6,ρ=[some (.fz (gD b)),some (.fz (.int b.n)),some (.fz (.tuple (b.ls.map bZ))),some (.fz (.tuple (b.cs.map cT))),some (.fz (.int b.wt)),some (.fz (nd i)),t6,none,none])∧∀x,x<j→mP b i x=false) (ds:=eS (List.range b.n.toNat)) (ρ1:=[some (.fz (gD b)),some (.fz (.int b.n)),some (.fz (.tuple (b.ls.map bZ))),some (.fz (.tuple (b.cs.map cT))),some (.fz (.int b.wt)),some (.fz (nd i)),t6,none,none]) (jn (ds:=[.int b.n]) (ao (ar rfl) aF) rfl rn) ⟨⟨t6,rfl⟩,fun x h=>absurd h (Nat.not_lt_zero _)⟩ ?_ ?_
   ·rintro j d ρ hd ⟨⟨t6,rfl⟩,hm⟩
    obtain⟨hj,rfl⟩:=uU hd
    have hjl:j<(bW b i).length:=by omega
    have ixm:bC (bZ (bW b i)) (nd j)=some (.fz (mG ((bW b i).getD j .none))):=vY (v6 hjl)
    have mm:=tV (L:=(i:Int)) (nL:=(b.ls.length:Int)) (by omega) (lm.2 _ (AC hjl))
    have hmb:mP b i j= !oH ((bW b i).getD j .none) (i:Int) (b.ls.length:Int):=rfl
    generalize (bW b i).getD j .none=m at ixm mm hmb
    refine⟨_,rfl,eO (b:=mP b i j) (ρ1:=[some (.fz (gD b)),some (.fz (.int b.n)),some (.fz (.tuple (b.ls.map bZ))),some (.fz (.tuple (b.cs.map cT))),some (.fz (.int b.wt)),some (.fz (nd i)),some (.fz (nd j)),none,none]) (by rw[hmb];exact dY (aX (fZ (ds:=[mG m,nd i,.int (b.ls.length:Int)]) (ao (a8 (rv:= .fz (mG m)) lyv (ar rfl) rfl rfl ixm) (ao (ar rfl) (ao lnv aF))) rfl rfl mm) rfl)) (fun y=> ?_) fun y=>cN ⟨⟨_,rfl⟩,fun x hx=> ?_⟩⟩
    ·refine cb (pv:= .fz (.tuple [.int 0,nd i,nd j])) (rv:= .fz (.tuple [.int 0,nd i,nd j])) (da (ds:=[.int 0,nd i,nd j]) (ao aU (ao (ar rfl) (ao (ar rfl) aF))) rfl (Nat.le_of_ble_eq_true rfl)) rfl ?_
     have fm:mH b i=some j:=by
      unfold mH
      rw[List.find?_range_eq_some]
      exact⟨y,List.mem_range.mpr hjl,fun x hx=>by rw[hm x hx];rfl⟩
     rw[wo q hi hb (d:=nd j) (by unfold h8;rw[if_pos z,fm];rfl)]
    ·by_cases hxj:x<j
     ·exact hm x hxj
     ·rw[show x=j by omega];exact y
   ·rintro ρ ⟨⟨t6,rfl⟩,hm⟩
    rw[dZ,List.length_range] at hm
    refine⟨⟨_,_,rfl⟩,fun x hx=> ?_⟩
    by_cases hxi:x<i
    ·exact hb x hxi
    ·obtain rfl:x=i:=by omega
     have fm:mH b x=none:=by
      unfold mH
      rw[List.find?_eq_none]
      intro j hj
      rw[hm j (by have:=List.mem_range.mp hj;omega)]
      exact Bool.false_ne_true
     unfold h8
     rw[if_pos z,fm];rfl
 ·rintro ρ ⟨⟨t5,t6,rfl⟩,hb⟩
  rw[dZ,List.length_range] at hb
  have h0:=(Cw (hb 0 (by omega))).1
  have pg:=Ce (b:=b) (by omega) h0 n4
  refine cK (pv:= .ow ((eK b).map .int)) (ρ3:=[some (.fz (gD b)),some (.fz (.int b.n)),some (.fz (.tuple (b.ls.map bZ))),some (.fz (.tuple (b.cs.map cT))),some (.fz (.int b.wt)),t5,t6,some (.ow ((eK b).map .int)),none]) (d8 (jn (ds:=[.int b.n]) (ao (ar rfl) aF) rfl rn) rfl pg) rfl rfl ?_
  refine iC (fun p ρ=>(∃x7 t8,(x7= .ow ((eK b).map .int)∨x7= .fz (.list ((eK b).map .int)))∧ρ=[some (.fz (gD b)),some (.fz (.int b.n)),some (.fz (.tuple (b.ls.map bZ))),some (.fz (.tuple (b.cs.map cT))),some (.fz (.int b.wt)),t5,t6,some x7,t8])∧∀j,j<p→uM b j=false) (ds:=eS (List.range b.cs.length)) (ρ1:=[some (.fz (gD b)),some (.fz (.int b.n)),some (.fz (.tuple (b.ls.map bZ))),some (.fz (.tuple (b.cs.map cT))),some (.fz (.int b.wt)),t5,t6,some (.ow ((eK b).map .int)),none]) (jn (ds:=[nd b.cs.length]) (ao cnv aF) rfl r2) ⟨⟨_,none,.inl rfl,rfl⟩,fun j h=>absurd h (Nat.not_lt_zero _)⟩ ?_ ?_
  ·rintro p d ρ hd ⟨⟨x7,t8,hx7,rfl⟩,hc⟩
   obtain⟨hp,rfl⟩:=uU hd
   have cg:=DN hF hk h0 hp (d2:= .int b.n)
   refine⟨_,rfl,eO (b:=uM b p) (ρ1:=[some (.fz (gD b)),some (.fz (.int b.n)),some (.fz (.tuple (b.ls.map bZ))),some (.fz (.tuple (b.cs.map cT))),some (.fz (.int b.wt)),t5,t6,some (.fz (.list ((eK b).map .int))),some (.fz (nd p))]) ?_ (fun y=> ?_) fun y=>cN ⟨⟨_,_,.inr rfl,rfl⟩,fun x hx=> ?_⟩⟩
   ·have e:uM b p= !!uM b p:=(Bool.not_not _).symm
    rw[e]
    generalize (eK b).map PyData.int=pl at*
    rcases hx7 with rfl|rfl
    ·exact dY (aX (fZ (ds:=[.tuple (b.cs.map cT),nd p,.int b.n,.list pl]) (ao (ar rfl) (ao (ar rfl) (ao (ar rfl) (ao (qE rfl) aF)))) rfl rfl cg) rfl)
    ·exact dY (aX (fZ (ds:=[.tuple (b.cs.map cT),nd p,.int b.n,.list pl]) (ao (ar rfl) (ao (ar rfl) (ao (ar rfl) (ao (ar rfl) aF)))) rfl rfl cg) rfl)
   ·refine cb (pv:= .fz (.tuple [.int 1,nd p,.none])) (rv:= .fz (.tuple [.int 1,nd p,.none])) (da (ds:=[.int 1,nd p,.none]) (ao aU (ao (ar rfl) (ao aU aF))) rfl (Nat.le_of_ble_eq_true rfl)) rfl ?_
    rw[Ds q hb hp hc y]
   ·by_cases hxp:x<p
    ·exact hc x hxp
    ·rw[show x=p by omega];exact y
  ·rintro ρ ⟨⟨x7,t8,hx7,rfl⟩,hc⟩
   rw[dZ,List.length_range] at hc
   refine cb (pv:= .fz .none) (rv:= .fz .none) aU rfl ?_
   rw[y8 q hb hc]
theorem Fu {m:Mg} (h:MF m):PyData.canLay0 (mG m)=true:=by
 cases m with
 |letter s=>show(PyData.strOk "letter"&&(PyData.strOk (tx s)&&true))=true;rw[qq h.2,show PyData.strOk "letter"=true by decide+kernel];rfl
 |layer n=>show(PyData.strOk "layer"&&(true&&true))=true;rw[show PyData.strOk "layer"=true by decide+kernel];rfl
 |tap s n=>show(PyData.strOk "tap"&&(PyData.strOk (tx s)&&(true&&true)))=true;rw[qq h.2,show PyData.strOk "tap"=true by decide+kernel];rfl
 |once n=>show(PyData.strOk "once"&&(true&&true))=true;rw[show PyData.strOk "once"=true by decide+kernel];rfl
 |none=>show(PyData.strOk "none"&&true)=true;rw[show PyData.strOk "none"=true by decide+kernel];rfl
 |below=>show(PyData.strOk "below"&&true)=true;rw[show PyData.strOk "below"=true by decide+kernel];rfl
theorem FD (m:Mg):PyData.eqv (mG m) (mG m)=true:=by
 cases m with
 |letter s=>show(decide (("letter":Str)= "letter")&&(decide (tx s=tx s)&&true))=true;rw[decide_eq_true rfl,decide_eq_true rfl];rfl
 |layer n=>show(decide (("layer":Str)= "layer")&&(decide (n=n)&&true))=true;rw[decide_eq_true rfl,decide_eq_true rfl];rfl
 |tap s n=>show(decide (("tap":Str)= "tap")&&(decide (tx s=tx s)&&(decide (n=n)&&true)))=true;rw[decide_eq_true rfl,decide_eq_true rfl,decide_eq_true rfl];rfl
 |once n=>show(decide (("once":Str)= "once")&&(decide (n=n)&&true))=true;rw[decide_eq_true rfl,decide_eq_true rfl];rfl
 |none=>show(decide (("none":Str)= "none")&&true)=true;rw[decide_eq_true rfl];rfl
 |below=>show(decide (("below":Str)= "below")&&true)=true;rw[decide_eq_true rfl];rfl
theorem Gi (m:Mg):PyData.depth (mG m)=1:=by cases m<;>rfl
theorem qL {α:Type} {f:α→D} {l:List α} (h:∀a∈l,PyData.canLay0 (f a)=true):PyData.canLayAll0 (l.map f)=true:=by
 induction l with
 |nil=>rfl
 |cons a r ih=>
  show(PyData.canLay0 (f a)&&PyData.canLayAll0 (r.map f))=true
  rw[h a List.mem_cons_self,ih fun x hx=>h x (List.mem_cons_of_mem _ hx)];rfl
theorem rY {α:Type} {f:α→D} {l:List α} (h:∀a∈l,PyData.eqv (f a) (f a)=true):PyData.eqvAll (l.map f) (l.map f)=true:=by
 induction l with
 |nil=>rfl
 |cons a r ih=>
  show(PyData.eqv (f a) (f a)&&PyData.eqvAll (r.map f) (r.map f))=true
  rw[h a List.mem_cons_self,ih fun x hx=>h x (List.mem_cons_of_mem _ hx)];rfl
theorem rM {α:Type} {f:α→D} {n:Nat} {l:List α} (h:∀a∈l,PyData.depth (f a)≤n):PyData.depthAll (l.map f)≤n:=by
 induction l with
 |nil=>exact Nat.zero_le _
 |cons a r ih=>
  show max (PyData.depth (f a)) (PyData.depthAll (r.map f))≤n
  have h1:=h a List.mem_cons_self
  have h2:=ih fun x hx=>h x (List.mem_cons_of_mem _ hx)
  omega
theorem C1 (hF:GF k b):PyData.canLay0 (gD b)=true:=by
 have h1:PyData.canLayAll0 (b.ls.map bZ)=true:=qL fun l hl=>qL fun m hm=>Fu ((hF.lm l hl).2 m hm)
 have h2:PyData.canLayAll0 (b.cs.map cT)=true:=qL fun c hc=>by
  show(PyData.canLayAll0 (c.1.map PyData.int)&&(PyData.strOk (tx c.2)&&true))=true
  rw[De,qq (hF.cm c hc).2.2];rfl
 show(true&&(PyData.canLayAll0 (b.ls.map bZ)&&(PyData.canLayAll0 (b.cs.map cT)&&(true&&true))))=true
 rw[h1,h2];rfl
theorem Hf (hF:GF k b):kL (gD b)=true:=by
 have h1:PyData.depthAll (b.ls.map bZ)≤2:=rM fun l _=>by
  show PyData.depthAll (l.map mG)+1≤2
  have:PyData.depthAll (l.map mG)≤1:=rM fun m _=>by rw[Gi];exact Nat.le_refl _
  omega
 have h2:PyData.depthAll (b.cs.map cT)≤2:=rM fun c _=>by
  show max (PyData.depthAll (c.1.map PyData.int)+1) (max 0 0)+1≤2
  rw[BE];decide
 show(PyData.canLay0 (gD b)&&decide (max 0 (max (PyData.depthAll (b.ls.map bZ)+1) (max (PyData.depthAll (b.cs.map cT)+1) (max 0 0)))+1≤64))=true
 rw[C1 hF,decide_eq_true (by omega)];rfl
theorem FW:PyData.eqv (gD b) (gD b)=true:=by
 have h1:PyData.eqvAll (b.ls.map bZ) (b.ls.map bZ)=true:=rY fun l _=>rY fun m _=>FD m
 have h2:PyData.eqvAll (b.cs.map cT) (b.cs.map cT)=true:=rY fun c _=>by
  show(PyData.eqvAll (c.1.map PyData.int) (c.1.map PyData.int)&&(decide (tx c.2=tx c.2)&&true))=true
  rw[Cj,decide_eq_true rfl,decide_eq_true rfl];rfl
 show(decide (b.n=b.n)&&(PyData.eqvAll (b.ls.map bZ) (b.ls.map bZ)&&(PyData.eqvAll (b.cs.map cT) (b.cs.map cT)&&(decide (b.wt=b.wt)&&true))))=true
 rw[h1,h2,decide_eq_true rfl,decide_eq_true rfl];rfl
theorem G0 (hF:GF k b):mY (gD b) (gD b)=some (.fz (.bool false)):=by
 unfold mY
 rw[Hf hF,C1 hF,Bool.and_self,if_pos rfl,FW]
 rfl
theorem AR (hF:GF k b) (hk:k≤10):bM [gD b]= .ok (.fz (jF b)):=pJ hF hk (G0 hF)
end
theorem jg (xs ys:List D) (h:xs.length+ys.length≤1000):dJ (.tuple xs) (.tuple ys)=some (.fz (.tuple (xs++ys))):=by
 cases xs with
 |nil=>rfl
 |cons x r=>
  show(if x::r≠[]∧(x::r).length+ys.length≤1000000 then some (RV.fz (.tuple (x::r++ys))) else none)=_
  rw[if_pos ⟨List.cons_ne_nil x r,by omega⟩]
theorem vh (xs:List D) (p:Nat):kx (.tuple xs) none (some (p:Int))=some (.fz (.tuple (xs.take p))):=by
 show some (RV.fz (.tuple (ie xs none (some (p:Int)))))=_
 unfold ie
 rw[HT.sIx_none,List.drop_zero,HT.sIx_nat,Nat.sub_zero]
 congr 3
 rw[List.take_eq_take_iff]
 omega
theorem li (xs:List D) (p:Nat):kx (.tuple xs) (some (p:Int)) none=some (.fz (.tuple (xs.drop p))):=by
 show some (RV.fz (.tuple (ie xs (some (p:Int)) none)))=_
 unfold ie
 rw[HT.sIx_none,HT.sIx_nat]
 congr 3
 by_cases h:p≤xs.length
 ·rw[Nat.min_eq_left h,List.take_of_length_le (by rw[List.length_drop];exact Nat.le_refl _)]
 ·rw[Nat.min_eq_right (by omega),Nat.sub_self,List.take_zero,List.drop_of_length_le (by omega)]
theorem HI (a:Nat):dJ (nd a) (.int 1)=some (.fz (nd (a+1))):=by show some (RV.fz (.int ((a:Int)+1)))=some (RV.fz (.int ((a+1:Nat):Int)));congr 3
noncomputable def fR {α:Type} (l:List α) (p:Nat) (a:α):List α:=l.take p++[a]++l.drop (p+1)
theorem jV {α:Type} {l:List α} {p:Nat} {a:α} (h:p<l.length):(fR l p a).length=l.length:=by
 unfold fR
 rw[List.length_append,List.length_append,List.length_take,List.length_drop,List.length_singleton]
 omega
theorem oO {α:Type} {l:List α} {p:Nat} {a x:α} (h:x∈fR l p a):x=a∨x∈l:=by
 unfold fR at h
 rcases List.mem_append.mp h with z|z
 ·rcases List.mem_append.mp z with z|z
  ·exact .inr (List.mem_of_mem_take z)
  ·exact .inl (List.mem_singleton.mp z)
 ·exact .inr (List.mem_of_mem_drop z)
theorem oK {α:Type} (f:α→D) (l:List α) (hl:l.length≤400) (p:Nat) (a:α):aQ [.tuple (l.map f),nd p,f a]= .ok (.fz (.tuple ((fR l p a).map f))):=by
 have c1:=vh (l.map f) p
 have c2:=li (l.map f) (p+1)
 have p1:=jg ((l.map f).take p) [f a] (by rw[List.length_take,List.length_map];show _+1≤_;omega)
 have p2:=jg ((l.map f).take p++[f a]) ((l.map f).drop (p+1)) (by rw[List.length_append,List.length_take,List.length_drop,List.length_map];show _+1+_≤_;omega)
 have e:(l.map f).take p++[f a]++(l.map f).drop (p+1)=(fR l p a).map f:=by
  unfold fR
  rw[List.map_append,List.map_append,List.map_take,List.map_drop];rfl
 rw[e] at p2
 have a1:=HI p
 generalize (l.map f).take p=t1 at*
 generalize (l.map f).drop (p+1)=t2 at*
 generalize (fR l p a).map f=t3 at*
 generalize l.map f=t0 at*
 generalize f a=fa at*
 refine ey (ρ:=[some (.fz (.tuple t0)),some (.fz (nd p)),some (.fz fa)]) rfl ?_
 unfold kM
 exact cb (pv:= .fz (.tuple t3)) (a8 (rv:= .fz (.tuple t3)) (a8 (rv:= .fz (.tuple (t1++[fa]))) (iV (rv:= .fz (.tuple t1)) (ar rfl) eP (dR (ar rfl) rfl) rfl c1) (da (ds:=[fa]) (ao (ar rfl) aF) rfl (Nat.le_of_ble_eq_true rfl)) rfl rfl p1) (iV (rv:= .fz (.tuple t2)) (ar rfl) (dR (a8 (rv:= .fz (nd (p+1))) (ar rfl) aU rfl rfl a1) rfl) eP rfl c2) rfl rfl p2) rfl rfl
theorem FL:(PyData.str "A"=ef [65])∧(PyData.str ""=ef [])∧(PyData.str "ab"=ef [97,98])∧(PyData.str "1"=ef [49])∧(PyData.str "b"=ef [98])∧(PyData.str "q"=ef [113])∧(PyData.str "-"=ef [45])∧(PyData.str "k"=ef [107])∧(PyData.str "c"=ef [99])∧(PyData.str "C"=ef [67]):=by
 refine⟨?_,?_,?_,?_,?_,?_,?_,?_,?_,?_⟩<;>(unfold ef;congr 1)
theorem FH:(PyData.str "e"=ef [101])∧(PyData.str "f"=ef [102])∧(PyData.str "g"=ef [103])∧(PyData.str "h"=ef [104])∧(PyData.str "i"=ef [105]):=by
 refine⟨?_,?_,?_,?_,?_⟩<;>(unfold ef;congr 1)
theorem fF {s:List Nat} (h:(decide (s.length≤10)&&s.all fun c=>decide (c<1114112))=true):Ar s:=by
 rw[Bool.and_eq_true,decide_eq_true_iff,List.all_eq_true] at h
 exact⟨h.1,fun c hc=>of_decide_eq_true (h.2 c hc)⟩
theorem Df:ji (.int 10) (.int 19)=some (.fz (.int (10^19))):=qM (j:=19) ⟨by decide,by decide⟩
theorem pz {x nL:Int} (hx:0≤x):∃m,MF m∧cf [.int x,.int nL]= .ok (.fz (mG m)):=by
 obtain⟨s1,s2,s3,s4,s5,s6,_⟩:=FL
 have m5:bf (.int x) (.int 5)=some (.fz (.int (x % 5))):=bU (by decide)
 have b5:0≤x % 5∧x % 5<5:=⟨Int.emod_nonneg _ (by decide),Int.emod_lt_of_pos _ (by decide)⟩
 have d5:cy (.int x) (.int 5)=some (.fz (.int (x/5))):=dL ⟨by decide,by decide⟩
 have n5:bf (.int (x/5)) (.int 5)=some (.fz (.int (x/5 % 5))):=bU (by decide)
 have c5:0≤x/5 % 5∧x/5 % 5<5:=⟨Int.emod_nonneg _ (by decide),Int.emod_lt_of_pos _ (by decide)⟩
 have d25:cy (.int x) (.int 25)=some (.fz (.int (x/25))):=dL ⟨by decide,by decide⟩
 have m7:bf (.int (x/25)) (.int 7)=some (.fz (.int (x/25 % 7))):=bU (by decide)
 have b7:0≤x/25 % 7∧x/25 % 7<7:=⟨Int.emod_nonneg _ (by decide),Int.emod_lt_of_pos _ (by decide)⟩
 have p19:=Df
 generalize x % 5=y5 at m5 b5
 generalize x/5 % 5=z5 at n5 c5
 generalize x/25 % 7=y7 at m7 b7
 generalize (10:Int)^19=big at p19
 obtain⟨s,hs,i1⟩:∃s:List Nat,Ar s∧bC (.list [ef [65],ef [],ef [97,98],ef [49],ef [98]]) (.int y5)=some (.fz (ef s)):=by
  obtain⟨n,rfl⟩:∃n:Nat,y5=(n:Int):=⟨y5.toNat,by omega⟩
  match n,b5 with
  |0,_=>exact⟨[65],fF rfl,jc (i:=0) rfl⟩
  |1,_=>exact⟨[],fF rfl,jc (i:=1) rfl⟩
  |2,_=>exact⟨[97,98],fF rfl,jc (i:=2) rfl⟩
  |3,_=>exact⟨[49],fF rfl,jc (i:=3) rfl⟩
  |4,_=>exact⟨[98],fF rfl,jc (i:=4) rfl⟩
  |n+5,h=>omega
 obtain⟨t,i2⟩:∃t:Int,bC (.list [.int 0,.int (-1),.int nL,.int big,.int 1]) (.int z5)=some (.fz (.int t)):=by
  obtain⟨n,rfl⟩:∃n:Nat,z5=(n:Int):=⟨z5.toNat,by omega⟩
  match n,c5 with
  |0,_=>exact⟨0,jc (i:=0) rfl⟩
  |1,_=>exact⟨-1,jc (i:=1) rfl⟩
  |2,_=>exact⟨nL,jc (i:=2) rfl⟩
  |3,_=>exact⟨big,jc (i:=3) rfl⟩
  |4,_=>exact⟨1,jc (i:=4) rfl⟩
  |n+5,h=>omega
 obtain⟨m,hm,i3⟩:∃m,MF m∧bC (.list [mG (.letter s),mG (.tap s 1),mG (.tap [113] t),mG (.layer t),mG (.once t),mG .below,mG (.tap [113] 0)]) (.int y7)=some (.fz (mG m)):=by
  obtain⟨n,rfl⟩:∃n:Nat,y7=(n:Int):=⟨y7.toNat,by omega⟩
  match n,b7 with
  |0,_=>exact⟨.letter s,hs,jc (i:=0) rfl⟩
  |1,_=>exact⟨.tap s 1,hs,jc (i:=1) rfl⟩
  |2,_=>exact⟨.tap [113] t,fF rfl,jc (i:=2) rfl⟩
  |3,_=>exact⟨.layer t,trivial,jc (i:=3) rfl⟩
  |4,_=>exact⟨.once t,trivial,jc (i:=4) rfl⟩
  |5,_=>exact⟨.below,trivial,jc (i:=5) rfl⟩
  |6,_=>exact⟨.tap [113] 0,fF rfl,jc (i:=6) rfl⟩
  |n+7,h=>omega
 have ad:cn (.list [mG (.letter s),mG (.tap s 1),mG (.tap [113] t),mG (.layer t)]) (.list [mG (.once t),mG .below,mG (.tap [113] 0)])=some (.ow [mG (.letter s),mG (.tap s 1),mG (.tap [113] t),mG (.layer t),mG (.once t),mG .below,mG (.tap [113] 0)]):=rfl
 refine⟨m,hm,?_⟩
 refine ey (ρ:=[some (.fz (.int x)),some (.fz (.int nL)),none,none,none]) rfl ?_
 unfold gf
 rw[s1,s2,s3,s4,s5,s6]
 refine cK (pv:= .fz (ef s)) (ρ3:=[some (.fz (.int x)),some (.fz (.int nL)),some (.fz (ef s)),none,none]) (a8 (rv:= .fz (ef s)) (fE (ds:=[ef [65],ef [],ef [97,98],ef [49],ef [98]]) (ao aU (ao aU (ao aU (ao aU (ao aU aF))))) rfl (Nat.le_of_ble_eq_true rfl)) (by walk_at "ev") rfl rfl i1) rfl rfl ?_
 refine cK (pv:= .fz (.int t)) (ρ3:=[some (.fz (.int x)),some (.fz (.int nL)),some (.fz (ef s)),some (.fz (.int t)),none]) (a8 (rv:= .fz (.int t)) (fE (ds:=[.int 0,.int (-1),.int nL,.int big,.int 1]) (by walk_at "ev") rfl (Nat.le_of_ble_eq_true rfl)) (by walk_at "ev") rfl rfl i2) rfl rfl ?_
 refine cK (pv:= .ow [mG (.letter s),mG (.tap s 1),mG (.tap [113] t),mG (.layer t)]) (ρ3:=[some (.fz (.int x)),some (.fz (.int nL)),some (.fz (ef s)),some (.fz (.int t)),some (.ow [mG (.letter s),mG (.tap s 1),mG (.tap [113] t),mG (.layer t)])]) (by walk_at "evp") rfl rfl ?_
 exact cb (pv:= .fz (mG m)) (a8 (rv:= .fz (mG m)) (dx:= .list [mG (.letter s),mG (.tap s 1),mG (.tap [113] t),mG (.layer t),mG (.once t),mG .below,mG (.tap [113] 0)]) (a8 (rv:= .ow [mG (.letter s),mG (.tap s 1),mG (.tap [113] t),mG (.layer t),mG (.once t),mG .below,mG (.tap [113] 0)]) (dy:= .list [mG (.once t),mG .below,mG (.tap [113] 0)]) (qE rfl) (fE (ds:=[mG (.once t),mG .below,mG (.tap [113] 0)]) (by walk_at "ev") rfl (Nat.le_of_ble_eq_true rfl)) rfl rfl ad) (by walk_at "ev") rfl rfl i3) rfl rfl
noncomputable abbrev Ch:=List Int×List Nat
noncomputable def CF (n:Nat) (c:Ch):Prop:=c.1.length≤5+n∧Ar c.2
structure CsF (n:Nat) (cs:List Ch):Prop where
 cl:cs.length≤5+n
 cm:∀c∈cs,CF n c
theorem CF.up {n:Nat} {c:Ch} (h:CF n c):CF (n+1) c:=⟨by have:=h.1;omega,h.2⟩
theorem Bh {n:Nat} {cs:List Ch} (h:CsF n cs) {p:Nat} (hp:p<cs.length) {c:Ch} (hc:CF (n+1) c):CsF (n+1) (fR cs p c):=⟨by rw[jV hp];have:=h.cl;omega,fun x hx=>by
 rcases oO hx with rfl|z
 ·exact hc
 ·exact(h.cm x z).up⟩
theorem iu (w c:Nat) {ρ:bb} {i:Nat} (h:ρ[i]? =some (some (.fz (nd w)))):aG (az fO (ag i) (pC (.int (c:Int)))) ρ= .ok (decide (w=c),ρ):=aX (bR (ar h) aU rfl rfl (yQ w c)) rfl
theorem AL {n:Nat} {cs:List Ch} (hF:CsF n cs) (hn:n≤10) {ky:Int} (hky:1≤ky) (w:Nat) {x:Int} (hx:0≤x):∃cs',CsF (n+1) cs'∧b8 [.tuple (cs.map cT),.int ky,nd w,.int x]= .ok (.fz (.tuple (cs'.map cT))):=by
 have cl:=hF.cl
 obtain⟨s1,s2,s3,_,_,_,s7,s8,s9,s10⟩:=FL
 obtain⟨e1,e2,e3,e4,e5⟩:=FH
 have ln:bV [.tuple (cs.map cT)]=some (.fz (.int (cs.length:Int))):=by
  show some (RV.fz (.int ((cs.map cT).length:Int)))=_
  rw[List.length_map]
 obtain⟨rv,e,cs',hcs',rfl⟩:=jD (ds:=[.tuple (cs.map cT),.int ky,nd w,.int x]) (ρ:=[some (.fz (.tuple (cs.map cT))),some (.fz (.int ky)),some (.fz (nd w)),some (.fz (.int x)),none,none,none]) (n:=7) (g:=dH) (T:=fun v=>∃cs',CsF (n+1) cs'∧v= .fz (.tuple (cs'.map cT))) rfl (by
  unfold dH
  rw[s1,s2,s3,s7,s8,s9,s10,e1,e2,e3,e4,e5]
  have lnv:∀{x1 x2 x3 x4 x5 x6:Option PV},(dh bV (aa (ag 0) am)) [some (.fz (.tuple (cs.map cT))),x1,x2,x3,x4,x5,x6]= .ok (.fz (.int (cs.length:Int)),[some (.fz (.tuple (cs.map cT))),x1,x2,x3,x4,x5,x6]):=dA (rv:= .fz (.int (cs.length:Int))) (ao (ar rfl) aF) rfl ln
  refine e8 (b:=decide ((cs.length:Int)=0)) (aX (bR lnv aU rfl rfl (ib _ _)) rfl) (fun _=> ?_) fun q=>cG ?_
  ·have m4:bf (nd w) (.int 4)=some (.fz (.int ((w:Int) % 4))):=bU (by decide)
   have b4:0≤(w:Int) % 4∧(w:Int) % 4<4:=⟨Int.emod_nonneg _ (by decide),Int.emod_lt_of_pos _ (by decide)⟩
   generalize (w:Int) % 4=y at m4 b4
   have a4:dJ (.int y) (.int 1)=some (.fz (.int (y+1))):=rfl
   obtain⟨c,hc,sl⟩:∃c:Ch,CF (n+1) c∧kx (.tuple [cT ([0],[99]),cT ([0,1],[99]),cT ([0,ky],[99]),cT ([0,1],[67])]) (some y) (some (y+1))=some (.fz (.tuple ([c].map cT))):=by
    obtain⟨j,rfl⟩:∃j:Nat,y=(j:Int):=⟨y.toNat,by omega⟩
    match j,b4 with
    |0,_=>exact⟨([0],[99]),⟨by show 1≤_;omega,fF rfl⟩,rfl⟩
    |1,_=>exact⟨([0,1],[99]),⟨by show 2≤_;omega,fF rfl⟩,rfl⟩
    |2,_=>exact⟨([0,ky],[99]),⟨by show 2≤_;omega,fF rfl⟩,rfl⟩
    |3,_=>exact⟨([0,1],[67]),⟨by show 2≤_;omega,fF rfl⟩,rfl⟩
    |j+4,h=>omega
   refine eW (pv:= .fz (.tuple ([c].map cT))) (iV (rv:= .fz (.tuple ([c].map cT))) (da (ds:=[cT ([0],[99]),cT ([0,1],[99]),cT ([0,ky],[99]),cT ([0,1],[67])]) (by walk_at "ev") rfl (Nat.le_of_ble_eq_true rfl)) (dR (by walk_at "ev") rfl) (dR (a8 (rv:= .fz (.int (y+1))) (by walk_at "ev") aU rfl rfl a4) rfl) rfl sl) rfl ⟨[c],⟨by show 1≤_;omega,fun x hx=>by rw[List.mem_singleton.mp hx];exact hc⟩,rfl⟩
  have q:=of_decide_eq_false q
  have h1:1≤cs.length:=by omega
  have ml:bf (.int x) (.int (cs.length:Int))=some (.fz (.int (x % (cs.length:Int)))):=bU (by omega)
  have bl:0≤x % (cs.length:Int)∧x % (cs.length:Int)<(cs.length:Int):=⟨Int.emod_nonneg _ (by omega),Int.emod_lt_of_pos _ (by omega)⟩
  have dl:cy (.int x) (.int (cs.length:Int))=some (.fz (.int (x/(cs.length:Int)))):=dL ⟨by omega,by omega⟩
  have nl:0≤x/(cs.length:Int):=Int.ediv_nonneg hx (by omega)
  generalize x/(cs.length:Int)=y at dl nl
  generalize x % (cs.length:Int)=xa at ml bl
  obtain⟨a,rfl⟩:∃a:Nat,xa=(a:Int):=⟨xa.toNat,by omega⟩
  have ha:a<cs.length:=by omega
  have ix:bC (.tuple (cs.map cT)) (nd a)=some (.fz (cT cs[a])):=vY (by rw[List.getElem?_map,List.getElem?_eq_getElem ha];rfl)
  have fc:=hF.cm _ (List.getElem_mem ha)
  have pg:=fun c:Ch=>oK cT cs (by omega) a c
  have hput:=fun(c:Ch) (hc:CF (n+1) c)=>Bh hF ha hc
  obtain⟨ks,s,hks⟩:∃ks s,cs[a]=(ks,s):=⟨_,_,rfl⟩
  rw[hks] at ix fc
  obtain⟨kl,hs⟩:=fc
  have kl:ks.length≤5+n:=kl
  have hs:Ar s:=hs
  refine cK (pv:= .fz (nd a)) (ρ3:=[some (.fz (.tuple (cs.map cT))),some (.fz (.int ky)),some (.fz (nd w)),some (.fz (.int x)),some (.fz (nd a)),none,none]) (a8 (rv:= .fz (nd a)) (ar rfl) lnv rfl rfl ml) rfl rfl ?_
  refine cK (pv:= .fz (cT (ks,s))) (ρ3:=[some (.fz (.tuple (cs.map cT))),some (.fz (.int ky)),some (.fz (nd w)),some (.fz (.int x)),some (.fz (nd a)),some (.fz (kD ks)),some (.fz (ef s))]) (a8 (rv:= .fz (cT (ks,s))) (ar rfl) (ar rfl) rfl rfl ix) rfl rfl ?_
  refine cK (pv:= .fz (.int y)) (ρ3:=[some (.fz (.tuple (cs.map cT))),some (.fz (.int ky)),some (.fz (nd w)),some (.fz (.int y)),some (.fz (nd a)),some (.fz (kD ks)),some (.fz (ef s))]) (a8 (rv:= .fz (.int y)) (ar rfl) lnv rfl rfl dl) rfl rfl ?_
  have putv:∀{c:Ch} {fe:FE},(fe [some (.fz (.tuple (cs.map cT))),some (.fz (.int ky)),some (.fz (nd w)),some (.fz (.int y)),some (.fz (nd a)),some (.fz (kD ks)),some (.fz (ef s))]= .ok (.fz (cT c),[some (.fz (.tuple (cs.map cT))),some (.fz (.int ky)),some (.fz (nd w)),some (.fz (.int y)),some (.fz (nd a)),some (.fz (kD ks)),some (.fz (ef s))]))→(bx aQ 3 (aa (ag 0) (aa (ag 4) (aa fe am)))) [some (.fz (.tuple (cs.map cT))),some (.fz (.int ky)),some (.fz (nd w)),some (.fz (.int y)),some (.fz (nd a)),some (.fz (kD ks)),some (.fz (ef s))]= .ok (.fz (.tuple ((fR cs a c).map cT)),[some (.fz (.tuple (cs.map cT))),some (.fz (.int ky)),some (.fz (nd w)),some (.fz (.int y)),some (.fz (nd a)),some (.fz (kD ks)),some (.fz (ef s))]):=fun{c fe} h=>
   eN (ds:=[.tuple (cs.map cT),nd a,cT c]) (rv:= .fz (.tuple ((fR cs a c).map cT))) (ao (ar rfl) (ao (ar rfl) (ao h aF))) rfl rfl (pg c)
  refine e8 (iu w 0 rfl) (fun _=> ?_) fun _=>cG ?_
  ·have m4:bf (.int y) (.int 4)=some (.fz (.int (y % 4))):=bU (by decide)
   have b4:0≤y % 4∧y % 4<4:=⟨Int.emod_nonneg _ (by decide),Int.emod_lt_of_pos _ (by decide)⟩
   generalize y % 4=z at m4 b4
   obtain⟨v,hv,iv⟩:∃v:List Nat,Ar v∧bC (.list [ef [65],ef [],ef [97,98],ef [45]]) (.int z)=some (.fz (ef v)):=by
    obtain⟨j,rfl⟩:∃j:Nat,z=(j:Int):=⟨z.toNat,by omega⟩
    match j,b4 with
    |0,_=>exact⟨[65],fF rfl,jc (i:=0) rfl⟩
    |1,_=>exact⟨[],fF rfl,jc (i:=1) rfl⟩
    |2,_=>exact⟨[97,98],fF rfl,jc (i:=2) rfl⟩
    |3,_=>exact⟨[45],fF rfl,jc (i:=3) rfl⟩
    |j+4,h=>omega
   exact eW (putv (c:=(ks,v)) (da (ds:=[kD ks,ef v]) (ao (ar rfl) (ao (a8 (rv:= .fz (ef v)) (fE (ds:=[ef [65],ef [],ef [97,98],ef [45]]) (ao aU (ao aU (ao aU (ao aU aF)))) rfl (Nat.le_of_ble_eq_true rfl)) (by walk_at "ev") rfl rfl iv) aF)) rfl (Nat.le_of_ble_eq_true rfl))) rfl ⟨_,hput _ ⟨by show ks.length≤_;omega,hv⟩,rfl⟩
  refine e8 (iu w 1 rfl) (fun _=> ?_) fun _=>cG ?_
  ·have ct:kx (kD ks) none (some 1)=some (.fz (kD (ks.take 1))):=by
    have:=vh (ks.map .int) 1
    rw[←List.map_take] at this
    exact this
   exact eW (putv (c:=(ks.take 1,s)) (da (ds:=[kD (ks.take 1),ef s]) (ao (iV (rv:= .fz (kD (ks.take 1))) (ar rfl) eP (dR aU rfl) rfl ct) (ao (ar rfl) aF)) rfl (Nat.le_of_ble_eq_true rfl))) rfl ⟨_,hput _ ⟨by show(ks.take 1).length≤_;rw[List.length_take];omega,hs⟩,rfl⟩
  refine e8 (iu w 2 rfl) (fun _=> ?_) fun _=>cG ?_
  ·have ct:L9.Aw (kD ks)=some (.fz (kD ks.reverse)):=by
    show some (RV.fz (.tuple (ks.map PyData.int).reverse))=_
    rw[←List.map_reverse];rfl
   exact eW (putv (c:=(ks.reverse,s)) (da (ds:=[kD ks.reverse,ef s]) (ao (qk (rv:= .fz (kD ks.reverse)) (ar rfl) rfl ct) (ao (ar rfl) aF)) rfl (Nat.le_of_ble_eq_true rfl))) rfl ⟨_,hput _ ⟨by show ks.reverse.length≤_;rw[List.length_reverse];omega,hs⟩,rfl⟩
  refine e8 (iu w 3 rfl) (fun _=> ?_) fun _=>cG ?_
  ·obtain⟨r,hr,ct⟩:∃r:List Int,r.length≤1∧kx (kD ks) (some (-1)) none=some (.fz (kD r)):=by
    refine⟨(ks.drop (HT.sIx ks.length 0 (some (-1)))).take (HT.sIx ks.length ks.length none - HT.sIx ks.length 0 (some (-1))),?_,?_⟩
    ·rw[List.length_take,List.length_drop]
     have:HT.sIx ks.length 0 (some (-1))=(-1+(ks.length:Int)).toNat:=rfl
     rw[this,HT.sIx_none]
     omega
    ·show some (RV.fz (.tuple (ie (ks.map PyData.int) (some (-1)) none)))=_
     unfold ie kD
     rw[List.length_map,←List.map_drop,←List.map_take]
   have ad:dJ (kD ks) (kD r)=some (.fz (kD (ks++r))):=by
    have:=jg (ks.map .int) (r.map .int) (by rw[List.length_map,List.length_map];omega)
    rw[←List.map_append] at this
    exact this
   exact eW (putv (c:=(ks++r,s)) (da (ds:=[kD (ks++r),ef s]) (ao (a8 (rv:= .fz (kD (ks++r))) (ar rfl) (iV (rv:= .fz (kD r)) (ar rfl) (dR (qk (rv:= .fz (.int (-1))) aU rfl rfl) rfl) eP rfl ct) rfl rfl ad) (ao (ar rfl) aF)) rfl (Nat.le_of_ble_eq_true rfl))) rfl ⟨_,hput _ ⟨by show(ks++r).length≤_;rw[List.length_append];omega,hs⟩,rfl⟩
  refine e8 (iu w 4 rfl) (fun _=> ?_) fun _=>cG ?_
  ·have ak:dJ (.int ky) (.int 2)=some (.fz (.int (ky+2))):=rfl
   have mk:bf (.int y) (.int (ky+2))=some (.fz (.int (y % (ky+2)))):=bU (by omega)
   generalize y % (ky+2)=z at mk
   have ad:dJ (kD ks) (kD [z - 1])=some (.fz (kD (ks++[z - 1]))):=by
    have:=jg (ks.map .int) ([z - 1].map .int) (by rw[List.length_map];show _+1≤_;omega)
    rw[←List.map_append] at this
    exact this
   have hl:(ks++[z - 1]).length=ks.length+1:=by rw[List.length_append];rfl
   generalize ks++[z - 1]=k2 at ad hl
   have srt:L9.jv [kD k2]=some (.ow ((gx k2).map .int)):=by
    show(match mL (k2.map PyData.int) with
     |some ns=>if ns.length<64 then some (RV.ow ((gx ns).map .int)) else none
     |none=>none)=_
    rw[lq]
    dsimp only
    rw[if_pos (by omega)]
   have sl:(gx k2).length=k2.length:=(im k2).length_eq
   generalize gx k2=k3 at srt sl
   exact eW (putv (c:=(k3,s)) (da (ds:=[kD k3,ef s]) (ao (dA (rv:= .fz (kD k3)) (ao (dA (rv:= .ow (k3.map .int)) (ao (a8 (rv:= .fz (kD k2)) (dy:=kD [z - 1]) (ar rfl) (da (ds:=[.int (z - 1)]) (ao (a8 (rv:= .fz (.int (z - 1))) (a8 (rv:= .fz (.int z)) (ar rfl) (a8 (rv:= .fz (.int (ky+2))) (ar rfl) aU rfl rfl ak) rfl rfl mk) aU rfl rfl (o3 _ _)) aF) rfl (Nat.le_of_ble_eq_true rfl)) rfl rfl ad) aF) rfl srt) aF) rfl rfl) (ao (ar rfl) aF)) rfl (Nat.le_of_ble_eq_true rfl))) rfl ⟨_,hput _ ⟨by show k3.length≤_;omega,hs⟩,rfl⟩
  refine e8 (iu w 5 rfl) (fun _=> ?_) fun _=>cG ?_
  ·have m2:bf (.int y) (.int 2)=some (.fz (.int (y % 2))):=bU (by decide)
   have b2:0≤y % 2∧y % 2<2:=⟨Int.emod_nonneg _ (by decide),Int.emod_lt_of_pos _ (by decide)⟩
   generalize y % 2=z at m2 b2
   obtain⟨v,hv,iv⟩:∃v:List Nat,Ar v∧bC (.list [ef s,ef [107]]) (.int z)=some (.fz (ef v)):=by
    obtain⟨j,rfl⟩:∃j:Nat,z=(j:Int):=⟨z.toNat,by omega⟩
    match j,b2 with
    |0,_=>exact⟨s,hs,jc (i:=0) rfl⟩
    |1,_=>exact⟨[107],fF rfl,jc (i:=1) rfl⟩
    |j+2,h=>omega
   have ad:=jg (cs.map cT) ([(ks,v)].map cT) (by rw[List.length_map];show _+1≤_;omega)
   rw[←List.map_append] at ad
   refine eW (pv:= .fz (.tuple ((cs++[(ks,v)]).map cT))) (a8 (rv:= .fz (.tuple ((cs++[(ks,v)]).map cT))) (dy:= .tuple ([(ks,v)].map cT)) (ar rfl) (da (ds:=[cT (ks,v)]) (ao (da (ds:=[kD ks,ef v]) (ao (ar rfl) (ao (a8 (rv:= .fz (ef v)) (fE (ds:=[ef s,ef [107]]) (ao (ar rfl) (ao aU aF)) rfl (Nat.le_of_ble_eq_true rfl)) (by walk_at "ev") rfl rfl iv) aF)) rfl (Nat.le_of_ble_eq_true rfl)) aF) rfl (Nat.le_of_ble_eq_true rfl)) rfl rfl ad) rfl ⟨cs++[(ks,v)],⟨by rw[List.length_append,List.length_singleton];omega,fun c hc=> ?_⟩,rfl⟩
   rcases List.mem_append.mp hc with z|z
   ·exact(hF.cm c z).up
   ·rw[List.mem_singleton.mp z];exact⟨by show ks.length≤_;omega,hv⟩
  ·have ct:=li ([([0,1],[101]),([0,2],[102]),([1,2],[103]),([0,1,2],[104]),([1,3],[105])].map cT) cs.length
   rw[←List.map_drop] at ct
   have ad:=jg (cs.map cT) ((([([0,1],[101]),([0,2],[102]),([1,2],[103]),([0,1,2],[104]),([1,3],[105])]:List Ch).drop cs.length).map cT) (by rw[List.length_map,List.length_map,List.length_drop];show _+(5 - _)≤_;omega)
   rw[←List.map_append] at ad
   have hall:∀c∈([([0,1],[101]),([0,2],[102]),([1,2],[103]),([0,1,2],[104]),([1,3],[105])]:List Ch),CF (n+1) c:=fun c hc=>by
    have:∀c∈([([0,1],[101]),([0,2],[102]),([1,2],[103]),([0,1,2],[104]),([1,3],[105])]:List Ch),c.1.length≤3∧(decide (c.2.length≤10)&&c.2.all fun c=>decide (c<1114112))=true:=by decide
    exact⟨by have:=(this c hc).1;omega,fF (this c hc).2⟩
   refine cb (pv:= .fz (.tuple ((cs++([([0,1],[101]),([0,2],[102]),([1,2],[103]),([0,1,2],[104]),([1,3],[105])]:List Ch).drop cs.length).map cT))) (a8 (rv:= .fz (.tuple ((cs++([([0,1],[101]),([0,2],[102]),([1,2],[103]),([0,1,2],[104]),([1,3],[105])]:List Ch).drop cs.length).map cT))) (ar rfl) (iV (rv:= .fz (.tuple ((([([0,1],[101]),([0,2],[102]),([1,2],[103]),([0,1,2],[104]),([1,3],[105])]:List Ch).drop cs.length).map cT))) (da (ds:=[([0,1],[101]),([0,2],[102]),([1,2],[103]),([0,1,2],[104]),([1,3],[105])].map cT) (by walk_at "ev") rfl (Nat.le_of_ble_eq_true rfl)) (dR lnv rfl) eP rfl ct) rfl rfl ad) rfl ⟨_,⟨?_,fun c hc=> ?_⟩,rfl⟩
   ·rw[List.length_append,List.length_drop]
    show cs.length+(5 - cs.length)≤_
    omega
   ·rcases List.mem_append.mp hc with z|z
    ·exact(hF.cm c z).up
    ·exact hall c (List.mem_of_mem_drop z))
 exact⟨cs',hcs',e⟩
theorem ld {f g:FS} {ρ:bb} {N C:bb→Prop} {T:RV→Prop} (I:bb→Prop) (h:Go (f ρ) I C T) (k:∀r,I r→Go (g r) N C T):Go (aO f g ρ) N C T:=ej (h.imp k (fun _ h=>h) fun _ h=>h)
structure LF (a c:Nat) (ls:List (List Mg)):Prop where
 ll:ls.length≤a
 lm:∀l∈ls,l.length≤c∧∀m∈l,MF m
theorem LF.up {a c a' c':Nat} {ls:List (List Mg)} (h:LF a c ls) (ha:a≤a') (hc:c≤c'):LF a' c' ls:=⟨Nat.le_trans h.ll ha,fun l hl=>⟨Nat.le_trans (h.lm l hl).1 hc,(h.lm l hl).2⟩⟩
theorem LF.put {a c:Nat} {ls:List (List Mg)} (h:LF a c ls) {p:Nat} (hp:p<ls.length) {l:List Mg} (hl:l.length≤c) (hm:∀m∈l,MF m):LF a c (fR ls p l):=⟨by rw[jV hp];exact h.ll,fun x hx=>by
 rcases oO hx with rfl|z
 ·exact⟨hl,hm⟩
 ·exact h.lm x z⟩
theorem nc {α:Type} {f:α→D} {l:List α} {ρ:bb} {i:Nat} (h:ρ[i]? =some (some (.fz (.tuple (l.map f))))):dh bV (aa (ag i) am) ρ= .ok (.fz (.int (l.length:Int)),ρ):=dA (rv:= .fz (.int (l.length:Int))) (ao (ar h) aF) rfl (by
 show some (RV.fz (.int ((l.map f).length:Int)))=_
 rw[List.length_map])
theorem yB {l:List Mg} (hm:∀m∈l,MF m) {p:Nat} {m0:Mg} (h0:MF m0):∀m∈fR l p m0,MF m:=fun m hm'=>by
 rcases oO hm' with rfl|z
 ·exact h0
 ·exact hm m z
theorem zS {l:List Mg} (hm:∀m∈l,MF m):∀m∈l++[.none],MF m:=fun m hm'=>by
 rcases List.mem_append.mp hm' with z|z
 ·exact hm m z
 ·rw[List.mem_singleton.mp z];trivial
theorem Gr {l:List Mg} (h:l.length≤400):dJ (bZ l) (.tuple [.tuple [.str "none"]])=some (.fz (bZ (l++[.none]))):=by
 have:=jg (l.map mG) ([Mg.none].map mG) (by rw[List.length_map];show _+1≤_;omega)
 rw[←List.map_append] at this
 exact this
theorem wj {α:Type} {f:α→D} {l:List α} {i:Nat} {a:α} (h:l[i]? =some a):bC (.tuple (l.map f)) (nd i)=some (.fz (f a)):=vY (by rw[List.getElem?_map,h];rfl)
noncomputable abbrev eC (b:Gb) (w:Nat) (x n:Int) (ls:List (List Mg)) (cs:List Ch) (wt:Int) (o7 o8 o9 o10:Option PV):bb:=[some (.fz (gD b)),some (.fz (nd w)),some (.fz (.int x)),some (.fz (.int n)),some (.fz (.tuple (ls.map bZ))),some (.fz (.tuple (cs.map cT))),some (.fz (.int wt)),o7,o8,o9,o10]
theorem yj {n:Nat} {b:Gb} (hF:GF n b) (hn:n≤8) (w:Nat) {x:Int} (hx:0≤x):∃b',GF (n+2) b'∧cZ [gD b,nd w,.int x]= .ok (.fz (gD b')):=by
 obtain⟨rv,e,b',hb',rfl⟩:=jD (ds:=[gD b,nd w,.int x]) (ρ:=[some (.fz (gD b)),some (.fz (nd w)),some (.fz (.int x)),none,none,none,none,none,none,none,none]) (n:=11) (g:=gA) (T:=fun v=>∃b',GF (n+2) b'∧v= .fz (gD b')) rfl (by
  obtain⟨ll,lm,cl,cm⟩:=hF
  obtain⟨kn,ls,cs,wt⟩:=b
  have p19:=Df
  generalize (10:Int)^19=big at p19
  unfold gA
  refine cK (pv:= .fz (gD ⟨kn,ls,cs,wt⟩)) (ρ3:=eC ⟨kn,ls,cs,wt⟩ w x kn ls cs wt none none none none) (ar rfl) rfl rfl ?_
  generalize (⟨kn,ls,cs,wt⟩:Gb)=b0
  refine ld (fun r=>∃n1,r=eC b0 w x n1 ls cs wt none none none none) (eO (iu w 0 rfl) (fun _=> ?_) fun _=>cN ⟨kn,rfl⟩) ?_
  ·have m5:bf (.int x) (.int 5)=some (.fz (.int (x % 5))):=bU (by decide)
   have b5:0≤x % 5∧x % 5<5:=⟨Int.emod_nonneg _ (by decide),Int.emod_lt_of_pos _ (by decide)⟩
   generalize x % 5=y at m5 b5
   have a1:dJ (.int kn) (.int 1)=some (.fz (.int (kn+1))):=rfl
   obtain⟨t,i2⟩:∃t:Int,bC (.list [.int 0,.int 6,.int (kn+1),.int (kn - 1),.int big]) (.int y)=some (.fz (.int t)):=by
    obtain⟨j,rfl⟩:∃j:Nat,y=(j:Int):=⟨y.toNat,by omega⟩
    match j,b5 with
    |0,_=>exact⟨0,jc (i:=0) rfl⟩
    |1,_=>exact⟨6,jc (i:=1) rfl⟩
    |2,_=>exact⟨kn+1,jc (i:=2) rfl⟩
    |3,_=>exact⟨kn - 1,jc (i:=3) rfl⟩
    |4,_=>exact⟨big,jc (i:=4) rfl⟩
    |j+5,h=>omega
   exact dn (pv:= .fz (.int t)) (a8 (rv:= .fz (.int t)) (fE (ds:=[.int 0,.int 6,.int (kn+1),.int (kn - 1),.int big]) (ao aU (ao aU (ao (a8 (rv:= .fz (.int (kn+1))) (ar rfl) aU rfl rfl a1) (ao (a8 (rv:= .fz (.int (kn - 1))) (ar rfl) aU rfl rfl (o3 _ _)) (ao (a8 (rv:= .fz (.int big)) aU aU rfl rfl p19) aF))))) rfl (Nat.le_of_ble_eq_true rfl)) (a8 (rv:= .fz (.int y)) (ar rfl) aU rfl rfl m5) rfl rfl i2) rfl ⟨t,rfl⟩
  rintro _ ⟨n1,rfl⟩
  refine ld (fun r=>∃w1,r=eC b0 w x n1 ls cs w1 none none none none) (eO (iu w 1 rfl) (fun _=> ?_) fun _=>cN ⟨wt,rfl⟩) ?_
  ·have m5:bf (.int x) (.int 4)=some (.fz (.int (x % 4))):=bU (by decide)
   have b5:0≤x % 4∧x % 4<4:=⟨Int.emod_nonneg _ (by decide),Int.emod_lt_of_pos _ (by decide)⟩
   generalize x % 4=y at m5 b5
   obtain⟨t,i2⟩:∃t:Int,bC (.list [.int 0,.int 5,.int (-1),.int big]) (.int y)=some (.fz (.int t)):=by
    obtain⟨j,rfl⟩:∃j:Nat,y=(j:Int):=⟨y.toNat,by omega⟩
    match j,b5 with
    |0,_=>exact⟨0,jc (i:=0) rfl⟩
    |1,_=>exact⟨5,jc (i:=1) rfl⟩
    |2,_=>exact⟨-1,jc (i:=2) rfl⟩
    |3,_=>exact⟨big,jc (i:=3) rfl⟩
    |j+4,h=>omega
   exact dn (pv:= .fz (.int t)) (a8 (rv:= .fz (.int t)) (fE (ds:=[.int 0,.int 5,.int (-1),.int big]) (ao aU (ao aU (ao (qk (rv:= .fz (.int (-1))) aU rfl rfl) (ao (a8 (rv:= .fz (.int big)) aU aU rfl rfl p19) aF)))) rfl (Nat.le_of_ble_eq_true rfl)) (a8 (rv:= .fz (.int y)) (ar rfl) aU rfl rfl m5) rfl rfl i2) rfl ⟨t,rfl⟩
  rintro _ ⟨w1,rfl⟩
  have fl0:LF (3+n) (5+n) ls:=⟨ll,lm⟩
  have ll:ls.length≤3+n:=ll
  refine ld (fun r=>∃l1 o7,LF (3+n) (6+n) l1∧r=eC b0 w x n1 l1 cs w1 o7 none none none) ?_ ?_
  ·have e1:∀q:1<ls.length,∃l0 l1,ls[0]? =some l0∧ls[1]? =some l1:=fun q=>⟨_,_,List.getElem?_eq_getElem (by omega),List.getElem?_eq_getElem q⟩
   refine eO (b:=decide (w=13)&&(decide ((1:Int)<(ls.length:Int))&&decide ((0:Int)<((ls.headD []).length:Int)))) (gp (iu w 13 rfl) fun _=>gp (aX (bR (nc rfl) aU rfl rfl (kG _ _)) rfl) fun q=> ?_) (fun q=> ?_) fun _=>cN ⟨ls,none,fl0.up (Nat.le_refl _) (by omega),rfl⟩
   ·obtain⟨l0,l1,h0,h1⟩:=e1 (by have:=of_decide_eq_true q;omega)
    have hd:ls.headD []=l0:=by rw[List.headD_eq_head?_getD,List.head?_eq_getElem?,h0];rfl
    rw[hd]
    exact aX (bR (dA (rv:= .fz (.int (l0.length:Int))) (ao (a8 (rv:= .fz (bZ l0)) (ar rfl) aU rfl rfl (wj (i:=0) h0)) aF) rfl (by
     show some (RV.fz (.int ((l0.map mG).length:Int)))=_
     rw[List.length_map])) aU rfl rfl (kG _ _)) rfl
   ·rw[Bool.and_eq_true,Bool.and_eq_true,decide_eq_true_iff,decide_eq_true_iff,decide_eq_true_iff] at q
    obtain⟨_,q1,q2⟩:=q
    obtain⟨l0,l1,h0,h1⟩:=e1 (by omega)
    have hd:ls.headD []=l0:=by rw[List.headD_eq_head?_getD,List.head?_eq_getElem?,h0];rfl
    rw[hd] at q2
    have f0:=lm l0 (List.mem_of_getElem? h0)
    have f1:=lm l1 (List.mem_of_getElem? h1)
    have le0:bV [bZ l0]=some (.fz (.int (l0.length:Int))):=by
     show some (RV.fz (.int ((l0.map mG).length:Int)))=_
     rw[List.length_map]
    have ml:bf (.int x) (.int (l0.length:Int))=some (.fz (.int (x % (l0.length:Int)))):=bU (by omega)
    have bl:0≤x % (l0.length:Int)∧x % (l0.length:Int)<(l0.length:Int):=⟨Int.emod_nonneg _ (by omega),Int.emod_lt_of_pos _ (by omega)⟩
    generalize x % (l0.length:Int)=xa at ml bl
    obtain⟨a,rfl⟩:∃a:Nat,xa=(a:Int):=⟨xa.toNat,by omega⟩
    have g1:aQ [bZ l0,nd a,mG .below]=_:=oK mG l0 (by omega) a .below
    have g2:=oK bZ ls (by omega) 0 (fR l0 a .below)
    have ln2:(fR ls 0 (fR l0 a .below)).length=ls.length:=jV (by omega)
    have g3:=oK bZ (fR ls 0 (fR l0 a .below)) (by omega) 1 (l1++[.none])
    have i0:bC (.tuple (ls.map bZ)) (.int 0)=_:=wj (i:=0) (f:=bZ) h0
    have i1:bC (.tuple (ls.map bZ)) (.int 1)=_:=wj (i:=1) (f:=bZ) h1
    have ad:=Gr (l:=l1) (by omega)
    have fin:=((fl0.up (Nat.le_refl _) (by omega:5+n≤6+n)).put (p:=0) (by omega) (l:=fR l0 a .below) (by rw[jV (by omega)];omega) (yB f0.2 trivial)).put (p:=1) (by omega) (l:=l1++[.none]) (by rw[List.length_append];show _+1≤_;omega) (zS f1.2)
    have g1:aQ [bZ l0,nd a,mG .below]= .ok (.fz (bZ (fR l0 a .below))):=g1
    clear f0 f1 h0 h1 hd e1 ln2
    generalize fR (fR ls 0 (fR l0 a .below)) 1 (l1++[.none])=L3 at g3 fin
    generalize fR ls 0 (fR l0 a .below)=L2 at g2 g3
    generalize fR l0 a .below=r0 at g1 g2
    generalize l1++[.none]=r1 at ad g3
    refine ej (dn (pv:= .fz (bZ r0)) (eN (ds:=[bZ l0,nd a,mG .below]) (rv:= .fz (bZ r0)) (ao (a8 (rv:= .fz (bZ l0)) (ar rfl) aU rfl rfl i0) (ao (a8 (rv:= .fz (nd a)) (ar rfl) (dA (rv:= .fz (.int (l0.length:Int))) (ao (a8 (rv:= .fz (bZ l0)) (ar rfl) aU rfl rfl i0) aF) rfl le0) rfl rfl ml) (ao (da (ds:=[.str "below"]) (ao aU aF) rfl (Nat.le_of_ble_eq_true rfl)) aF))) rfl rfl g1) rfl ?_)
    show Go (bq _ _ (eC b0 w x n1 ls cs w1 (some (.fz (bZ r0))) none none none)) _ _ _
    exact dn (pv:= .fz (.tuple (L3.map bZ))) (eN (ds:=[.tuple (L2.map bZ),nd 1,bZ r1]) (rv:= .fz (.tuple (L3.map bZ))) (ao (eN (ds:=[.tuple (ls.map bZ),nd 0,bZ r0]) (rv:= .fz (.tuple (L2.map bZ))) (ao (ar rfl) (ao aU (ao (ar rfl) aF))) rfl rfl g2) (ao aU (ao (a8 (rv:= .fz (bZ r1)) (a8 (rv:= .fz (bZ l1)) (ar rfl) aU rfl rfl i1) (da (ds:=[.tuple [.str "none"]]) (ao (da (ds:=[.str "none"]) (ao aU aF) rfl (Nat.le_of_ble_eq_true rfl)) aF) rfl (Nat.le_of_ble_eq_true rfl)) rfl rfl ad) aF))) rfl rfl g3) rfl ⟨L3,some (.fz (bZ r0)),fin,rfl⟩
  rintro _ ⟨l1,o7,fl1,rfl⟩
  have cF:CsF n cs:=⟨cl,cm⟩
  refine ld (fun r=>∃c1,CsF (n+1) c1∧r=eC b0 w x n1 l1 c1 w1 o7 none none none) ?_ ?_
  ·refine eO (b:=decide ((5:Int)<(w:Int))&&decide ((w:Int)<13)) (aX (gz (dy:=nd w) aU (ar rfl) aU rfl rfl rfl (gI _ _) fun _=>gI _ _) rfl) (fun q=> ?_) fun _=>cN ⟨cs,⟨by have:=cF.cl;omega,fun c hc=>(cF.cm c hc).up⟩,rfl⟩
   rw[Bool.and_eq_true,decide_eq_true_iff,decide_eq_true_iff] at q
   obtain⟨v,rfl⟩:∃v:Nat,w=v+6:=⟨w - 6,by omega⟩
   have m7:bf (.int n1) (.int 7)=some (.fz (.int (n1 % 7))):=bU (by decide)
   have mx:jE [.int 1,.int (n1 % 7)]=some (.fz (.int (if n1 % 7>1 then n1 % 7 else 1))):=rfl
   have mp:(1:Int)≤if n1 % 7>1 then n1 % 7 else 1:=by split<;>omega
   generalize (if n1 % 7>1 then n1 % 7 else 1)=ky at mx mp
   obtain⟨c1,hc1,ec⟩:=AL cF (by omega) mp v hx
   have sb:jG (nd (v+6)) (.int 6)=some (.fz (nd v)):=by
    rw[o3]
    congr 3
    omega
   exact dn (pv:= .fz (.tuple (c1.map cT))) (eN (ds:=[.tuple (cs.map cT),.int ky,nd v,.int x]) (rv:= .fz (.tuple (c1.map cT))) (ao (ar rfl) (ao (dA (rv:= .fz (.int ky)) (ao aU (ao (a8 (rv:= .fz (.int (n1 % 7))) (ar rfl) aU rfl rfl m7) aF)) rfl mx) (ao (a8 (rv:= .fz (nd v)) (ar rfl) aU rfl rfl sb) (ao (ar rfl) aF)))) rfl rfl ec) rfl ⟨c1,hc1,rfl⟩
  rintro _ ⟨c1,hc1,rfl⟩
  have l1l:=fl1.ll
  refine ld (fun r=>∃x2 l2 o8 o9 o10,LF (4+n) (7+n) l2∧r=eC b0 w x2 n1 l2 c1 w1 o7 o8 o9 o10) ?_ ?_
  ·refine eO (b:=(decide ((1:Int)<(w:Int))&&decide ((w:Int)<6))&&decide ((0:Int)<(l1.length:Int))) (gp (aX (gz (dy:=nd w) aU (ar rfl) aU rfl rfl rfl (gI _ _) fun _=>gI _ _) rfl) fun _=>aX (bR (nc rfl) aU rfl rfl (kG _ _)) rfl) (fun q=> ?_) fun _=>cN ⟨x,l1,none,none,none,fl1.up (by omega) (by omega),rfl⟩
   rw[Bool.and_eq_true,decide_eq_true_iff] at q
   have q:=q.2
   have ml:bf (.int x) (.int (l1.length:Int))=some (.fz (.int (x % (l1.length:Int)))):=bU (by omega)
   have bl:0≤x % (l1.length:Int)∧x % (l1.length:Int)<(l1.length:Int):=⟨Int.emod_nonneg _ (by omega),Int.emod_lt_of_pos _ (by omega)⟩
   have dl:cy (.int x) (.int (l1.length:Int))=some (.fz (.int (x/(l1.length:Int)))):=dL ⟨by omega,by omega⟩
   have nl:0≤x/(l1.length:Int):=Int.ediv_nonneg hx (by omega)
   generalize x/(l1.length:Int)=y at dl nl
   generalize x % (l1.length:Int)=xa at ml bl
   obtain⟨a,rfl⟩:∃a:Nat,xa=(a:Int):=⟨xa.toNat,by omega⟩
   have ha:a<l1.length:=by omega
   obtain⟨row,hrow⟩:∃row,l1[a]? =some row:=⟨_,List.getElem?_eq_getElem ha⟩
   have fr:=fl1.lm row (List.mem_of_getElem? hrow)
   refine cK (pv:= .fz (nd a)) (ρ3:=eC b0 w x n1 l1 c1 w1 o7 (some (.fz (nd a))) none none) (a8 (rv:= .fz (nd a)) (ar rfl) (nc rfl) rfl rfl ml) rfl rfl ?_
   refine cK (pv:= .fz (.int y)) (ρ3:=eC b0 w y n1 l1 c1 w1 o7 (some (.fz (nd a))) none none) (a8 (rv:= .fz (.int y)) (ar rfl) (nc rfl) rfl rfl dl) rfl rfl ?_
   refine cK (pv:= .fz (bZ row)) (ρ3:=eC b0 w y n1 l1 c1 w1 o7 (some (.fz (nd a))) (some (.fz (bZ row))) none) (a8 (rv:= .fz (bZ row)) (ar rfl) (ar rfl) rfl rfl (wj hrow)) rfl rfl ?_
   have m2:bf (.int y) (.int 2)=some (.fz (.int (y % 2))):=bU (by decide)
   have b2:0≤y % 2∧y % 2<2:=⟨Int.emod_nonneg _ (by decide),Int.emod_lt_of_pos _ (by decide)⟩
   refine ld (fun r=>∃l2,LF (4+n) (6+n) l2∧(w≠2→l2=l1)∧r=eC b0 w y n1 l2 c1 w1 o7 (some (.fz (nd a))) (some (.fz (bZ row))) none) (eO (iu w 2 rfl) (fun q2=> ?_) fun _=>cN ⟨l1,fl1.up (by omega) (by omega),fun _=>rfl,rfl⟩) ?_
   ·have k1:=vh (l1.map bZ) a
    have k2:=li (l1.map bZ) (a+1)
    rw[←List.map_take] at k1
    rw[←List.map_drop] at k2
    have k3:=jg ((l1.take a).map bZ) ((l1.drop (a+1)).map bZ) (by rw[List.length_map,List.length_map,List.length_take,List.length_drop];omega)
    rw[←List.map_append] at k3
    have k4:=jg (l1.map bZ) ([row].map bZ) (by rw[List.length_map];show _+1≤_;omega)
    rw[←List.map_append] at k4
    generalize y % 2=z at m2 b2
    obtain⟨l2,hl2,i2⟩:∃l2,LF (4+n) (6+n) l2∧bC (.list [.tuple ((l1.take a++l1.drop (a+1)).map bZ),.tuple ((l1++[row]).map bZ)]) (.int z)=some (.fz (.tuple (l2.map bZ))):=by
     obtain⟨j,rfl⟩:∃j:Nat,z=(j:Int):=⟨z.toNat,by omega⟩
     match j,b2 with
     |0,_=>
      refine⟨l1.take a++l1.drop (a+1),⟨by rw[List.length_append,List.length_take,List.length_drop];omega,fun l hl=> ?_⟩,jc (i:=0) rfl⟩
      rcases List.mem_append.mp hl with z|z
      ·exact fl1.lm l (List.mem_of_mem_take z)
      ·exact fl1.lm l (List.mem_of_mem_drop z)
     |1,_=>
      refine⟨l1++[row],⟨by rw[List.length_append,List.length_singleton];omega,fun l hl=> ?_⟩,jc (i:=1) rfl⟩
      rcases List.mem_append.mp hl with z|z
      ·exact fl1.lm l z
      ·rw[List.mem_singleton.mp z];exact fr
     |j+2,h=>omega
    exact dn (pv:= .fz (.tuple (l2.map bZ))) (a8 (rv:= .fz (.tuple (l2.map bZ))) (fE (ds:=[.tuple ((l1.take a++l1.drop (a+1)).map bZ),.tuple ((l1++[row]).map bZ)]) (ao (a8 (rv:= .fz (.tuple ((l1.take a++l1.drop (a+1)).map bZ))) (iV (rv:= .fz (.tuple ((l1.take a).map bZ))) (ar rfl) eP (dR (ar rfl) rfl) rfl k1) (iV (rv:= .fz (.tuple ((l1.drop (a+1)).map bZ))) (ar rfl) (dR (a8 (rv:= .fz (nd (a+1))) (ar rfl) aU rfl rfl (HI a)) rfl) eP rfl k2) rfl rfl k3) (ao (a8 (rv:= .fz (.tuple ((l1++[row]).map bZ))) (ar rfl) (da (ds:=[bZ row]) (ao (ar rfl) aF) rfl (Nat.le_of_ble_eq_true rfl)) rfl rfl k4) aF)) rfl (Nat.le_of_ble_eq_true rfl)) (a8 (rv:= .fz (.int z)) (ar rfl) aU rfl rfl m2) rfl rfl i2) rfl ⟨l2,hl2,fun h=>absurd (of_decide_eq_true q2) h,rfl⟩
   rintro _ ⟨l2,fl2,e2,rfl⟩
   refine ld (fun r=>∃l3,LF (4+n) (7+n) l3∧(3<w→l3=l1)∧r=eC b0 w y n1 l3 c1 w1 o7 (some (.fz (nd a))) (some (.fz (bZ row))) none) (eO (iu w 3 rfl) (fun q3=> ?_) fun _=>cN ⟨l2,fl2.up (Nat.le_refl _) (by omega),fun h=>e2 (by omega),rfl⟩) ?_
   ·have q3:=of_decide_eq_true q3
    rw[e2 (by omega)]
    have k1:=li (row.map mG) 1
    rw[←List.map_drop] at k1
    have k2:=Gr (l:=row) (by omega)
    generalize y % 2=z at m2 b2
    obtain⟨r2,h1,h2,i2⟩:∃r2:List Mg,r2.length≤7+n∧(∀m∈r2,MF m)∧bC (.list [bZ (row.drop 1),bZ (row++[.none])]) (.int z)=some (.fz (bZ r2)):=by
     obtain⟨j,rfl⟩:∃j:Nat,z=(j:Int):=⟨z.toNat,by omega⟩
     match j,b2 with
     |0,_=>exact⟨row.drop 1,by rw[List.length_drop];omega,fun m hm=>fr.2 m (List.mem_of_mem_drop hm),jc (i:=0) rfl⟩
     |1,_=>exact⟨row++[.none],by rw[List.length_append];show _+1≤_;omega,zS fr.2,jc (i:=1) rfl⟩
     |j+2,h=>omega
    have g2:=oK bZ l1 (by omega) a r2
    have fin:=(fl1.up (by omega:3+n≤4+n) (by omega:6+n≤7+n)).put ha h1 h2
    generalize fR l1 a r2=L3 at g2 fin
    exact dn (pv:= .fz (.tuple (L3.map bZ))) (eN (ds:=[.tuple (l1.map bZ),nd a,bZ r2]) (rv:= .fz (.tuple (L3.map bZ))) (ao (ar rfl) (ao (ar rfl) (ao (a8 (rv:= .fz (bZ r2)) (fE (ds:=[bZ (row.drop 1),bZ (row++[.none])]) (ao (iV (rv:= .fz (bZ (row.drop 1))) (ar rfl) (dR aU rfl) eP rfl k1) (ao (a8 (rv:= .fz (bZ (row++[.none]))) (ar rfl) (da (ds:=[.tuple [.str "none"]]) (ao (da (ds:=[.str "none"]) (ao aU aF) rfl (Nat.le_of_ble_eq_true rfl)) aF) rfl (Nat.le_of_ble_eq_true rfl)) rfl rfl k2) aF)) rfl (Nat.le_of_ble_eq_true rfl)) (a8 (rv:= .fz (.int z)) (ar rfl) aU rfl rfl m2) rfl rfl i2) aF))) rfl rfl g2) rfl ⟨L3,fin,fun h=>by omega,rfl⟩
   rintro _ ⟨l3,fl3,e3,rfl⟩
   refine eO (b:=decide ((3:Int)<(w:Int))&&decide ((0:Int)<(row.length:Int))) (gp (aX (bR (ar rfl) aU rfl rfl (kG _ _)) rfl) fun _=>aX (bR (nc (f:=mG) rfl) aU rfl rfl (kG _ _)) rfl) (fun q=> ?_) fun _=>cN ⟨y,l3,some (.fz (nd a)),some (.fz (bZ row)),none,fl3,rfl⟩
   rw[Bool.and_eq_true,decide_eq_true_iff,decide_eq_true_iff] at q
   rw[e3 (by omega)]
   have mr:bf (.int y) (.int (row.length:Int))=some (.fz (.int (y % (row.length:Int)))):=bU (by omega)
   have br:0≤y % (row.length:Int)∧y % (row.length:Int)<(row.length:Int):=⟨Int.emod_nonneg _ (by omega),Int.emod_lt_of_pos _ (by omega)⟩
   have dr:cy (.int y) (.int (row.length:Int))=some (.fz (.int (y/(row.length:Int)))):=dL ⟨by omega,by omega⟩
   have nr:0≤y/(row.length:Int):=Int.ediv_nonneg nl (by omega)
   obtain⟨m,hm,em⟩:=pz (nL:=(l1.length:Int)) nr
   generalize y/(row.length:Int)=u at dr em
   generalize y % (row.length:Int)=xb at mr br
   obtain⟨p,rfl⟩:∃p:Nat,xb=(p:Int):=⟨xb.toNat,by omega⟩
   have g1:aQ [bZ row,nd p,mG m]=_:=oK mG row (by omega) p m
   have g2:=oK bZ l1 (by omega) a (fR row p m)
   have g1:aQ [bZ row,nd p,mG m]= .ok (.fz (bZ (fR row p m))):=g1
   have fin:=(fl1.up (by omega:3+n≤4+n) (by omega:6+n≤7+n)).put ha (l:=fR row p m) (by rw[jV (by omega)];omega) (yB fr.2 hm)
   generalize fR l1 a (fR row p m)=L3 at g2 fin
   generalize fR row p m=r0 at g1 g2
   refine ej (dn (pv:= .fz (mG m)) (eN (ds:=[.int u,.int (l1.length:Int)]) (rv:= .fz (mG m)) (ao (a8 (rv:= .fz (.int u)) (ar rfl) (nc (f:=mG) rfl) rfl rfl dr) (ao (nc rfl) aF)) rfl rfl em) rfl ?_)
   show Go (bq _ _ (eC b0 w y n1 l1 c1 w1 o7 (some (.fz (nd a))) (some (.fz (bZ row))) (some (.fz (mG m))))) _ _ _
   exact dn (pv:= .fz (.tuple (L3.map bZ))) (eN (ds:=[.tuple (l1.map bZ),nd a,bZ r0]) (rv:= .fz (.tuple (L3.map bZ))) (ao (ar rfl) (ao (ar rfl) (ao (eN (ds:=[bZ row,nd p,mG m]) (rv:= .fz (bZ r0)) (ao (ar rfl) (ao (a8 (rv:= .fz (nd p)) (ar rfl) (nc (f:=mG) rfl) rfl rfl mr) (ao (ar rfl) aF))) rfl rfl g1) aF))) rfl rfl g2) rfl ⟨y,L3,some (.fz (nd a)),some (.fz (bZ row)),some (.fz (mG m)),fin,rfl⟩
  rintro _ ⟨x2,l2,o8,o9,o10,fl2,rfl⟩
  have:=fl2.ll
  exact cb (pv:= .fz (gD ⟨n1,l2,c1,w1⟩)) (da (ds:=[.int n1,.tuple (l2.map bZ),.tuple (c1.map cT),.int w1]) (ao (ar rfl) (ao (ar rfl) (ao (ar rfl) (ao (ar rfl) aF)))) rfl (Nat.le_of_ble_eq_true rfl)) rfl ⟨⟨n1,l2,c1,w1⟩,⟨by show l2.length≤_;omega,fun l hl=>⟨by have:=(fl2.lm l hl).1;omega,(fl2.lm l hl).2⟩,by have:=hc1.cl;show c1.length≤_;omega,fun c hc=>(hc1.cm c hc).up⟩,rfl⟩)
 exact⟨b',hb',e⟩
noncomputable def yy:Mn→Mg
 | .letter c=> .letter [97+c]
 | .layer n=> .layer n
 | .tap c n=> .tap [97+c] n
 | .once n=> .once n
 | .none=> .none
 | .below=> .below
noncomputable def yr (c:List Nat×Nat):Ch:=(c.1.map fun k:Nat=>(k:Int),[97+c.2])
noncomputable def tm (b:Bd):Gb:=⟨b.n,b.ls.map fun l=>l.map yy,b.cs.map yr,b.wt⟩
theorem Fk (m:Mn):mG (yy m)=mD m:=by cases m<;>rfl
theorem Gj (l:List Mn):bZ (l.map yy)=xj l:=by
 unfold bZ xj
 rw[List.map_map]
 congr 1
 exact List.map_congr_left fun m _=>Fk m
theorem Fs (c:List Nat×Nat):cT (yr c)=uK c:=by
 show PyData.tuple [.tuple ((c.1.map fun k:Nat=>(k:Int)).map PyData.int),ef [97+c.2]]= .tuple [.tuple (c.1.map nd),.str (A8 c.2)]
 rw[List.map_map]
 rfl
theorem Gs (b:Bd):gD (tm b)=bD b:=by
 show PyData.tuple [.int b.n,.tuple ((b.ls.map fun l=>l.map yy).map bZ),.tuple ((b.cs.map yr).map cT),.int b.wt]=_
 rw[List.map_map,List.map_map]
 unfold bD
 rw[show b.ls.map (bZ∘fun l=>l.map yy)=b.ls.map xj from List.map_congr_left fun l _=>Gj l,show b.cs.map (cT∘yr)=b.cs.map uK from List.map_congr_left fun c _=>Fs c]
theorem uP {c:Nat} (h:c<26):kA [97+c]=true:=by
 show(decide (((1:Nat):Int)=1)&&(CD (97+c)&&true))=true
 have:CD (97+c)=true:=by
  show(decide (97≤97+c)&&decide (97+c≤122))=true
  rw[decide_eq_true (by omega),decide_eq_true (by omega)];rfl
 rw[this];rfl
theorem zA {c:Nat} (h:c<26):Ar [97+c]:=⟨by show 1≤10;decide,fun x hx=>by rw[List.mem_singleton.mp hx];omega⟩
theorem F8 {L nL:Int} {m:Mn} (h:VM L nL m):MF (yy m):=by
 cases m with
 |letter c=>exact zA h
 |tap c n=>exact zA h.1
 |layer n=>trivial
 |once n=>trivial
 |none=>trivial
 |below=>trivial
theorem B4 {L nL:Int} {m:Mn} (h:VM L nL m):oH (yy m) L nL=true:=by
 cases m with
 |letter c=>
  show(!(true&& !kA [97+c])&&_)=true
  rw[uP h];rfl
 |tap c n=>
  show(!(true&& !kA [97+c])&&(!true||(decide (1≤n)&&decide (n<nL))))=true
  rw[uP h.1,decide_eq_true h.2.1,decide_eq_true h.2.2];rfl
 |layer n=>
  show(true&&(!true||(decide (1≤n)&&decide (n<nL))))=true
  rw[decide_eq_true h.1,decide_eq_true h.2];rfl
 |once n=>
  show(true&&(!true||(decide (1≤n)&&decide (n<nL))))=true
  rw[decide_eq_true h.1,decide_eq_true h.2];rfl
 |none=>rfl
 |below=>
  show(!decide (L=0))=true
  rw[decide_eq_false h];rfl
theorem wx:∀{a c:List Nat},(a.map fun k:Nat=>(k:Int))=c.map (fun k:Nat=>(k:Int))→a=c
 |[],[],_=>rfl
 |[],_::_,h=>by cases h
 |_::_,[],h=>by cases h
 |x::r,y::t,h=>by
  rw[List.map_cons,List.map_cons,List.cons.injEq] at h
  rw[wx h.2,show x=y by omega]
section
variable {b:Bd} (hb:VB b)
include hb
theorem AQ {i:Nat} (hi:i<b.ls.length):∃l,b.ls[i]? =some l∧bW (tm b) i=l.map yy∧(l.length:Int)=b.n∧∀m∈l,VM i (b.ls.length:Int) m:=by
 refine⟨b.ls[i],List.getElem?_eq_getElem hi,?_,hb.vl i _ (List.getElem?_eq_getElem hi)⟩
 show(b.ls.map fun l=>l.map yy).getD i []=_
 rw[List.getD_eq_getElem?_getD,List.getElem?_map,List.getElem?_eq_getElem hi];rfl
theorem DA {c:List Nat×Nat} (h:VC (b.ls.headD []) c):c.1.length≤5:=by
 obtain⟨l,e,_,h1,_⟩:=AQ hb (i:=0) hb.l1
 have hd:b.ls.headD []=l:=by rw[List.headD_eq_head?_getD,List.head?_eq_getElem?,e];rfl
 rw[hd] at h
 have:=Ck h.2.1 (n:=l.length) fun k hm=>by
  have:=h.2.2.1 k hm
  unfold yx at this
  cases q:l[k]? with
  |none=>rw[q] at this;cases this
  |some m=>exact(List.getElem?_eq_some_iff.mp q).1
 have:=hb.n5
 omega
theorem Fx:GF 0 (tm b):=by
 refine⟨?_,fun l hl=> ?_,?_,fun c hc=> ?_⟩
 ·show(b.ls.map fun l=>l.map yy).length≤3
  rw[List.length_map];exact hb.l3
 ·obtain⟨l0,h0,rfl⟩:=List.mem_map.mp hl
  obtain⟨i,hi⟩:=List.mem_iff_getElem?.mp h0
  obtain⟨v1,v2⟩:=hb.vl i l0 hi
  refine⟨?_,fun m hm=> ?_⟩
  ·rw[List.length_map]
   have:=hb.n5
   omega
  ·obtain⟨m0,g0,rfl⟩:=List.mem_map.mp hm
   exact F8 (v2 m0 g0)
 ·show(b.cs.map yr).length≤5
  rw[List.length_map]
  have:=hb.c4
  omega
 ·obtain⟨c0,h0,rfl⟩:=List.mem_map.mp hc
  have v:=hb.vc c0 h0
  refine⟨?_,zA v.2.2.2⟩
  show(c0.1.map fun k:Nat=>(k:Int)).length≤5
  rw[List.length_map]
  exact DA hb v
theorem EN {i:Nat} (hi:i<b.ls.length):h8 (tm b) i=none:=by
 obtain⟨l,e,e1,h1,h2⟩:=AQ hb hi
 unfold h8 mH
 rw[e1,List.length_map,if_pos (show(l.length:Int)=(tm b).n from h1),Option.map_eq_none_iff,List.find?_eq_none]
 intro j hj
 have hj:=List.mem_range.mp hj
 unfold mP
 have e3:(bW (tm b) i).getD j .none=yy l[j]:=by
  rw[e1,List.getD_eq_getElem?_getD,List.getElem?_map,List.getElem?_eq_getElem hj];rfl
 have e4:(tm b).ls.length=b.ls.length:=List.length_map ..
 rw[e3,e4,B4 (h2 _ (List.getElem_mem hj))]
 exact Bool.false_ne_true
theorem EW:mz (tm b)=false:=by
 have e4:(tm b).ls.length=b.ls.length:=List.length_map ..
 have e5:(tm b).cs.length=b.cs.length:=List.length_map ..
 obtain⟨n1,n5,l1,l3,_,c4,_,_,w1,w4⟩:=hb
 unfold mz qU rb wq
 rw[e4,e5]
 show(!(decide (1≤b.n)&&decide (b.n≤5))|| !(decide (1≤(b.ls.length:Int))&&decide ((b.ls.length:Int)≤3))||(decide ((b.cs.length:Int)>4)|| !(decide (1≤b.wt)&&decide (b.wt≤4))))=false
 rw[decide_eq_true n1,decide_eq_true n5,decide_eq_true (show(1:Int)≤(b.ls.length:Int) by omega),decide_eq_true (show(b.ls.length:Int)≤3 by omega),decide_eq_false (show¬(b.cs.length:Int)>4 by omega),decide_eq_true w1,decide_eq_true w4]
 rfl
theorem Bq {p:Nat} (hp:p<b.cs.length):uM (tm b) p=false:=by
 have ec:∀q,q<b.cs.length→∃c,b.cs[q]? =some c∧gM (tm b) q=yr c:=fun q hq=>⟨b.cs[q],List.getElem?_eq_getElem hq,by
  show(b.cs.map yr).getD q c0=_
  rw[List.getD_eq_getElem?_getD,List.getElem?_map,List.getElem?_eq_getElem hq];rfl⟩
 obtain⟨c,h1,h2⟩:=ec p hp
 have v:=hb.vc c (List.mem_of_getElem? h1)
 obtain⟨l,e,e1,g1,g2⟩:=AQ hb (i:=0) hb.l1
 have hd:b.ls.headD []=l:=by rw[List.headD_eq_head?_getD,List.head?_eq_getElem?,e];rfl
 rw[hd] at v
 unfold uM BQ oz
 rw[h2,show kA (yr c).2=true from uP v.2.2.2]
 have s1:sm (tm b) (yr c).1=true:=by
  have r1:md (yr c).1=true:=(ly _).mpr (by
   show(c.1.map fun k:Nat=>(k:Int)).Pairwise (·<·)
   rw[List.pairwise_map]
   exact v.2.1.imp fun h=>by omega)
  have l1:(yr c).1.length=c.1.length:=List.length_map ..
  have:=v.1
  unfold sm
  rw[r1,l1,decide_eq_false (by omega),if_neg (show¬((false|| !true)=true) from Bool.false_ne_true),List.all_eq_true]
  intro x hx
  obtain⟨k,hk,rfl⟩:=List.mem_map.mp hx
  have o:=v.2.2.1 k hk
  unfold yx at o
  cases q:l[k]? with
  |none=>rw[q] at o;cases o
  |some m=>
   rw[q] at o
   have kl:=(List.getElem?_eq_some_iff.mp q).1
   unfold pE
   rw[e1]
   show((decide (0≤(k:Int))&&decide ((k:Int)<b.n))&&bL ((l.map yy).getD k .none))=true
   rw[decide_eq_true (by omega),decide_eq_true (by omega),List.getD_eq_getElem?_getD,List.getElem?_map,q]
   cases m with
   |letter c=>rfl
   |_=>cases o
 have o1:(yr c).1∉((tm b).cs.take p).map (·.1):=fun hm=>by
  obtain⟨d,hd,he⟩:=List.mem_map.mp hm
  obtain⟨q,hq⟩:=List.mem_iff_getElem?.mp hd
  have hq1:q<p:=by
   have:=(List.getElem?_eq_some_iff.mp hq).1
   rw[List.length_take] at this
   omega
  rw[List.getElem?_take_of_lt hq1] at hq
  have hq2:(b.cs.map yr)[q]? =some d:=hq
  rw[List.getElem?_map] at hq2
  cases z:b.cs[q]? with
  |none=>rw[z] at hq2;cases hq2
  |some c2=>
   rw[z] at hq2
   cases hq2
   have ne:=List.pairwise_iff_getElem.mp hb.cu q p (by omega) hp hq1
   rw[(List.getElem?_eq_some_iff.mp z).2,(List.getElem?_eq_some_iff.mp h1).2] at ne
   refine ne ?_
   have he:c2.1.map (fun k:Nat=>(k:Int))=c.1.map fun k:Nat=>(k:Int):=he
   exact wx he
 rw[s1,decide_eq_false o1]
 rfl
theorem EJ:jF (tm b)= .none:=y8 (EW hb) (fun j hj=>EN hb (by rwa [show(tm b).ls.length=b.ls.length from List.length_map ..] at hj)) fun j hj=>Bq hb (by rwa [show(tm b).cs.length=b.cs.length from List.length_map ..] at hj)
end
noncomputable def PN (d:D):Prop:=d= .none∨∃i:Nat,d=nd i
theorem DD (b:Gb):jF b= .none∨∃(k:Int) (p q:D),PN p∧PN q∧jF b= .tuple [.int k,p,q]:=by
 unfold jF
 by_cases h:mz b=true
 ·rw[if_pos h];exact .inr ⟨0,.none,.none,.inl rfl,.inl rfl,rfl⟩
 ·rw[if_neg h]
  cases o0 b with
  |some i=>
   refine .inr ⟨0,nd i,(h8 b i).getD .none,.inr ⟨i,rfl⟩,?_,rfl⟩
   unfold h8
   split
   ·cases mH b i with
    |none=>exact .inl rfl
    |some j=>exact .inr ⟨j,rfl⟩
   ·exact .inl rfl
  |none=>
   cases pO b with
   |some p=>exact .inr ⟨1,nd p,.none,.inr ⟨p,rfl⟩,.inl rfl,rfl⟩
   |none=>exact .inl rfl
theorem Ge {k:Int} {p q:D} (hp:PN p) (hq:PN q):mY (.tuple [.int k,p,q]) (.tuple [.int k,p,q])=some (.fz (.bool false)):=by
 have e:∀{d:D},PN d→PyData.eqv d d=true∧PyData.canLay0 d=true∧PyData.depth d=0:=fun{d} h=>by
  rcases h with rfl|⟨i,rfl⟩
  ·exact⟨rfl,rfl,rfl⟩
  ·exact⟨decide_eq_true rfl,rfl,rfl⟩
 obtain⟨a1,a2,a3⟩:=e hp
 obtain⟨b1,b2,b3⟩:=e hq
 show(if(((true&&(PyData.canLay0 p&&(PyData.canLay0 q&&true)))&&decide (max 0 (max (PyData.depth p) (max (PyData.depth q) 0))+1≤64))&&(true&&(PyData.canLay0 p&&(PyData.canLay0 q&&true))))=true then some (RV.fz (.bool (!(decide (k=k)&&(PyData.eqv p p&&(PyData.eqv q q&&true)))))) else none)=_
 rw[a1,a2,a3,b1,b2,b3,decide_eq_true (rfl:k=k)]
 rfl
theorem zt (i:Int):dk [.int i]= .ok (.fz (.bool true)):=by
 refine ey (ρ:=[some (.fz (.int i))]) rfl ?_
 unfold jB
 walk_at "go"
 rfl
theorem zB {k:Int} {p q:D} (hp:PN p) (hq:PN q):jb (dW (gN 0) db (Ci (az tF (ag 0) (pC .none)) (bx dk 1 (aa (ag 0) am))) [.int k,p,q] [none] [])= .ok [.bool true,.bool true,.bool true]:=by
 have h:∀d∈[.int k,p,q],(∃i:Int,d= .int i)∨d= .none:=fun d hd=>by
  simp only[List.mem_cons,List.not_mem_nil,or_false] at hd
  rcases hd with rfl|rfl|rfl
  ·exact .inl ⟨k,rfl⟩
  ·rcases hp with h|⟨i,h⟩
   ·exact .inr h
   ·exact .inl ⟨_,h⟩
  ·rcases hq with h|⟨i,h⟩
   ·exact .inr h
   ·exact .inl ⟨_,h⟩
 have:=qK (f:=id) (g:=fun _=> .bool true) (gt:=gN 0) (fe:=Ci (az tF (ag 0) (pC .none)) (bx dk 1 (aa (ag 0) am))) (ρ0:=[none]) (fun ρ=>∃o,ρ=[o]) [.int k,p,q] (by show 3≤_;decide) ⟨none,rfl⟩ (by
  rintro d hd ρ ⟨o,rfl⟩
  rcases h d hd with⟨i,rfl⟩|rfl
  ·have ew:=zt i
   exact⟨_,pK (x:= .bool true) rfl rfl (o6 (a:=false) (b:=true) (aX (bR (b:=false) (ar rfl) aU rfl rfl rfl) rfl) fun _=>fZ (ao (ar rfl) aF) rfl rfl ew) rfl rfl,⟨_,rfl⟩⟩
  ·exact⟨_,pK (x:= .bool true) rfl rfl (o6 (a:=true) (b:=true) (aX (bR (b:=true) (ar rfl) aU rfl rfl rfl) rfl) fun q=>by cases q) rfl rfl,⟨_,rfl⟩⟩)
 exact this
noncomputable def og:List Nat:=[0,1,2,3,4,4,4,5,5,6,7,8,9,10,10,11,11,12,13]
theorem main (ns:List Int) (hns:ns.length≤63):F_law [.list (ns.map .int)]= .ok (.fz (.bool true)):=by
 obtain⟨b0,hb0,e0⟩:=D4 ns hns 7 (by decide) (by decide)
 rw[←Gs] at e0
 have F0:=Fx hb0
 have tg:=AR F0 (by decide)
 rw[EJ hb0] at tg
 generalize tm b0=g0 at*
 obtain⟨c9,e9⟩:=km ns 0 (by decide) hns
 obtain⟨v9,hv9,ev9⟩:=jC c9 30 (by decide) (by decide)
 have m3:bf (.int v9) (.int 4)=some (.fz (.int (v9 % 4))):=bU (by decide)
 have b3:0≤v9 % 4∧v9 % 4<4:=⟨Int.emod_nonneg _ (by decide),Int.emod_lt_of_pos _ (by decide)⟩
 generalize v9 % 4=q at m3 b3
 have rn:fK [.int q]=some (eS (List.range q.toNat)):=jA (by omega) (by omega)
 refine ey (ρ:=[some (.fz (.list (ns.map .int))),none,none,none,none,none,none,none]) rfl ?_
 unfold Ak
 have hcell:=fun(k:Int) (h:0≤k)=>km ns k h hns
 generalize PyData.list (ns.map PyData.int)=LD at*
 refine cK (pv:= .fz (gD g0)) (ρ3:=[some (.fz LD),some (.fz (gD g0)),none,none,none,none,none,none]) (eN (ds:=[LD,.int 7]) (rv:= .fz (gD g0)) (ao (ar rfl) (ao aU aF)) rfl rfl e0) rfl rfl ?_
 refine cK (pv:= .fz (gD g0)) (ρ3:=[some (.fz LD),some (.fz (gD g0)),some (.fz (gD g0)),none,none,none,none,none]) (ar rfl) rfl rfl ?_
 refine iC (fun i ρ=>∃(B:Gb) (t3 t4 t5:Option PV),ρ=[some (.fz LD),some (.fz (gD g0)),some (.fz (gD B)),t3,t4,t5,none,none]∧GF (2*i) B) (ds:=eS (List.range q.toNat)) (ρ1:=[some (.fz LD),some (.fz (gD g0)),some (.fz (gD g0)),none,none,none,none,none]) (by walk_at "ev") ⟨g0,none,none,none,rfl,F0⟩ ?_ ?_
 ·rintro i d ρ hi ⟨B,t3,t4,t5,rfl,hF⟩
  obtain⟨k,hk,rfl⟩:=gU hi
  obtain⟨hl,e⟩:=List.getElem?_eq_some_iff.mp hk
  rw[List.getElem_range] at e
  subst e
  rw[List.length_range] at hl
  refine⟨_,rfl,?_⟩
  have mu:fH (.int 2) (nd i)=some (.fz (.int (2*(i:Int)))):=gu ⟨by decide,by decide⟩
  obtain⟨c1,k1⟩:=hcell (1+2*(i:Int)) (by omega)
  obtain⟨v1,hv1,u1⟩:=jC c1 (31+(i:Int)) (by omega) (by omega)
  have m6:bf (.int v1) (.int 19)=some (.fz (.int (v1 % 19))):=bU (by decide)
  have b6:0≤v1 % 19∧v1 % 19<19:=⟨Int.emod_nonneg _ (by decide),Int.emod_lt_of_pos _ (by decide)⟩
  generalize v1 % 19=wy at m6 b6
  obtain⟨j,rfl⟩:∃j:Nat,wy=(j:Int):=⟨wy.toNat,by omega⟩
  obtain⟨w,hw⟩:∃w,og[j]? =some w:=⟨_,List.getElem?_eq_getElem (by show j<19;omega)⟩
  have ix:bC (.list (eS og)) (nd j)=some (.fz (nd w)):=jc (by
   show(og.map nd)[j]? =_
   rw[List.getElem?_map,hw];rfl)
  obtain⟨c2,k2⟩:=hcell (2+2*(i:Int)) (by omega)
  obtain⟨v2,hv2,u2⟩:=jC c2 (35+(i:Int)) (by omega) (by omega)
  obtain⟨B',hF',eB⟩:=yj hF (by omega) w hv2
  refine cK (pv:= .ow (eS og)) (ρ3:=[some (.fz LD),some (.fz (gD g0)),some (.fz (gD B)),some (.fz (nd i)),some (.ow (eS og)),t5,none,none]) (fE (ds:=eS og) (by walk_at "ev") rfl (Nat.le_of_ble_eq_true rfl)) rfl rfl ?_
  generalize eS og=WL at*
  refine cK (pv:= .fz (nd w)) (ρ3:=[some (.fz LD),some (.fz (gD g0)),some (.fz (gD B)),some (.fz (nd i)),some (.ow WL),some (.fz (nd w)),none,none]) (a8 (dx:= .list WL) (rv:= .fz (nd w)) (qE rfl) (a8 (rv:= .fz (nd j)) (eN (rv:= .fz (.int v1)) (by walk_at "ev") rfl rfl u1) aU rfl rfl m6) rfl rfl ix) rfl rfl ?_
  exact yG (pv:= .fz (gD B')) (ρ3:=[some (.fz LD),some (.fz (gD g0)),some (.fz (gD B')),some (.fz (nd i)),some (.ow WL),some (.fz (nd w)),none,none]) (eN (ds:=[gD B,nd w,.int v2]) (rv:= .fz (gD B')) (ao (ar rfl) (ao (ar rfl) (ao (eN (rv:= .fz (.int v2)) (by walk_at "ev") rfl rfl u2) aF))) rfl rfl eB) rfl rfl ⟨B',some (.fz (nd i)),some (.ow WL),some (.fz (nd w)),rfl,hF'⟩
 ·rintro ρ ⟨B,t3,t4,t5,rfl,hF⟩
  rw[dZ,List.length_range] at hF
  have t1:=AR hF (by omega)
  have t2:=yc hF (by omega)
  have sh:=DD B
  generalize jF B=dd at*
  refine cK (pv:= .fz dd) (ρ3:=[some (.fz LD),some (.fz (gD g0)),some (.fz (gD B)),t3,t4,t5,some (.fz dd),none]) (eN (ds:=[gD B]) (rv:= .fz dd) (ao (ar rfl) aF) rfl rfl t2) rfl rfl ?_
  refine cK (pv:= .fz dd) (ρ3:=[some (.fz LD),some (.fz (gD g0)),some (.fz (gD B)),t3,t4,t5,some (.fz dd),some (.fz dd)]) (eN (ds:=[gD B]) (rv:= .fz dd) (ao (ar rfl) aF) rfl rfl t1) rfl rfl ?_
  have ne:mY dd dd=some (.fz (.bool false)):=by
   rcases sh with rfl|⟨k,p,q,hp,hq,rfl⟩
   ·rfl
   ·exact Ge hp hq
  refine e8 (b:=false) (aX (bR (dx:=dd) (dy:=dd) (ar rfl) (ar rfl) rfl rfl ne) rfl) (fun q=>by cases q) fun _=>cG ?_
  refine e8 (b:=false) (ρ1:=[some (.fz LD),some (.fz (gD g0)),some (.fz (gD B)),t3,t4,t5,some (.fz dd),some (.fz dd)]) ?_ (fun q=>by cases q) fun _=>cG ?_
  ·rcases sh with rfl|⟨k,p,q,hp,hq,rfl⟩
   ·exact gp (a:=false) (b:=false) (aX (bR (b:=false) (ar rfl) aU rfl rfl rfl) rfl) fun q=>by cases q
   ·exact gp (a:=true) (b:=false) (aX (bR (b:=true) (ar rfl) aU rfl rfl rfl) rfl) fun _=>dY (a:=true) (aX (dA (rv:= .fz (.bool true)) (ao (d8 (ds:=[.int k,p,q]) (cs:=[]) (ka (ar rfl) rfl rfl) rfl (zB hp hq)) aF) rfl rfl) rfl)
  ·exact cb (pv:= .fz (.bool true)) (bR (dx:= .none) (dy:= .none) (eN (ds:=[gD g0]) (rv:= .fz .none) (ao (ar rfl) aF) rfl rfl tg) aU rfl rfl rfl) rfl rfl
noncomputable abbrev F_lawH:FN:=F_law
noncomputable def top (i:Nat):Stmt:=PySem.Challenge.pw_chordbed_k22_whole_the_first_refusal.main.body.getD i (.Pass ⟨0,0,0,0⟩)
noncomputable def fb:Stmt→List Stmt
 | .For _ _ b _ _=>b
 | .If _ b _ _=>b
 |_=>[]
noncomputable def av:Stmt→Expr
 | .Assign _ v _=>v
 |_=> .Name "" ⟨0,0,0,0⟩
noncomputable def ss:Expr→Expr
 | .Subscript _ v _=>v
 |e=>e
noncomputable def sP:Expr→Pos
 | .Subscript _ _ p=>p
 |_=>⟨0,0,0,0⟩
noncomputable def lp:Expr→Pos
 | .List _ p=>p
 |_=>⟨0,0,0,0⟩
noncomputable def iT:Stmt→Expr
 | .If c _ _ _=>c
 |_=> .Name "" ⟨0,0,0,0⟩
noncomputable def fI:Stmt→Expr
 | .For _ i _ _ _=>i
 |_=> .Name "" ⟨0,0,0,0⟩
noncomputable def iP:Stmt→Pos
 | .If _ _ _ p=>p
 |_=>⟨0,0,0,0⟩
noncomputable def aP:Stmt→Pos
 | .Assign _ _ p=>p
 |_=>⟨0,0,0,0⟩
noncomputable def nP:Stmt→Pos
 | .Assign [.Name _ p] _ _=>p
 |_=>⟨0,0,0,0⟩
noncomputable def sv:Expr→Expr
 | .Subscript v _ _=>v
 |e=>e
noncomputable def le:Expr→List Expr
 | .List l _=>l
 |_=>[]
noncomputable def HP:Expr→Option Expr
 | .Slice a _ _ _=>a
 |_=>none
noncomputable def HH:Expr→Option Expr
 | .Slice _ a _ _=>a
 |_=>none
noncomputable def GM:Expr→Pos
 | .Slice _ _ _ p=>p
 |_=>⟨0,0,0,0⟩
noncomputable def BH:Expr→List Expr
 | .Tuple l _ _=>l
 |_=>[]
noncomputable def GX:Stmt→Expr
 | .Return (some e) _=>e
 |_=> .Name "" ⟨0,0,0,0⟩
noncomputable def rP:Stmt→Pos
 | .Return _ p=>p
 |_=>⟨0,0,0,0⟩
noncomputable def bl:Expr→Expr
 | .BinOp a _ _ _=>a
 |e=>e
noncomputable def br:Expr→Expr
 | .BinOp _ _ b _=>b
 |e=>e
noncomputable def bP:Expr→Pos
 | .BinOp _ _ _ p=>p
 |_=>⟨0,0,0,0⟩
noncomputable def dK:Expr→List (Option Expr)
 | .Dict k _ _=>k
 |_=>[]
noncomputable def dV:Expr→List Expr
 | .Dict _ v _=>v
 |_=>[]
noncomputable def dP:Expr→Pos
 | .Dict _ _ p=>p
 |_=>⟨0,0,0,0⟩
noncomputable def DP:Stmt:= .Pass ⟨0,0,0,0⟩
noncomputable def DE:Expr:= .Name "" ⟨0,0,0,0⟩
theorem GB {l p t n env}:swapsWith (.List l p) t n env=pure false:=rfl
theorem Gu {l k p t n env}:swapsWith (.Tuple l k p) t n env=pure false:=rfl
theorem gP {a b c p t n env}:swapsWith (.Call a b c p) t n env=pure false:=rfl
theorem lC {a o b p t n env}:swapsWith (.BinOp a o b p) t n env=pure false:=rfl
theorem eM {a b p t n env}:swapsWith (.Subscript a b p) t n env=pure false:=rfl
theorem Bj {a p t n env}:swapsWith (.Name a p) t n env=pure false:=rfl
theorem C2 {a b p t n env}:swapsWith (.Constant a b p) t n env=pure false:=rfl
theorem Dj {o a p t n env}:swapsWith (.UnaryOp o a p) t n env=pure false:=rfl
theorem Eg {a b c p t n env}:swapsWith (.Compare a b c p) t n env=pure false:=rfl
theorem E6 {a b p t n env}:swapsWith (.BoolOp a b p) t n env=pure false:=rfl
theorem Gv {a b c p t n env}:swapsWith (.IfExp a b c p) t n env=pure false:=rfl
section
variable {P:Program} {w:World} {K:PySem.W.Frag} {mg:Str→Option Value} {base:Heap} {f:Addr} {fd:FuncData}
theorem rQ:FnScope ["_law_script","_law_k"] ["_law_script","_law_k"] (aw (top 26)):=⟨rfl,rfl,rfl,by decide+kernel,rfl,by decide+kernel,by decide+kernel⟩
theorem sk (F:Fun K "_law_cell" "_law_cell" (top 26) f fd):FnOk P w K mg base gX 1 f fd ["_law_script","_law_k"] (i8 K 2 bJ):=by
 refine oM (k:=0) (n:=2) (m:=2) (g:=jX) (FF:=bJ) F rQ rfl rfl rfl (fun cdv A outer s H E hr=> ?_)
 have hu:=hr.units
 have hv:(A.deeper (PyProof.Rows.envOfC "_law_cell" (aw (top 26)) s.heap.objs.size f cdv)).units+65<cLine:=by have:=hr.un;omega
 exact⟨_,(ay (bh (bp aM (aB bE (dU rC (pv 0) (dI (pv 1)) (dI (aB bE (pv 1) ah))) (cC (ac ah aj))) ah (fun _ _=>rfl)))),(bA (aq aN (aq bF (iL lx af (c8 af) (c8 (aq bF af ai))) (cP (ae ai ap))) ai))⟩
theorem g9:FnScope ["_law_cell_here","_law_salt","_law_number"] ["_law_cell_here","_law_salt"] (aw (top 27)):=⟨rfl,rfl,rfl,by decide+kernel,rfl,by decide+kernel,by decide+kernel⟩
theorem nA (F:Fun K "_law_stirred" "_law_stirred" (top 27) f fd):FnOk P w K mg base gX 1 f fd ["_law_cell_here","_law_salt"] (i8 K 2 cz):=by
 refine oM (k:=0) (n:=2) (m:=3) (g:=iz) (FF:=cz) F g9 rfl rfl rfl (fun cdv A outer s H E hr=> ?_)
 have hu:=hr.units
 have hv:(A.deeper (PyProof.Rows.envOfC "_law_stirred" (aw (top 27)) s.heap.objs.size f cdv)).units+65<cLine:=by have:=hr.un;omega
 exact⟨_,(au (aW (i:=2) g9.nd rfl (Or.inl rfl) (aB bE (aB bQ (pv 0) ah) (aB fU ah (pv 1))))
   (au (aW (i:=2) g9.nd rfl (Or.inl rfl) (aB bQ (aB bE (aB bE (aB fU (pv 2) (aB bE (aB bE (pv 2) (aB fU (pv 1) (pv 1))) ah)) (aB fU ah (pv 1))) ah) ah))
   (ay (bh (aB bT (aB bQ (aB bE (aB fU (pv 2) (aB bE (aB bT (pv 2) ah) ah)) ah) ah) ah))))),(aH (aZ (aq bF (aq bu af ai) (aq eT ai af)) aA)
   (aH (aZ (aq bu (aq bF (aq bF (aq eT af (aq bF (aq bF af (aq eT af af)) ai)) (aq eT ai af)) ai) ai) aA)
   (bA (aq cx (aq bu (aq bF (aq eT af (aq bF (aq cx af ai) ai)) ai) ai) ai))))⟩
theorem cQ:FnScope ["_law_cell_here","_law_many","_law_found","_law_left","_law_k","_law_x","_law_j"] ["_law_cell_here","_law_many"] (aw (top 29)):=⟨rfl,rfl,rfl,by decide+kernel,rfl,by decide+kernel,by decide+kernel⟩
theorem o5 (F:Fun K "_law_stream" "_law_stream" (top 29) f fd) (c__law_stirred:cW P w K mg base 1 "_law_stirred" ["_law_cell_here","_law_salt"] 2 cz) (z_max:mg "max"=none) (z_range:mg "range"=none):FnOk P w K mg base gX 2 f fd ["_law_cell_here","_law_many"] (i8 K 2 eU):=by
 refine oM (k:=1) (n:=2) (m:=7) (g:=gR) (FF:=eU) F cQ rfl rfl rfl (fun cdv A outer s H E hr=> ?_)
 have hu:=hr.units
 have hv:(A.deeper (PyProof.Rows.envOfC "_law_stream" (aw (top 29)) s.heap.objs.size f cdv)).units+65<cLine:=by have:=hr.un;omega
 exact⟨_,(au (aW (i:=2) cQ.nd rfl (Or.inl rfl) (cC aj))
   (au (aW (i:=3) cQ.nd rfl (Or.inl rfl) (aJ (iY rfl) rfl z_max uc (ac (pv 0) (ac (aB jh ah (pv 0)) aj))))
   (au (gO PassesOwn.never rfl (cS rfl z_range (ac (pv 1) aj)) (bw (i:=4) cQ.nd rfl (Or.inl rfl)) (au (aW (i:=5) cQ.nd rfl (Or.inl rfl) ah)
   (au (gO PassesOwn.never rfl (cS rfl z_range (ac ah aj)) (bw (i:=6) cQ.nd rfl (Or.inl rfl)) (ay (aW (i:=5) cQ.nd rfl (Or.inl rfl) (aB bE (aB fU (pv 5) (aB iR ah ah)) (aB bQ (bt c__law_stirred hr (ac (pv 0) (ac (aB bE (aB fU ah (pv 4)) (pv 6)) aj))) (aB iR ah ah))))))
   (au (bO (PW.pt (fP (aI iJ (pv 3) ah (aL _)) (eG (PW.pt (gY (aI hX (pv 0) ah (aL _)) (gF (aI wH (pv 0) (aB iR ah ah) (aL _)))))))) (au (aW (i:=5) cQ.nd rfl (Or.inl rfl) (aB bQ (pv 3) (aB iR ah ah)))
   (ay (aW (i:=3) cQ.nd rfl (Or.inl rfl) (aB bT (pv 3) (aB iR ah ah))))) aR)
   (ay (gQ (oP PySem.F.plainAttrs_list PySem.F.slot_list_append PySem.F.type_list_append ij (pv 2) (ac (pv 5) aj))))))))
   (ay (bh (pv 2)))))),(aH (aZ (cP ap) aA)
   (aH (aZ (bS lP (ae af (ae (aq ig ai af) ap))) aA)
   (aH (gK (d6 (ae af ap)) aA (aH (aZ ai aA)
   (aH (gK (d6 (ae ai ap)) aA (aZ (aq bF (aq eT af (aq gS ai ai)) (aq bu (bz (ae af (ae (aq bF (aq eT ai af) af) ap))) (aq gS ai ai))) aA))
   (aH (bX (dX (aC (aq gm af ai)) (fQ (aC (aq fM af ai)) (aC (aq sA af (aq gS ai ai))))) (aH (aZ (aq bu af (aq gS ai ai)) aA)
   (aZ (aq cx af (aq gS ai ai)) aA)) bg)
   (iH (n9 af))))))
   (bA af))))⟩
theorem oB:FnScope ["_law_cell_here"] ["_law_cell_here"] (aw (top 31)):=⟨rfl,rfl,rfl,by decide+kernel,rfl,by decide+kernel,by decide+kernel⟩
theorem om (F:Fun K "_law_letter" "_law_letter" (top 31) f fd):FnOk P w K mg base gX 1 f fd ["_law_cell_here"] (i8 K 1 bK):=by
 refine oM (k:=0) (n:=1) (m:=1) (g:=iO) (FF:=bK) F oB rfl rfl rfl (fun cdv A outer s H E hr=> ?_)
 have hu:=hr.units
 have hv:(A.deeper (PyProof.Rows.envOfC "_law_letter" (aw (top 31)) s.heap.objs.size f cdv)).units+65<cLine:=by have:=hr.un;omega
 exact⟨_,(ay (bh (bp aM a9 (aB bQ (pv 0) ah) (fun _ _=>rfl)))),(bA (aq BF ba (aq bu af ai)))⟩
theorem cj:FnScope ["_law_rest","_law_layer","_law_layers","_law_sort","_law_sign","_law_there","_law_found"] ["_law_rest","_law_layer","_law_layers"] (aw (top 33)):=⟨rfl,rfl,rfl,by decide+kernel,rfl,by decide+kernel,by decide+kernel⟩
theorem kQ (F:Fun K "_law_meaning_of" "_law_meaning_of" (top 33) f fd) (c__law_letter:cW P w K mg base 1 "_law_letter" ["_law_cell_here"] 1 bK) (z_max:mg "max"=none):FnOk P w K mg base gX 2 f fd ["_law_rest","_law_layer","_law_layers"] (i8 K 3 cR):=by
 refine oM (k:=1) (n:=3) (m:=7) (g:=gw) (FF:=cR) F cj rfl rfl rfl (fun cdv A outer s H E hr=> ?_)
 have hu:=hr.units
 have hv:(A.deeper (PyProof.Rows.envOfC "_law_meaning_of" (aw (top 33)) s.heap.objs.size f cdv)).units+65<cLine:=by have:=hr.un;omega
 exact⟨_,(au (aW (i:=3) cj.nd rfl (Or.inl rfl) (aB bQ (pv 0) ah))
   (au (aW (i:=4) cj.nd rfl (Or.inl rfl) (bt c__law_letter hr (ac (aB bT (pv 0) ah) aj)))
   (au (aW (i:=5) cj.nd rfl (Or.inl rfl) (aB bE ah (aB bQ (aB bT (pv 0) ah) (aJ (iY rfl) rfl z_max uc (ac ah (ac (aB jh (pv 2) ah) aj))))))
   (au (aW (i:=6) cj.nd rfl (Or.inl rfl) (aV (ac a9 (ac (pv 4) aj))))
   (au (bO (PW.pt (gY (aI (cA hu) (pv 3) ah (aL _)) (gF (PW.pt (fP (aI (cA hu) (pv 3) ah (aL _)) (eG (aI (cA hu) (pv 1) ah (aL _)))))))) (ay (aW (i:=6) cj.nd rfl (Or.inl rfl) (aV (ac a9 aj)))) (ay (bO (aI (cA hu) (pv 3) ah (aL _)) (ay (aW (i:=6) cj.nd rfl (Or.inl rfl) (aV (ac a9 aj)))) (ay (bO (PW.pt (fP (aI iJ (pv 3) ah (aL _)) (eG (aI iJ (pv 2) ah (aL _))))) (ay (aW (i:=6) cj.nd rfl (Or.inl rfl) (bp aM (cC (ac (aV (ac a9 (ac (pv 5) aj))) (ac (aV (ac a9 (ac (pv 4) (ac (pv 5) aj)))) (ac (aV (ac a9 (ac (pv 5) aj))) aj)))) (aB jh (pv 3) ah) (fun _ _=>rfl)))) aR)))))
   (ay (bh (pv 6)))))))),(aH (aZ (aq bu af ai) aA)
   (aH (aZ (bz (ae (aq cx af ai) ap)) aA)
   (aH (aZ (aq bF ai (aq bu (aq cx af ai) (bS lP (ae ai (ae (aq ig af ai) ap))))) aA)
   (aH (aZ (aY (ae ba (ae af ap))) aA)
   (aH (bX (fQ (aC (aq cB af ai)) (dX (aC (aq cB af ai)) (aC (aq cB af ai)))) (aZ (aY (ae ba ap)) aA) (bX (aC (aq cB af ai)) (aZ (aY (ae ba ap)) aA) (bX (dX (aC (aq gm af ai)) (aC (aq gm af ai))) (aZ (aq aN (cP (ae (aY (ae ba (ae af ap))) (ae (aY (ae ba (ae af (ae af ap)))) (ae (aY (ae ba (ae af ap))) ap)))) (aq ig af ai)) aA) bg)))
   (bA af))))))⟩
theorem ck:FnScope ["_law_xs","_law_keys","_law_many","_law_layers","_law_layer","_law_plain","_law_chords","_law_x","_law_some"] ["_law_xs"] (aw (top 34)):=⟨rfl,rfl,rfl,by decide+kernel,rfl,by decide+kernel,by decide+kernel⟩
theorem mK (F:Fun K "_law_read_bed" "_law_read_bed" (top 34) f fd) (c__law_meaning_of:cW P w K mg base 2 "_law_meaning_of" ["_law_rest","_law_layer","_law_layers"] 3 cR) (c__law_letter:cW P w K mg base 1 "_law_letter" ["_law_cell_here"] 1 bK) (z_range:mg "range"=none) (z_tuple:mg "tuple"=none) (z_len:mg "len"=none):FnOk P w K mg base gX 3 f fd ["_law_xs"] (i8 K 1 dM):=by
 refine oM (k:=2) (n:=1) (m:=9) (g:=fV) (FF:=dM) F ck rfl rfl rfl (fun cdv A outer s H E hr=> ?_)
 have hu:=hr.units
 have hv:(A.deeper (PyProof.Rows.envOfC "_law_read_bed" (aw (top 34)) s.heap.objs.size f cdv)).units+65<cLine:=by have:=hr.un;omega
 exact⟨_,(au (aW (i:=1) ck.nd rfl (Or.inl rfl) (aB bE ah (aB bQ (bp aM (pv 0) ah (fun _ _=>rfl)) ah)))
   (au (aW (i:=2) ck.nd rfl (Or.inr rfl) (aB bE ah (aB bQ (aB bT (bp aM (pv 0) ah (fun _ _=>rfl)) ah) ah)))
   (au (aW (i:=3) ck.nd rfl (Or.inr rfl) (cC aj))
   (au (gO PassesOwn.never rfl (cS rfl z_range (ac (pv 2) aj)) (bw (i:=4) ck.nd rfl (Or.inr rfl)) (ay (gQ (oP PySem.F.plainAttrs_list PySem.F.slot_list_append PySem.F.type_list_append ij (pv 3) (ac (dc cL rfl z_tuple gW (ac (fG ["_law_key"] [("_law_xs",0),("_law_layer",4),("_law_many",2)] rfl (cS rfl z_range (ac (pv 1) aj)) (fun _ _ _ _=>(bw (i:=0) (show List.Nodup (["_law_key","_law_xs","_law_layer","_law_many"]:List Str) by decide+kernel) rfl (Or.inl rfl))) (fun _ _ _ _=>eQ) (fun _ _ _ _=>(bt c__law_meaning_of hr (ac (bp aM (pv 1) (aB bE (aB bE ah (aB fU ah (pv 2))) (pv 0)) (fun _ _=>rfl)) (ac (pv 2) (ac (pv 3) aj))))) ⟨⟨rfl,rfl,Or.inl rfl⟩,⟨⟨rfl,rfl,Or.inl rfl⟩,⟨⟨rfl,rfl,Or.inl rfl⟩,trivial⟩⟩⟩ rfl) aj)) aj)))))
   (au (nI (i:=5) ["_law_key"] [("_law_layers",3)] ck.nd rfl rfl rfl (cS rfl z_range (ac (pv 1) aj)) (fun _ _ _ _=>(bw (i:=0) (show List.Nodup (["_law_key","_law_layers"]:List Str) by decide+kernel) rfl (Or.inl rfl))) (fun _ _ _ _=>(jN (aI (cA hu) (bp aM (bp aM (bp aM (pv 1) ah (fun _ _=>rfl)) (pv 0) (fun _ _=>rfl)) ah (fun _ _=>rfl)) a9 (aL _)))) (fun _ _ _ _=>(pv 0)) ⟨⟨rfl,rfl,Or.inl rfl⟩,trivial⟩ rfl)
   (au (aW (i:=6) ck.nd rfl (Or.inl rfl) (cC aj))
   (au (gO PassesOwn.never rfl (hV (dU rC (pv 0) (dI ah) (dI (aB bE ah (aB bQ (aB bT (bp aM (pv 0) ah (fun _ _=>rfl)) ah) ah))))) (bw (i:=7) ck.nd rfl (Or.inr rfl)) (au (aW (i:=8) ck.nd rfl (Or.inl rfl) (dc cL rfl z_tuple gW (ac (fG ["_law_key"] [("_law_x",7)] rfl (hV (pv 5)) (fun _ _ _ _=>(bw (i:=0) (show List.Nodup (["_law_key","_law_x"]:List Str) by decide+kernel) rfl (Or.inl rfl))) (fun _ _ _ _=>(jN (aI (cA hu) (aB bQ (aB bT (pv 1) (bp aM (cC (ac ah (ac ah (ac ah (ac ah (ac ah aj)))))) (pv 0) (fun _ _=>rfl))) ah) ah (aL _)))) (fun _ _ _ _=>(pv 0)) ⟨⟨rfl,rfl,Or.inl rfl⟩,trivial⟩ rfl) aj)))
   (ay (bO (PW.pt (fP (aI iJ (aJ bG rfl z_len de (ac (pv 8) aj)) ah (aL _)) (eG (aI (kb hv) (pv 8) (fG ["_law_chord"] [] rfl (hV (pv 6)) (fun _ _ _ _=>(bw (i:=0) (show List.Nodup (["_law_chord"]:List Str) by decide+kernel) rfl (Or.inl rfl))) (fun _ _ _ _=>eQ) (fun _ _ _ _=>(bp aM (pv 0) ah (fun _ _=>rfl))) trivial rfl) (by with_unfolding_all rfl))))) (ay (gQ (oP PySem.F.plainAttrs_list PySem.F.slot_list_append PySem.F.type_list_append ij (pv 6) (ac (aV (ac (pv 8) (ac (bt c__law_letter hr (ac (aB bT (pv 7) ah) aj)) aj))) aj)))) aR))))
   (ay (bh (aV (ac (pv 1) (ac (dc cL rfl z_tuple gW (ac (pv 3) aj)) (ac (dc cL rfl z_tuple gW (ac (pv 6) aj)) (ac (aB bE ah (aB bQ (aB bT (bp aM (pv 0) ah (fun _ _=>rfl)) ah) ah)) aj)))))))))))))),(aH (aZ (aq bF ai (aq bu (aq aN af ai) ai)) aA)
   (aH (aZ (aq bF ai (aq bu (aq cx (aq aN af ai) ai) ai)) aA)
   (aH (aZ (cP ap) aA)
   (aH (gK (d6 (ae af ap)) aA (iH (n9 (bS fT (ae (gr rfl rfl (d6 (ae af ap)) aA eR (bz (ae (aq aN af (aq bF (aq bF ai (aq eT ai af)) af)) (ae af (ae af ap))))) ap)))))
   (aH (aZ (gr rfl rfl (d6 (ae af ap)) aA (aC (aq cB (aq aN (aq aN (aq aN af ai) af) ai) ba)) af) aA)
   (aH (aZ (cP ap) aA)
   (aH (gK (mv (iL lx af (c8 ai) (c8 (aq bF ai (aq bu (aq cx (aq aN af ai) ai) ai))))) aA (aH (aZ (bS fT (ae (io rfl rfl iZ aA (aC (aq cB (aq bu (aq cx af (aq aN (cP (ae ai (ae ai (ae ai (ae ai (ae ai ap)))))) af)) ai) ai)) af) ap)) aA)
   (bX (dX (aC (aq gm (bS cJ (ae af ap)) ai)) (aC (aq kg af (io rfl rfl iZ aA eR (aq aN af ai))))) (iH (n9 (aY (ae af (ae (bz (ae (aq cx af ai) ap)) ap))))) bg)))
   (bA (aY (ae af (ae (bS fT (ae af ap)) (ae (bS fT (ae af ap)) (ae (aq bF ai (aq bu (aq cx (aq aN af ai) ai) ai)) ap)))))))))))))⟩
theorem qD:FnScope ["_law_cell_here","_law_salt"] ["_law_cell_here","_law_salt"] (aw (top 28)):=⟨rfl,rfl,rfl,by decide+kernel,rfl,by decide+kernel,by decide+kernel⟩
theorem sj (F:Fun K "_law_wide" "_law_wide" (top 28) f fd) (c__law_stirred:cW P w K mg base 1 "_law_stirred" ["_law_cell_here","_law_salt"] 2 cz) (z_max:mg "max"=none):FnOk P w K mg base gX 2 f fd ["_law_cell_here","_law_salt"] (i8 K 2 bH):=by
 refine oM (k:=1) (n:=2) (m:=2) (g:=iK) (FF:=bH) F qD rfl rfl rfl (fun cdv A outer s H E hr=> ?_)
 have hu:=hr.units
 have hv:(A.deeper (PyProof.Rows.envOfC "_law_wide" (aw (top 28)) s.heap.objs.size f cdv)).units+65<cLine:=by have:=hr.un;omega
 exact⟨_,(au (bO (PW.pt (gY (aI hX (pv 0) ah (aL _)) (gF (aI wH (pv 0) (aB iR ah ah) (aL _))))) (ay (bh (aJ (iY rfl) rfl z_max uc (ac (pv 0) (ac (aB jh ah (pv 0)) aj))))) aR)
   (ay (bh (bt c__law_stirred hr (ac (bt c__law_stirred hr (ac (pv 0) (ac (pv 1) aj))) (ac ah aj)))))),(aH (bX (fQ (aC (aq fM af ai)) (aC (aq sA af (aq gS ai ai)))) (bA (bS lP (ae af (ae (aq ig ai af) ap)))) bg)
   (bA (bz (ae (bz (ae af (ae af ap))) (ae ai ap)))))⟩
theorem fX:FnScope ["_law_cell_here","_law_layer","_law_layers","_law_sort","_law_sign","_law_there"] ["_law_cell_here","_law_layer","_law_layers"] (aw (top 32)):=⟨rfl,rfl,rfl,by decide+kernel,rfl,by decide+kernel,by decide+kernel⟩
theorem nk (F:Fun K "_law_meaning" "_law_meaning" (top 32) f fd) (c__law_letter:cW P w K mg base 1 "_law_letter" ["_law_cell_here"] 1 bK) (z_max:mg "max"=none):FnOk P w K mg base gX 2 f fd ["_law_cell_here","_law_layer","_law_layers"] (i8 K 3 dB):=by
 refine oM (k:=1) (n:=3) (m:=6) (g:=iB) (FF:=dB) F fX rfl rfl rfl (fun cdv A outer s H E hr=> ?_)
 have hu:=hr.units
 have hv:(A.deeper (PyProof.Rows.envOfC "_law_meaning" (aw (top 32)) s.heap.objs.size f cdv)).units+65<cLine:=by have:=hr.un;omega
 exact⟨_,(au (aW (i:=3) fX.nd rfl (Or.inl rfl) (aB bQ (pv 0) ah))
   (au (aW (i:=4) fX.nd rfl (Or.inl rfl) (bt c__law_letter hr (ac (aB bT (pv 0) ah) aj)))
   (au (bO (PW.pt (gY (aI hX (pv 3) ah (aL _)) (gF (PW.pt (fP (aI (cA hu) (pv 2) ah (aL _)) (eG (aI hX (pv 3) ah (aL _)))))))) (ay (bh (aV (ac a9 (ac (pv 4) aj))))) aR)
   (au (aW (i:=5) fX.nd rfl (Or.inl rfl) (aB bE ah (aB bQ (aB bT (pv 0) ah) (aJ (iY rfl) rfl z_max uc (ac ah (ac (aB jh (pv 2) ah) aj))))))
   (au (bO (aI (cA hu) (pv 3) ah (aL _)) (ay (bh (aV (ac a9 (ac (pv 5) aj))))) aR)
   (au (bO (aI (cA hu) (pv 3) ah (aL _)) (ay (bh (aV (ac a9 (ac (pv 4) (ac (pv 5) aj)))))) aR)
   (au (bO (aI (cA hu) (pv 3) ah (aL _)) (ay (bh (aV (ac a9 (ac (pv 5) aj))))) aR)
   (au (bO (PW.pt (fP (aI (cA hu) (pv 3) ah (aL _)) (eG (aI iJ (pv 1) ah (aL _))))) (ay (bh (aV (ac a9 aj)))) aR)
   (ay (bh (aV (ac a9 aj)))))))))))),(aH (aZ (aq bu af ai) aA)
   (aH (aZ (bz (ae (aq cx af ai) ap)) aA)
   (aH (bX (fQ (aC (aq fM af ai)) (dX (aC (aq cB af ai)) (aC (aq fM af ai)))) (bA (aY (ae ba (ae af ap)))) bg)
   (aH (aZ (aq bF ai (aq bu (aq cx af ai) (bS lP (ae ai (ae (aq ig af ai) ap))))) aA)
   (aH (bX (aC (aq cB af ai)) (bA (aY (ae ba (ae af ap)))) bg)
   (aH (bX (aC (aq cB af ai)) (bA (aY (ae ba (ae af (ae af ap))))) bg)
   (aH (bX (aC (aq cB af ai)) (bA (aY (ae ba (ae af ap)))) bg)
   (aH (bX (dX (aC (aq cB af ai)) (aC (aq gm af ai))) (bA (aY (ae ba ap))) bg)
   (bA (aY (ae ba ap)))))))))))⟩
theorem ci:FnScope ["_law_script","_law_at","_law_first","_law_rich","_law_keys","_law_layers","_law_layer","_law_row","_law_plain","_law_chords","_law_k","_law_cell_here","_law_some"] ["_law_script","_law_at"] (aw (top 35)):=⟨rfl,rfl,rfl,by decide+kernel,rfl,by decide+kernel,by decide+kernel⟩
theorem ui (F:Fun K "_law_bed" "_law_bed" (top 35) f fd) (c__law_cell:cW P w K mg base 1 "_law_cell" ["_law_script","_law_k"] 2 bJ) (c__law_stream:cW P w K mg base 2 "_law_stream" ["_law_cell_here","_law_many"] 2 eU) (c__law_read_bed:cW P w K mg base 3 "_law_read_bed" ["_law_xs"] 1 dM) (c__law_wide:cW P w K mg base 2 "_law_wide" ["_law_cell_here","_law_salt"] 2 bH) (c__law_meaning:cW P w K mg base 2 "_law_meaning" ["_law_cell_here","_law_layer","_law_layers"] 3 dB) (c__law_letter:cW P w K mg base 1 "_law_letter" ["_law_cell_here"] 1 bK) (z_int:mg "int"=none) (z_range:mg "range"=none) (z_tuple:mg "tuple"=none) (z_len:mg "len"=none):FnOk P w K mg base gX 4 f fd ["_law_script","_law_at"] (i8 K 2 gc):=by
 refine oM (k:=3) (n:=2) (m:=13) (g:=jz) (FF:=gc) F ci rfl rfl rfl (fun cdv A outer s H E hr=> ?_)
 have hu:=hr.units
 have hv:(A.deeper (PyProof.Rows.envOfC "_law_bed" (aw (top 35)) s.heap.objs.size f cdv)).units+65<cLine:=by have:=hr.un;omega
 obtain⟨t0_0,u0_0,v0_0⟩:∃t,PE (fJ gX P w K mg base ["_law_script","_law_at","_law_first","_law_rich","_law_keys","_law_layers","_law_layer","_law_row","_law_plain","_law_chords","_law_k","_law_cell_here","_law_some"] "_law_bed" (aw (top 35)) f cdv A outer s H E).nox ((le (sv (av ((fb ((fb ((ax (top 35)).getD 9 DP)).getD 2 DP)).getD 0 DP)))).getD 0 DE) t∧EO K E t (aD (aa (pC (.int 0)) (aa (pC (.int 1)) am))):=⟨_,(aV (ac ah (ac ah aj))),(aY (ae ai (ae ai ap)))⟩
 obtain⟨t0_1,u0_1,v0_1⟩:∃t,PE (fJ gX P w K mg base ["_law_script","_law_at","_law_first","_law_rich","_law_keys","_law_layers","_law_layer","_law_row","_law_plain","_law_chords","_law_k","_law_cell_here","_law_some"] "_law_bed" (aw (top 35)) f cdv A outer s H E).nox ((le (sv (av ((fb ((fb ((ax (top 35)).getD 9 DP)).getD 2 DP)).getD 0 DP)))).getD 1 DE) t∧EO K E t (aD (aa (pC (.int 1)) (aa (pC (.int 2)) am))):=⟨_,(aV (ac ah (ac ah aj))),(aY (ae ai (ae ai ap)))⟩
 obtain⟨t0_2,u0_2,v0_2⟩:∃t,PE (fJ gX P w K mg base ["_law_script","_law_at","_law_first","_law_rich","_law_keys","_law_layers","_law_layer","_law_row","_law_plain","_law_chords","_law_k","_law_cell_here","_law_some"] "_law_bed" (aw (top 35)) f cdv A outer s H E).nox ((le (sv (av ((fb ((fb ((ax (top 35)).getD 9 DP)).getD 2 DP)).getD 0 DP)))).getD 2 DE) t∧EO K E t (aD (aa (pC (.int 0)) (aa (pC (.int 1)) (aa (pC (.int 2)) am)))):=⟨_,(aV (ac ah (ac ah (ac ah aj)))),(aY (ae ai (ae ai (ae ai ap))))⟩
 obtain⟨t0_3,u0_3,v0_3⟩:∃t,PE (fJ gX P w K mg base ["_law_script","_law_at","_law_first","_law_rich","_law_keys","_law_layers","_law_layer","_law_row","_law_plain","_law_chords","_law_k","_law_cell_here","_law_some"] "_law_bed" (aw (top 35)) f cdv A outer s H E).nox ((le (sv (av ((fb ((fb ((ax (top 35)).getD 9 DP)).getD 2 DP)).getD 0 DP)))).getD 3 DE) t∧EO K E t (aD (aa (pC (.int 0)) (aa (az jG (ag 4) (pC (.int 1))) am))):=⟨_,(aV (ac ah (ac (aB jh (pv 4) ah) aj))),(aY (ae ai (ae (aq ig af ai) ap)))⟩
 have st0_0:d9 ((le (sv (av ((fb ((fb ((ax (top 35)).getD 9 DP)).getD 2 DP)).getD 0 DP)))).getD 0 DE)=false:=rfl
 have st0_1:d9 ((le (sv (av ((fb ((fb ((ax (top 35)).getD 9 DP)).getD 2 DP)).getD 0 DP)))).getD 1 DE)=false:=rfl
 have st0_2:d9 ((le (sv (av ((fb ((fb ((ax (top 35)).getD 9 DP)).getD 2 DP)).getD 0 DP)))).getD 2 DE)=false:=rfl
 have st0_3:d9 ((le (sv (av ((fb ((fb ((ax (top 35)).getD 9 DP)).getD 2 DP)).getD 0 DP)))).getD 3 DE)=false:=rfl
 obtain⟨ti0,ui0,vi0⟩:∃t,PE (fJ gX P w K mg base ["_law_script","_law_at","_law_first","_law_rich","_law_keys","_law_layers","_law_layer","_law_row","_law_plain","_law_chords","_law_k","_law_cell_here","_law_some"] "_law_bed" (aw (top 35)) f cdv A outer s H E).nox (ss (av ((fb ((fb ((ax (top 35)).getD 9 DP)).getD 2 DP)).getD 0 DP))) t∧EO K E t (az bf (az cn (ag 10) (az cy (ag 2) (pC (.int 960)))) (pC (.int 4))):=⟨_,(aB bQ (aB bE (pv 10) (aB bT (pv 2) ah)) ah),(aq bu (aq bF af (aq cx af ai)) ai)⟩
 obtain⟨tc0,uc0,vc0⟩:∃t,PT (fJ gX P w K mg base ["_law_script","_law_at","_law_first","_law_rich","_law_keys","_law_layers","_law_layer","_law_row","_law_plain","_law_chords","_law_k","_law_cell_here","_law_some"] "_law_bed" (aw (top 35)) f cdv A outer s H E).nox (iT ((fb ((ax (top 35)).getD 9 DP)).getD 2 DP)) t∧TTO K E t (aG (ag 3)):=⟨_,(gn (pv 3)),(iX af)⟩
 have hp0:qH (ss (av ((fb ((fb ((ax (top 35)).getD 9 DP)).getD 2 DP)).getD 0 DP))):=fun _ _=>rfl
 have hL0:(sv (av ((fb ((fb ((ax (top 35)).getD 9 DP)).getD 2 DP)).getD 0 DP)))= .List [(le (sv (av ((fb ((fb ((ax (top 35)).getD 9 DP)).getD 2 DP)).getD 0 DP)))).getD 0 DE,(le (sv (av ((fb ((fb ((ax (top 35)).getD 9 DP)).getD 2 DP)).getD 0 DP)))).getD 1 DE,(le (sv (av ((fb ((fb ((ax (top 35)).getD 9 DP)).getD 2 DP)).getD 0 DP)))).getD 2 DE,(le (sv (av ((fb ((fb ((ax (top 35)).getD 9 DP)).getD 2 DP)).getD 0 DP)))).getD 3 DE] (lp (sv (av ((fb ((fb ((ax (top 35)).getD 9 DP)).getD 2 DP)).getD 0 DP)))):=rfl
 have hV0:(av ((fb ((fb ((ax (top 35)).getD 9 DP)).getD 2 DP)).getD 0 DP))= .Subscript (sv (av ((fb ((fb ((ax (top 35)).getD 9 DP)).getD 2 DP)).getD 0 DP))) (ss (av ((fb ((fb ((ax (top 35)).getD 9 DP)).getD 2 DP)).getD 0 DP))) (sP (av ((fb ((fb ((ax (top 35)).getD 9 DP)).getD 2 DP)).getD 0 DP))):=rfl
 have hA0:((fb ((fb ((ax (top 35)).getD 9 DP)).getD 2 DP)).getD 0 DP)= .Assign [.Name "_law_some" (nP ((fb ((fb ((ax (top 35)).getD 9 DP)).getD 2 DP)).getD 0 DP))] (av ((fb ((fb ((ax (top 35)).getD 9 DP)).getD 2 DP)).getD 0 DP)) (aP ((fb ((fb ((ax (top 35)).getD 9 DP)).getD 2 DP)).getD 0 DP)):=rfl
 have hS0:((fb ((ax (top 35)).getD 9 DP)).getD 2 DP)= .If (iT ((fb ((ax (top 35)).getD 9 DP)).getD 2 DP)) [((fb ((fb ((ax (top 35)).getD 9 DP)).getD 2 DP)).getD 0 DP)] [] (iP ((fb ((ax (top 35)).getD 9 DP)).getD 2 DP)):=rfl
 obtain⟨t0,u0,v0⟩:∃t,PE (fJ gX P w K mg base ["_law_script","_law_at","_law_first","_law_rich","_law_keys","_law_layers","_law_layer","_law_row","_law_plain","_law_chords","_law_k","_law_cell_here","_law_some"] "_law_bed" (aw (top 35)) f cdv A outer s H E).nox (sv (av ((fb ((fb ((ax (top 35)).getD 9 DP)).getD 2 DP)).getD 0 DP))) t∧EO K E t (cV (aa (aD (aa (pC (.int 0)) (aa (pC (.int 1)) am))) (aa (aD (aa (pC (.int 1)) (aa (pC (.int 2)) am))) (aa (aD (aa (pC (.int 0)) (aa (pC (.int 1)) (aa (pC (.int 2)) am)))) (aa (aD (aa (pC (.int 0)) (aa (az jG (ag 4) (pC (.int 1))) am))) am))))):=by
  generalize (le (sv (av ((fb ((fb ((ax (top 35)).getD 9 DP)).getD 2 DP)).getD 0 DP)))).getD 0 DE=e0 at*
  generalize (le (sv (av ((fb ((fb ((ax (top 35)).getD 9 DP)).getD 2 DP)).getD 0 DP)))).getD 1 DE=e1 at*
  generalize (le (sv (av ((fb ((fb ((ax (top 35)).getD 9 DP)).getD 2 DP)).getD 0 DP)))).getD 2 DE=e2 at*
  generalize (le (sv (av ((fb ((fb ((ax (top 35)).getD 9 DP)).getD 2 DP)).getD 0 DP)))).getD 3 DE=e3 at*
  rw[hL0]
  exact⟨_,cC (jt u0_0 (jt u0_1 (jt u0_2 (jt u0_3 aj st0_3) st0_2) st0_1) st0_0),cP (ae v0_0 (ae v0_1 (ae v0_2 (ae v0_3 ap))))⟩
 obtain⟨ts0,us0,vs0⟩:∃t,PS (fJ gX P w K mg base ["_law_script","_law_at","_law_first","_law_rich","_law_keys","_law_layers","_law_layer","_law_row","_law_plain","_law_chords","_law_k","_law_cell_here","_law_some"] "_law_bed" (aw (top 35)) f cdv A outer s H E).nox ((fb ((ax (top 35)).getD 9 DP)).getD 2 DP) t∧SO K E t (et (aG (ag 3)) (bq (az bC (cV (aa (aD (aa (pC (.int 0)) (aa (pC (.int 1)) am))) (aa (aD (aa (pC (.int 1)) (aa (pC (.int 2)) am))) (aa (aD (aa (pC (.int 0)) (aa (pC (.int 1)) (aa (pC (.int 2)) am)))) (aa (aD (aa (pC (.int 0)) (aa (az jG (ag 4) (pC (.int 1))) am))) am))))) (az bf (az cn (ag 10) (az cy (ag 2) (pC (.int 960)))) (pC (.int 4)))) (gN 12)) bv):=by
  clear hL0 u0_0 v0_0 st0_0 u0_1 v0_1 st0_1 u0_2 v0_2 st0_2 u0_3 v0_3 st0_3
  rw[hS0]
  generalize iT ((fb ((ax (top 35)).getD 9 DP)).getD 2 DP)=eC at*
  generalize iP ((fb ((ax (top 35)).getD 9 DP)).getD 2 DP)=pC at*
  rw[hA0]
  generalize nP ((fb ((fb ((ax (top 35)).getD 9 DP)).getD 2 DP)).getD 0 DP)=pN at*
  generalize aP ((fb ((fb ((ax (top 35)).getD 9 DP)).getD 2 DP)).getD 0 DP)=pA at*
  rw[hV0]
  generalize (sv (av ((fb ((fb ((ax (top 35)).getD 9 DP)).getD 2 DP)).getD 0 DP)))=eL at*
  generalize ss (av ((fb ((fb ((ax (top 35)).getD 9 DP)).getD 2 DP)).getD 0 DP))=eI at*
  generalize sP (av ((fb ((fb ((ax (top 35)).getD 9 DP)).getD 2 DP)).getD 0 DP))=pS at*
  exact⟨_,bO uc0 (ay (aW (i:=12) ci.nd rfl (Or.inl rfl) (bp aM u0 ui0 hp0))) aR,bX vc0 (aZ (aq aN v0 vi0) aA) bg⟩
 exact⟨_,(au (aW (i:=2) ci.nd rfl (Or.inr rfl) (bt c__law_cell hr (ac (pv 0) (ac (pv 1) aj))))
   (au (bO (PW.pt (gY (aI hX (pv 2) ah (aL _)) (gF (aI wH (pv 2) (aB iR ah ah) (aL _))))) (ay (bh (bt c__law_read_bed hr (ac (bt c__law_stream hr (ac (pv 2) (ac ah aj))) aj)))) aR)
   (au (aW (i:=2) ci.nd rfl (Or.inr rfl) (bt c__law_wide hr (ac (pv 2) (ac (pv 1) aj))))
   (au (aW (i:=3) ci.nd rfl (Or.inl rfl) (fY (cA hu) (aB bQ (aB bT (pv 2) ah) ah) ah (aL _)))
   (au (aW (i:=4) ci.nd rfl (Or.inl rfl) (bp aM (cC (ac (aB bE ah (aB bQ (pv 2) ah)) (ac (aB bE ah (aB bQ (pv 2) ah)) aj))) (dc pR rfl z_int za (ac (pv 3) aj)) (fun _ _=>rfl)))
   (au (aW (i:=5) ci.nd rfl (Or.inr rfl) (cC aj))
   (au (gO PassesOwn.never rfl (cS rfl z_range (ac (aB bE ah (aB bQ (aB bT (pv 2) ah) ah)) aj)) (bw (i:=6) ci.nd rfl (Or.inr rfl)) (au (nI (i:=7) ["_law_key"] [("_law_script",0),("_law_at",1),("_law_layer",6)] ci.nd rfl rfl rfl (cS rfl z_range (ac (pv 4) aj)) (fun _ _ _ _=>(bw (i:=0) (show List.Nodup (["_law_key","_law_script","_law_at","_law_layer"]:List Str) by decide+kernel) rfl (Or.inl rfl))) (fun _ _ _ _=>eQ) (fun _ _ _ _=>(bt c__law_wide hr (ac (bt c__law_cell hr (ac (pv 1) (ac (aB bE (aB bE (aB bE (pv 2) ah) (aB fU ah (pv 3))) (pv 0)) aj))) (ac (aB bE (aB fU ah (pv 3)) (pv 0)) aj)))) ⟨⟨rfl,rfl,Or.inl rfl⟩,⟨⟨rfl,rfl,Or.inl rfl⟩,⟨⟨rfl,rfl,Or.inl rfl⟩,trivial⟩⟩⟩ rfl)
   (au (gQ (oP PySem.F.plainAttrs_list PySem.F.slot_list_append PySem.F.type_list_append ij (pv 5) (ac (dc cL rfl z_tuple gW (ac (fG ["_law_cell_here"] [("_law_layer",6),("_law_first",2)] rfl (hV (pv 7)) (fun _ _ _ _=>(bw (i:=0) (show List.Nodup (["_law_cell_here","_law_layer","_law_first"]:List Str) by decide+kernel) rfl (Or.inl rfl))) (fun _ _ _ _=>eQ) (fun _ _ _ _=>(bt c__law_meaning hr (ac (pv 0) (ac (pv 1) (ac (aB bE ah (aB bQ (aB bT (pv 2) ah) ah)) aj))))) ⟨⟨rfl,rfl,Or.inl rfl⟩,⟨⟨rfl,rfl,Or.inl rfl⟩,trivial⟩⟩ rfl) aj)) aj)))
   (ay (bO (PW.pt (fP (gn (pv 3)) (eG (aI (cA hu) (pv 6) ah (aL _))))) (ay (aW (i:=5) ci.nd rfl (Or.inr rfl) (cC (ac (dc cL rfl z_tuple gW (ac (fG ["_law_cell_here"] [] rfl (hV (pv 7)) (fun _ _ _ _=>(bw (i:=0) (show List.Nodup (["_law_cell_here"]:List Str) by decide+kernel) rfl (Or.inl rfl))) (fun _ _ _ _=>eQ) (fun _ _ _ _=>(aV (ac a9 (ac (bt c__law_letter hr (ac (aB bT (pv 0) ah) aj)) aj)))) trivial rfl) aj)) aj)))) aR)))))
   (au (nI (i:=8) ["_law_key"] [("_law_layers",5)] ci.nd rfl rfl rfl (cS rfl z_range (ac (pv 4) aj)) (fun _ _ _ _=>(bw (i:=0) (show List.Nodup (["_law_key","_law_layers"]:List Str) by decide+kernel) rfl (Or.inl rfl))) (fun _ _ _ _=>(jN (aI (cA hu) (bp aM (bp aM (bp aM (pv 1) ah (fun _ _=>rfl)) (pv 0) (fun _ _=>rfl)) ah (fun _ _=>rfl)) a9 (aL _)))) (fun _ _ _ _=>(pv 0)) ⟨⟨rfl,rfl,Or.inl rfl⟩,trivial⟩ rfl)
   (au (aW (i:=9) ci.nd rfl (Or.inl rfl) (cC aj))
   (au (gO PassesOwn.never rfl (cS rfl z_range (ac (bp aM (cC (ac (aB bQ (bt c__law_wide hr (ac (bt c__law_cell hr (ac (pv 0) (ac (aB bE (pv 1) ah) aj))) (ac ah aj))) ah) (ac (aB bE ah (aB bQ (aB bT (pv 2) ah) ah)) aj))) (dc pR rfl z_int za (ac (pv 3) aj)) (fun _ _=>rfl)) aj)) (bw (i:=10) ci.nd rfl (Or.inl rfl)) (au (aW (i:=11) ci.nd rfl (Or.inr rfl) (bt c__law_wide hr (ac (bt c__law_cell hr (ac (pv 0) (ac (aB bE (aB bE (pv 1) ah) (pv 10)) aj))) (ac (aB bE ah (pv 10)) aj))))
   (au (aW (i:=12) ci.nd rfl (Or.inl rfl) (dc cL rfl z_tuple gW (ac (fG ["_law_key"] [("_law_cell_here",11)] rfl (hV (pv 8)) (fun _ _ _ _=>(bw (i:=0) (show List.Nodup (["_law_key","_law_cell_here"]:List Str) by decide+kernel) rfl (Or.inl rfl))) (fun _ _ _ _=>(jN (aI (cA hu) (aB bQ (aB bT (pv 1) (bp aM (cC (ac ah (ac ah (ac ah (ac ah (ac ah aj)))))) (pv 0) (fun _ _=>rfl))) ah) ah (aL _)))) (fun _ _ _ _=>(pv 0)) ⟨⟨rfl,rfl,Or.inl rfl⟩,trivial⟩ rfl) aj)))
   (au us0
   (ay (bO (PW.pt (fP (aI iJ (aJ bG rfl z_len de (ac (pv 12) aj)) ah (aL _)) (eG (aI (kb hv) (pv 12) (fG ["_law_chord"] [] rfl (hV (pv 9)) (fun _ _ _ _=>(bw (i:=0) (show List.Nodup (["_law_chord"]:List Str) by decide+kernel) rfl (Or.inl rfl))) (fun _ _ _ _=>eQ) (fun _ _ _ _=>(bp aM (pv 0) ah (fun _ _=>rfl))) trivial rfl) (by with_unfolding_all rfl))))) (ay (gQ (oP PySem.F.plainAttrs_list PySem.F.slot_list_append PySem.F.type_list_append ij (pv 9) (ac (aV (ac (pv 12) (ac (bt c__law_letter hr (ac (aB bT (pv 11) ah) aj)) aj))) aj)))) aR))))))
   (ay (bh (aV (ac (pv 4) (ac (dc cL rfl z_tuple gW (ac (pv 5) aj)) (ac (dc cL rfl z_tuple gW (ac (pv 9) aj)) (ac (aB bE ah (aB bQ (aB bT (pv 2) ah) ah)) aj))))))))))))))))),(aH (aZ (bz (ae af (ae af ap))) aA)
   (aH (bX (fQ (aC (aq fM af ai)) (aC (aq sA af (aq gS ai ai)))) (bA (bz (ae (bz (ae af (ae ai ap))) ap))) bg)
   (aH (aZ (bz (ae af (ae af ap))) aA)
   (aH (aZ (aq cB (aq bu (aq cx af ai) ai) ai) aA)
   (aH (aZ (aq aN (cP (ae (aq bF ai (aq bu af ai)) (ae (aq bF ai (aq bu af ai)) ap))) (bS A0 (ae af ap))) aA)
   (aH (aZ (cP ap) aA)
   (aH (gK (d6 (ae (aq bF ai (aq bu (aq cx af ai) ai)) ap)) aA (aH (aZ (gr rfl rfl (d6 (ae af ap)) aA eR (bz (ae (bz (ae af (ae (aq bF (aq bF (aq bF af ai) (aq eT ai af)) af) ap))) (ae (aq bF (aq eT ai af) af) ap)))) aA)
   (aH (iH (n9 (bS fT (ae (io rfl rfl iZ aA eR (bz (ae af (ae af (ae (aq bF ai (aq bu (aq cx af ai) ai)) ap))))) ap))))
   (bX (dX (iX af) (aC (aq cB af ai))) (aZ (cP (ae (bS fT (ae (io rfl rfl iZ aA eR (aY (ae ba (ae (bz (ae (aq cx af ai) ap)) ap)))) ap)) ap)) aA) bg))))
   (aH (aZ (gr rfl rfl (d6 (ae af ap)) aA (aC (aq cB (aq aN (aq aN (aq aN af ai) af) ai) ba)) af) aA)
   (aH (aZ (cP ap) aA)
   (aH (gK (d6 (ae (aq aN (cP (ae (aq bu (bz (ae (bz (ae af (ae (aq bF af ai) ap))) (ae ai ap))) ai) (ae (aq bF ai (aq bu (aq cx af ai) ai)) ap))) (bS A0 (ae af ap))) ap)) aA (aH (aZ (bz (ae (bz (ae af (ae (aq bF (aq bF af ai) af) ap))) (ae (aq bF ai af) ap))) aA)
   (aH (aZ (bS fT (ae (io rfl rfl iZ aA (aC (aq cB (aq bu (aq cx af (aq aN (cP (ae ai (ae ai (ae ai (ae ai (ae ai ap)))))) af)) ai) ai)) af) ap)) aA)
   (aH vs0
   (bX (dX (aC (aq gm (bS cJ (ae af ap)) ai)) (aC (aq kg af (io rfl rfl iZ aA eR (aq aN af ai))))) (iH (n9 (aY (ae af (ae (bz (ae (aq cx af ai) ap)) ap))))) bg)))))
   (bA (aY (ae af (ae (bS fT (ae af ap)) (ae (bS fT (ae af ap)) (ae (aq bF ai (aq bu (aq cx af ai) ai)) ap))))))))))))))))⟩
theorem uE:FnScope ["_law_row","_law_at","_law_thing"] ["_law_row","_law_at","_law_thing"] (aw (top 41)):=⟨rfl,rfl,rfl,by decide+kernel,rfl,by decide+kernel,by decide+kernel⟩
theorem ux (F:Fun K "_law_put" "_law_put" (top 41) f fd):FnOk P w K mg base gX 1 f fd ["_law_row","_law_at","_law_thing"] (i8 K 3 aQ):=by
 refine oM (k:=0) (n:=3) (m:=3) (g:=kM) (FF:=aQ) F uE rfl rfl rfl (fun cdv A outer s H E hr=> ?_)
 have hu:=hr.units
 have hv:(A.deeper (PyProof.Rows.envOfC "_law_put" (aw (top 41)) s.heap.objs.size f cdv)).units+65<cLine:=by have:=hr.un;omega
 exact⟨_,(ay (bh (aB eH (aB eH (dU gB (pv 0) gl (dI (pv 1))) (aV (ac (pv 2) aj))) (dU gB (pv 0) (dI (aB eH (pv 1) ah)) gl)))),(bA (aq dG (aq dG (iL jR af fC (c8 af)) (aY (ae af ap))) (iL jR af (c8 (aq dG af ai)) fC)))⟩
theorem cO:FnScope ["_law_chords","_law_keys","_law_way","_law_x","_law_at","_law_some","_law_sign"] ["_law_chords","_law_keys","_law_way","_law_x"] (aw (top 43)):=⟨rfl,rfl,rfl,by decide+kernel,rfl,by decide+kernel,by decide+kernel⟩
noncomputable abbrev kI (P:Program) (w:World) (K:PySem.W.Frag) (mg:Str→Option Value) (base:Heap) (f:Addr) (cdv:Value) (A:Around) (outer:List Env) (s:Shared) (H:Hp) (E:XK):Cx:=(fJ gX P w K mg base ["_law_chords","_law_keys","_law_way","_law_x","_law_at","_law_some","_law_sign"] "_law_chords_changed" (aw (top 43)) f cdv A outer s H E).nox
noncomputable def mS:Stmt:=(ax (top 43)).getD 0 DP
noncomputable def Ag:Stmt:=(ax (top 43)).getD 1 DP
noncomputable def yI:Stmt:=(ax (top 43)).getD 2 DP
noncomputable def zZ:Stmt:=(ax (top 43)).getD 3 DP
noncomputable def zN:Stmt:=(ax (top 43)).getD 4 DP
noncomputable def zv:Stmt:=(ax (top 43)).getD 5 DP
noncomputable def zf:Stmt:=(ax (top 43)).getD 6 DP
noncomputable def y9:Stmt:=(ax (top 43)).getD 7 DP
noncomputable def zI:Stmt:=(ax (top 43)).getD 8 DP
noncomputable def vV:Stmt:=(ax (top 43)).getD 9 DP
noncomputable def kP:Stmt:=(ax (top 43)).getD 10 DP
noncomputable def vM:Expr:=iT mS
noncomputable def kT:Stmt:=(fb mS).getD 0 DP
noncomputable def ir:Expr:=GX kT
noncomputable def jK:Expr:=sv ir
noncomputable def sd:Expr:=(BH jK).getD 0 DE
noncomputable def qN:Expr:=(BH jK).getD 1 DE
noncomputable def rZ:Expr:=(BH jK).getD 2 DE
noncomputable def qG:Expr:=(BH jK).getD 3 DE
noncomputable def vF:Option Expr:=HP (ss ir)
noncomputable def vR:Option Expr:=HH (ss ir)
noncomputable def j6:Expr:=GX kP
noncomputable def u6:Expr:=bl j6
noncomputable def iq:Expr:=br j6
noncomputable def jy:Expr:=sv iq
noncomputable def sC:Expr:=(BH jy).getD 0 DE
noncomputable def qJ:Expr:=(BH jy).getD 1 DE
noncomputable def sI:Expr:=(BH jy).getD 2 DE
noncomputable def sF:Expr:=(BH jy).getD 3 DE
noncomputable def qW:Expr:=(BH jy).getD 4 DE
noncomputable def vQ:Option Expr:=HP (ss iq)
noncomputable def u8:Option Expr:=HH (ss iq)
theorem jp (F:Fun K "_law_chords_changed" "_law_chords_changed" (top 43) f fd) (c__law_put:cW P w K mg base 1 "_law_put" ["_law_row","_law_at","_law_thing"] 3 aQ) (z_len:mg "len"=none) (z_tuple:mg "tuple"=none) (z_sorted:mg "sorted"=none):FnOk P w K mg base gX 2 f fd ["_law_chords","_law_keys","_law_way","_law_x"] (i8 K 4 b8):=by
 refine oM (k:=1) (n:=4) (m:=7) (g:=dH) (FF:=b8) F cO rfl rfl rfl (fun cdv A outer s H E hr=> ?_)
 have hu:=hr.units
 have hv:(A.deeper (PyProof.Rows.envOfC "_law_chords_changed" (aw (top 43)) s.heap.objs.size f cdv)).units+65<cLine:=by have:=hr.un;omega
 obtain⟨tq2,uq2,vq2⟩:∃t,PT (kI P w K mg base f cdv A outer s H E) vM t∧TTO K E t (aG (az fO (dh bV (aa (ag 0) am)) (pC (.int 0)))):=⟨_,(aI (cA hu) (aJ bG rfl z_len de (ac (pv 0) aj)) ah (aL _)),(aC (aq cB (bS cJ (ae af ap)) ai))⟩
 obtain⟨tq6,uq6,vq6⟩:∃t,PE (kI P w K mg base f cdv A outer s H E) sd t∧EO K E t (aD (aa (aD (aa (pC (.int 0)) am)) (aa (pC (.str "c")) am))):=⟨_,(aV (ac (aV (ac ah aj)) (ac a9 aj))),(aY (ae (aY (ae ai ap)) (ae ba ap)))⟩
 obtain⟨tq7,uq7,vq7⟩:∃t,PE (kI P w K mg base f cdv A outer s H E) qN t∧EO K E t (aD (aa (aD (aa (pC (.int 0)) (aa (pC (.int 1)) am))) (aa (pC (.str "c")) am))):=⟨_,(aV (ac (aV (ac ah (ac ah aj))) (ac a9 aj))),(aY (ae (aY (ae ai (ae ai ap))) (ae ba ap)))⟩
 obtain⟨tq8,uq8,vq8⟩:∃t,PE (kI P w K mg base f cdv A outer s H E) rZ t∧EO K E t (aD (aa (aD (aa (pC (.int 0)) (aa (ag 1) am))) (aa (pC (.str "c")) am))):=⟨_,(aV (ac (aV (ac ah (ac (pv 1) aj))) (ac a9 aj))),(aY (ae (aY (ae ai (ae af ap))) (ae ba ap)))⟩
 obtain⟨tq9,uq9,vq9⟩:∃t,PE (kI P w K mg base f cdv A outer s H E) qG t∧EO K E t (aD (aa (aD (aa (pC (.int 0)) (aa (pC (.int 1)) am))) (aa (pC (.str "C")) am))):=⟨_,(aV (ac (aV (ac ah (ac ah aj))) (ac a9 aj))),(aY (ae (aY (ae ai (ae ai ap))) (ae ba ap)))⟩
 have stq5_0:d9 sd=false:=rfl
 have stq5_1:d9 qN=false:=rfl
 have stq5_2:d9 rZ=false:=rfl
 have stq5_3:d9 qG=false:=rfl
 obtain⟨xq5,pq5,hLq5⟩:∃x1 pp,jK= .Tuple [sd,qN,rZ,qG] x1 pp:=⟨_,_,rfl⟩
 obtain⟨tq5,uq5,vq5⟩:∃t,PE (kI P w K mg base f cdv A outer s H E) jK t∧EO K E t (aD (aa (aD (aa (aD (aa (pC (.int 0)) am)) (aa (pC (.str "c")) am))) (aa (aD (aa (aD (aa (pC (.int 0)) (aa (pC (.int 1)) am))) (aa (pC (.str "c")) am))) (aa (aD (aa (aD (aa (pC (.int 0)) (aa (ag 1) am))) (aa (pC (.str "c")) am))) (aa (aD (aa (aD (aa (pC (.int 0)) (aa (pC (.int 1)) am))) (aa (pC (.str "C")) am))) am))))):=by
  rw[hLq5]
  generalize sd=z0 at*
  generalize qN=z1 at*
  generalize rZ=z2 at*
  generalize qG=z3 at*
  exact⟨_,aV (jt uq6 (jt uq7 (jt uq8 (jt uq9 aj stq5_3) stq5_2) stq5_1) stq5_0),aY (ae vq6 (ae vq7 (ae vq8 (ae vq9 ap))))⟩
 clear hLq5 stq5_0 stq5_1 stq5_2 stq5_3 uq6 vq6 uq7 vq7 uq8 vq8 uq9 vq9
 obtain⟨tq10,uq10,vq10⟩:∃t,PO (kI P w K mg base f cdv A outer s H E) vF t∧C9 K E t (cH (az bf (ag 2) (pC (.int 4)))):=⟨_,dI (aB bQ (pv 2) ah),c8 (aq bu af ai)⟩
 obtain⟨tq11,uq11,vq11⟩:∃t,PO (kI P w K mg base f cdv A outer s H E) vR t∧C9 K E t (cH (az dJ (az bf (ag 2) (pC (.int 4))) (pC (.int 1)))):=⟨_,dI (aB eH (aB bQ (pv 2) ah) ah),c8 (aq dG (aq bu af ai) ai)⟩
 have hLq4:ir= .Subscript jK (.Slice vF vR none (GM (ss ir))) (sP ir):=rfl
 obtain⟨tq4,uq4,vq4⟩:∃t,PE (kI P w K mg base f cdv A outer s H E) ir t∧EO K E t (kE kx (aD (aa (aD (aa (aD (aa (pC (.int 0)) am)) (aa (pC (.str "c")) am))) (aa (aD (aa (aD (aa (pC (.int 0)) (aa (pC (.int 1)) am))) (aa (pC (.str "c")) am))) (aa (aD (aa (aD (aa (pC (.int 0)) (aa (ag 1) am))) (aa (pC (.str "c")) am))) (aa (aD (aa (aD (aa (pC (.int 0)) (aa (pC (.int 1)) am))) (aa (pC (.str "C")) am))) am))))) (cH (az bf (ag 2) (pC (.int 4)))) (cH (az dJ (az bf (ag 2) (pC (.int 4))) (pC (.int 1))))):=by
  rw[hLq4]
  generalize jK=z0 at*
  generalize vF=z1 at*
  generalize vR=z2 at*
  generalize GM (ss ir)=z3 at*
  generalize sP ir=z4 at*
  exact⟨_,dU gB uq5 uq10 uq11,iL jR vq5 vq10 vq11⟩
 clear hLq4 uq5 vq5 uq10 vq10 uq11 vq11
 have hSq3:kT= .Return (some ir) (rP kT):=rfl
 obtain⟨tq3,uq3,vq3⟩:∃t,PS (kI P w K mg base f cdv A outer s H E) kT t∧SO K E t (ce (kE kx (aD (aa (aD (aa (aD (aa (pC (.int 0)) am)) (aa (pC (.str "c")) am))) (aa (aD (aa (aD (aa (pC (.int 0)) (aa (pC (.int 1)) am))) (aa (pC (.str "c")) am))) (aa (aD (aa (aD (aa (pC (.int 0)) (aa (ag 1) am))) (aa (pC (.str "c")) am))) (aa (aD (aa (aD (aa (pC (.int 0)) (aa (pC (.int 1)) am))) (aa (pC (.str "C")) am))) am))))) (cH (az bf (ag 2) (pC (.int 4)))) (cH (az dJ (az bf (ag 2) (pC (.int 4))) (pC (.int 1)))))):=by
  rw[hSq3]
  generalize ir=z0 at*
  generalize rP kT=z1 at*
  exact⟨_,bh uq4,bA vq4⟩
 clear hSq3 uq4 vq4
 have hSq1:mS= .If vM [kT] [] (iP mS):=rfl
 obtain⟨tq1,uq1,vq1⟩:∃t,PS (kI P w K mg base f cdv A outer s H E) mS t∧SO K E t (et (aG (az fO (dh bV (aa (ag 0) am)) (pC (.int 0)))) (ce (kE kx (aD (aa (aD (aa (aD (aa (pC (.int 0)) am)) (aa (pC (.str "c")) am))) (aa (aD (aa (aD (aa (pC (.int 0)) (aa (pC (.int 1)) am))) (aa (pC (.str "c")) am))) (aa (aD (aa (aD (aa (pC (.int 0)) (aa (ag 1) am))) (aa (pC (.str "c")) am))) (aa (aD (aa (aD (aa (pC (.int 0)) (aa (pC (.int 1)) am))) (aa (pC (.str "C")) am))) am))))) (cH (az bf (ag 2) (pC (.int 4)))) (cH (az dJ (az bf (ag 2) (pC (.int 4))) (pC (.int 1)))))) bv):=by
  rw[hSq1]
  generalize vM=z0 at*
  generalize iP mS=z1 at*
  generalize kT=z2 at*
  exact⟨_,bO uq2 (ay uq3) aR,bX vq2 vq3 bg⟩
 clear hSq1 uq2 vq2 uq3 vq3
 obtain⟨tq12,uq12,vq12⟩:∃t,PS (kI P w K mg base f cdv A outer s H E) Ag t∧SO K E t (bq (az bf (ag 3) (dh bV (aa (ag 0) am))) (gN 4)):=⟨_,(aW (i:=4) cO.nd rfl (Or.inl rfl) (aB bQ (pv 3) (aJ bG rfl z_len de (ac (pv 0) aj))) (hs:=lC)),(aZ (aq bu af (bS cJ (ae af ap))) aA)⟩
 obtain⟨tq13,uq13,vq13⟩:∃t,PS (kI P w K mg base f cdv A outer s H E) yI t∧SO K E t (bq (az bC (ag 0) (ag 4)) (gT 2 (nb (gN 5) (nb (gN 6) yY)))):=⟨_,(sR (bp aM (pv 0) (pv 4) (fun _ _=>rfl)) (mw rfl (di (bw (i:=5) cO.nd rfl (Or.inl rfl)) (di (bw (i:=6) cO.nd rfl (Or.inl rfl)) ke)))),(aZ (aq aN af af) (mo (d4 aA (d4 aA l6))))⟩
 obtain⟨tq14,uq14,vq14⟩:∃t,PS (kI P w K mg base f cdv A outer s H E) zZ t∧SO K E t (bq (az cy (ag 3) (dh bV (aa (ag 0) am))) (gN 3)):=⟨_,(aW (i:=3) cO.nd rfl (Or.inl rfl) (aB bT (pv 3) (aJ bG rfl z_len de (ac (pv 0) aj))) (hs:=lC)),(aZ (aq cx af (bS cJ (ae af ap))) aA)⟩
 obtain⟨tq15,uq15,vq15⟩:∃t,PS (kI P w K mg base f cdv A outer s H E) zN t∧SO K E t (et (aG (az fO (ag 2) (pC (.int 0)))) (ce (bx aQ 3 (aa (ag 0) (aa (ag 4) (aa (aD (aa (ag 5) (aa (az bC (cV (aa (pC (.str "A")) (aa (pC (.str "")) (aa (pC (.str "ab")) (aa (pC (.str "-")) am))))) (az bf (ag 3) (pC (.int 4)))) am))) am))))) bv):=⟨_,(bO (aI (cA hu) (pv 2) ah (aL _)) (ay (bh (bt c__law_put hr (ac (pv 0) (ac (pv 4) (ac (aV (ac (pv 5) (ac (bp aM (cC (ac a9 (ac a9 (ac a9 (ac a9 aj))))) (aB bQ (pv 3) ah) (fun _ _=>rfl)) aj))) aj)))))) aR),(bX (aC (aq cB af ai)) (bA (bz (ae af (ae af (ae (aY (ae af (ae (aq aN (cP (ae ba (ae ba (ae ba (ae ba ap))))) (aq bu af ai)) ap))) ap))))) bg)⟩
 obtain⟨tq16,uq16,vq16⟩:∃t,PS (kI P w K mg base f cdv A outer s H E) zv t∧SO K E t (et (aG (az fO (ag 2) (pC (.int 1)))) (ce (bx aQ 3 (aa (ag 0) (aa (ag 4) (aa (aD (aa (kE kx (ag 5) eD (cH (pC (.int 1)))) (aa (ag 6) am))) am))))) bv):=⟨_,(bO (aI (cA hu) (pv 2) ah (aL _)) (ay (bh (bt c__law_put hr (ac (pv 0) (ac (pv 4) (ac (aV (ac (dU gB (pv 5) gl (dI ah)) (ac (pv 6) aj))) aj)))))) aR),(bX (aC (aq cB af ai)) (bA (bz (ae af (ae af (ae (aY (ae (iL jR af fC (c8 ai)) (ae af ap))) ap))))) bg)⟩
 obtain⟨tq17,uq17,vq17⟩:∃t,PS (kI P w K mg base f cdv A outer s H E) zf t∧SO K E t (et (aG (az fO (ag 2) (pC (.int 2)))) (ce (bx aQ 3 (aa (ag 0) (aa (ag 4) (aa (aD (aa (qY L9.Aw (ag 5)) (aa (ag 6) am))) am))))) bv):=⟨_,(bO (aI (cA hu) (pv 2) ah (aL _)) (ay (bh (bt c__law_put hr (ac (pv 0) (ac (pv 4) (ac (aV (ac (DK (pv 5) (dI (mM jS ah))) (ac (pv 6) aj))) aj)))))) aR),(bX (aC (aq cB af ai)) (bA (bz (ae af (ae af (ae (aY (ae (L9.DS af) (ae af ap))) ap))))) bg)⟩
 obtain⟨tq18,uq18,vq18⟩:∃t,PS (kI P w K mg base f cdv A outer s H E) y9 t∧SO K E t (et (aG (az fO (ag 2) (pC (.int 3)))) (ce (bx aQ 3 (aa (ag 0) (aa (ag 4) (aa (aD (aa (az dJ (ag 5) (kE kx (ag 5) (cH (qY kW (pC (.int 1)))) eD)) (aa (ag 6) am))) am))))) bv):=⟨_,(bO (aI (cA hu) (pv 2) ah (aL _)) (ay (bh (bt c__law_put hr (ac (pv 0) (ac (pv 4) (ac (aV (ac (aB eH (pv 5) (dU gB (pv 5) (dI (mM jS ah)) gl)) (ac (pv 6) aj))) aj)))))) aR),(bX (aC (aq cB af ai)) (bA (bz (ae af (ae af (ae (aY (ae (aq dG af (iL jR af (c8 (ql kt ai)) fC)) (ae af ap))) ap))))) bg)⟩
 obtain⟨tq19,uq19,vq19⟩:∃t,PS (kI P w K mg base f cdv A outer s H E) zI t∧SO K E t (et (aG (az fO (ag 2) (pC (.int 4)))) (ce (bx aQ 3 (aa (ag 0) (aa (ag 4) (aa (aD (aa (dh lM (aa (dh L9.jv (aa (az dJ (ag 5) (aD (aa (az jG (az bf (ag 3) (az dJ (ag 1) (pC (.int 2)))) (pC (.int 1))) am))) am)) am)) (aa (ag 6) am))) am))))) bv):=⟨_,(bO (aI (cA hu) (pv 2) ah (aL _)) (ay (bh (bt c__law_put hr (ac (pv 0) (ac (pv 4) (ac (aV (ac (dc cL rfl z_tuple gW (ac (aJ L9.lw rfl z_sorted uf (ac (aB eH (pv 5) (aV (ac (aB jh (aB bQ (pv 3) (aB eH (pv 1) ah)) ah) aj))) aj)) aj)) (ac (pv 6) aj))) aj)))))) aR),(bX (aC (aq cB af ai)) (bA (bz (ae af (ae af (ae (aY (ae (bS fT (ae (bS L9.pj (ae (aq dG af (aY (ae (aq ig (aq bu af (aq dG af ai)) ai) ap))) ap)) ap)) (ae af ap))) ap))))) bg)⟩
 obtain⟨tq20,uq20,vq20⟩:∃t,PS (kI P w K mg base f cdv A outer s H E) vV t∧SO K E t (et (aG (az fO (ag 2) (pC (.int 5)))) (ce (az dJ (ag 0) (aD (aa (aD (aa (ag 5) (aa (az bC (cV (aa (ag 6) (aa (pC (.str "k")) am))) (az bf (ag 3) (pC (.int 2)))) am))) am)))) bv):=⟨_,(bO (aI (cA hu) (pv 2) ah (aL _)) (ay (bh (aB eH (pv 0) (aV (ac (aV (ac (pv 5) (ac (bp aM (cC (ac (pv 6) (ac a9 aj))) (aB bQ (pv 3) ah) (fun _ _=>rfl)) aj))) aj))))) aR),(bX (aC (aq cB af ai)) (bA (aq dG af (aY (ae (aY (ae af (ae (aq aN (cP (ae af (ae ba ap))) (aq bu af ai)) ap))) ap)))) bg)⟩
 obtain⟨tq23,uq23,vq23⟩:∃t,PE (kI P w K mg base f cdv A outer s H E) u6 t∧EO K E t (ag 0):=⟨_,(pv 0),af⟩
 obtain⟨tq26,uq26,vq26⟩:∃t,PE (kI P w K mg base f cdv A outer s H E) sC t∧EO K E t (aD (aa (aD (aa (pC (.int 0)) (aa (pC (.int 1)) am))) (aa (pC (.str "e")) am))):=⟨_,(aV (ac (aV (ac ah (ac ah aj))) (ac a9 aj))),(aY (ae (aY (ae ai (ae ai ap))) (ae ba ap)))⟩
 obtain⟨tq27,uq27,vq27⟩:∃t,PE (kI P w K mg base f cdv A outer s H E) qJ t∧EO K E t (aD (aa (aD (aa (pC (.int 0)) (aa (pC (.int 2)) am))) (aa (pC (.str "f")) am))):=⟨_,(aV (ac (aV (ac ah (ac ah aj))) (ac a9 aj))),(aY (ae (aY (ae ai (ae ai ap))) (ae ba ap)))⟩
 obtain⟨tq28,uq28,vq28⟩:∃t,PE (kI P w K mg base f cdv A outer s H E) sI t∧EO K E t (aD (aa (aD (aa (pC (.int 1)) (aa (pC (.int 2)) am))) (aa (pC (.str "g")) am))):=⟨_,(aV (ac (aV (ac ah (ac ah aj))) (ac a9 aj))),(aY (ae (aY (ae ai (ae ai ap))) (ae ba ap)))⟩
 obtain⟨tq29,uq29,vq29⟩:∃t,PE (kI P w K mg base f cdv A outer s H E) sF t∧EO K E t (aD (aa (aD (aa (pC (.int 0)) (aa (pC (.int 1)) (aa (pC (.int 2)) am)))) (aa (pC (.str "h")) am))):=⟨_,(aV (ac (aV (ac ah (ac ah (ac ah aj)))) (ac a9 aj))),(aY (ae (aY (ae ai (ae ai (ae ai ap)))) (ae ba ap)))⟩
 obtain⟨tq30,uq30,vq30⟩:∃t,PE (kI P w K mg base f cdv A outer s H E) qW t∧EO K E t (aD (aa (aD (aa (pC (.int 1)) (aa (pC (.int 3)) am))) (aa (pC (.str "i")) am))):=⟨_,(aV (ac (aV (ac ah (ac ah aj))) (ac a9 aj))),(aY (ae (aY (ae ai (ae ai ap))) (ae ba ap)))⟩
 have stq25_0:d9 sC=false:=rfl
 have stq25_1:d9 qJ=false:=rfl
 have stq25_2:d9 sI=false:=rfl
 have stq25_3:d9 sF=false:=rfl
 have stq25_4:d9 qW=false:=rfl
 obtain⟨xq25,pq25,hLq25⟩:∃x1 pp,jy= .Tuple [sC,qJ,sI,sF,qW] x1 pp:=⟨_,_,rfl⟩
 obtain⟨tq25,uq25,vq25⟩:∃t,PE (kI P w K mg base f cdv A outer s H E) jy t∧EO K E t (aD (aa (aD (aa (aD (aa (pC (.int 0)) (aa (pC (.int 1)) am))) (aa (pC (.str "e")) am))) (aa (aD (aa (aD (aa (pC (.int 0)) (aa (pC (.int 2)) am))) (aa (pC (.str "f")) am))) (aa (aD (aa (aD (aa (pC (.int 1)) (aa (pC (.int 2)) am))) (aa (pC (.str "g")) am))) (aa (aD (aa (aD (aa (pC (.int 0)) (aa (pC (.int 1)) (aa (pC (.int 2)) am)))) (aa (pC (.str "h")) am))) (aa (aD (aa (aD (aa (pC (.int 1)) (aa (pC (.int 3)) am))) (aa (pC (.str "i")) am))) am)))))):=by
  rw[hLq25]
  generalize sC=z0 at*
  generalize qJ=z1 at*
  generalize sI=z2 at*
  generalize sF=z3 at*
  generalize qW=z4 at*
  exact⟨_,aV (jt uq26 (jt uq27 (jt uq28 (jt uq29 (jt uq30 aj stq25_4) stq25_3) stq25_2) stq25_1) stq25_0),aY (ae vq26 (ae vq27 (ae vq28 (ae vq29 (ae vq30 ap)))))⟩
 clear hLq25 stq25_0 stq25_1 stq25_2 stq25_3 stq25_4 uq26 vq26 uq27 vq27 uq28 vq28 uq29 vq29 uq30 vq30
 obtain⟨tq31,uq31,vq31⟩:∃t,PO (kI P w K mg base f cdv A outer s H E) vQ t∧C9 K E t (cH (dh bV (aa (ag 0) am))):=⟨_,dI (aJ bG rfl z_len de (ac (pv 0) aj)),c8 (bS cJ (ae af ap))⟩
 obtain⟨tq32,uq32,vq32⟩:∃t,PO (kI P w K mg base f cdv A outer s H E) u8 t∧C9 K E t eD:=⟨_,gl,fC⟩
 have hLq24:iq= .Subscript jy (.Slice vQ u8 none (GM (ss iq))) (sP iq):=rfl
 obtain⟨tq24,uq24,vq24⟩:∃t,PE (kI P w K mg base f cdv A outer s H E) iq t∧EO K E t (kE kx (aD (aa (aD (aa (aD (aa (pC (.int 0)) (aa (pC (.int 1)) am))) (aa (pC (.str "e")) am))) (aa (aD (aa (aD (aa (pC (.int 0)) (aa (pC (.int 2)) am))) (aa (pC (.str "f")) am))) (aa (aD (aa (aD (aa (pC (.int 1)) (aa (pC (.int 2)) am))) (aa (pC (.str "g")) am))) (aa (aD (aa (aD (aa (pC (.int 0)) (aa (pC (.int 1)) (aa (pC (.int 2)) am)))) (aa (pC (.str "h")) am))) (aa (aD (aa (aD (aa (pC (.int 1)) (aa (pC (.int 3)) am))) (aa (pC (.str "i")) am))) am)))))) (cH (dh bV (aa (ag 0) am))) eD):=by
  rw[hLq24]
  generalize jy=z0 at*
  generalize vQ=z1 at*
  generalize u8=z2 at*
  generalize GM (ss iq)=z3 at*
  generalize sP iq=z4 at*
  exact⟨_,dU gB uq25 uq31 uq32,iL jR vq25 vq31 vq32⟩
 clear hLq24 uq25 vq25 uq31 vq31 uq32 vq32
 have hLq22:j6= .BinOp u6 .Add iq (bP j6):=rfl
 obtain⟨tq22,uq22,vq22⟩:∃t,PE (kI P w K mg base f cdv A outer s H E) j6 t∧EO K E t (az dJ (ag 0) (kE kx (aD (aa (aD (aa (aD (aa (pC (.int 0)) (aa (pC (.int 1)) am))) (aa (pC (.str "e")) am))) (aa (aD (aa (aD (aa (pC (.int 0)) (aa (pC (.int 2)) am))) (aa (pC (.str "f")) am))) (aa (aD (aa (aD (aa (pC (.int 1)) (aa (pC (.int 2)) am))) (aa (pC (.str "g")) am))) (aa (aD (aa (aD (aa (pC (.int 0)) (aa (pC (.int 1)) (aa (pC (.int 2)) am)))) (aa (pC (.str "h")) am))) (aa (aD (aa (aD (aa (pC (.int 1)) (aa (pC (.int 3)) am))) (aa (pC (.str "i")) am))) am)))))) (cH (dh bV (aa (ag 0) am))) eD)):=by
  rw[hLq22]
  generalize u6=z0 at*
  generalize iq=z1 at*
  generalize bP j6=z2 at*
  exact⟨_,aB eH uq23 uq24,aq dG vq23 vq24⟩
 clear hLq22 uq23 vq23 uq24 vq24
 have hSq21:kP= .Return (some j6) (rP kP):=rfl
 obtain⟨tq21,uq21,vq21⟩:∃t,PS (kI P w K mg base f cdv A outer s H E) kP t∧SO K E t (ce (az dJ (ag 0) (kE kx (aD (aa (aD (aa (aD (aa (pC (.int 0)) (aa (pC (.int 1)) am))) (aa (pC (.str "e")) am))) (aa (aD (aa (aD (aa (pC (.int 0)) (aa (pC (.int 2)) am))) (aa (pC (.str "f")) am))) (aa (aD (aa (aD (aa (pC (.int 1)) (aa (pC (.int 2)) am))) (aa (pC (.str "g")) am))) (aa (aD (aa (aD (aa (pC (.int 0)) (aa (pC (.int 1)) (aa (pC (.int 2)) am)))) (aa (pC (.str "h")) am))) (aa (aD (aa (aD (aa (pC (.int 1)) (aa (pC (.int 3)) am))) (aa (pC (.str "i")) am))) am)))))) (cH (dh bV (aa (ag 0) am))) eD))):=by
  rw[hSq21]
  generalize j6=z0 at*
  generalize rP kP=z1 at*
  exact⟨_,bh uq22,bA vq22⟩
 clear hSq21 uq22 vq22
 have hb:(ax (top 43))=[mS,Ag,yI,zZ,zN,zv,zf,y9,zI,vV,kP]:=rfl
 rw[hb]
 generalize mS=z0 at*
 generalize Ag=z1 at*
 generalize yI=z2 at*
 generalize zZ=z3 at*
 generalize zN=z4 at*
 generalize zv=z5 at*
 generalize zf=z6 at*
 generalize y9=z7 at*
 generalize zI=z8 at*
 generalize vV=z9 at*
 generalize kP=z10 at*
 exact⟨_,(au uq1
   (au uq12
   (au uq13
   (au uq14
   (au uq15
   (au uq16
   (au uq17
   (au uq18
   (au uq19
   (au uq20
   (ay uq21))))))))))),(aH vq1
   (aH vq12
   (aH vq13
   (aH vq14
   (aH vq15
   (aH vq16
   (aH vq17
   (aH vq18
   (aH vq19
   (aH vq20
   vq21))))))))))⟩
theorem d7:FnScope ["_law_x","_law_layers","_law_sign","_law_there","_law_some"] ["_law_x","_law_layers"] (aw (top 42)):=⟨rfl,rfl,rfl,by decide+kernel,rfl,by decide+kernel,by decide+kernel⟩
noncomputable abbrev tj (P:Program) (w:World) (K:PySem.W.Frag) (mg:Str→Option Value) (base:Heap) (f:Addr) (cdv:Value) (A:Around) (outer:List Env) (s:Shared) (H:Hp) (E:XK):Cx:=(fJ gX P w K mg base ["_law_x","_law_layers","_law_sign","_law_there","_law_some"] "_law_bad_meaning" (aw (top 42)) f cdv A outer s H E).nox
noncomputable def AD:Stmt:=(ax (top 42)).getD 0 DP
noncomputable def Ap:Stmt:=(ax (top 42)).getD 1 DP
noncomputable def jO:Stmt:=(ax (top 42)).getD 2 DP
noncomputable def pi:Stmt:=(ax (top 42)).getD 3 DP
noncomputable def lU:Expr:=av jO
noncomputable def xq:Expr:=(le lU).getD 0 DE
noncomputable def wD:Expr:=(le lU).getD 1 DE
noncomputable def wY:Expr:=(le lU).getD 2 DE
noncomputable def vX:Expr:=(le lU).getD 3 DE
noncomputable def jQ:Expr:=GX pi
noncomputable def jU:Expr:=sv jQ
noncomputable def rG:Expr:=ss jQ
noncomputable def vq:Expr:=bl jU
noncomputable def k8:Expr:=br jU
noncomputable def r8:Expr:=(le k8).getD 0 DE
noncomputable def rK:Expr:=(le k8).getD 1 DE
noncomputable def qO:Expr:=(le k8).getD 2 DE
theorem kB (F:Fun K "_law_bad_meaning" "_law_bad_meaning" (top 42) f fd):FnOk P w K mg base gX 1 f fd ["_law_x","_law_layers"] (i8 K 2 cf):=by
 refine oM (k:=0) (n:=2) (m:=5) (g:=gf) (FF:=cf) F d7 rfl rfl rfl (fun cdv A outer s H E hr=> ?_)
 have hu:=hr.units
 have hv:(A.deeper (PyProof.Rows.envOfC "_law_bad_meaning" (aw (top 42)) s.heap.objs.size f cdv)).units+65<cLine:=by have:=hr.un;omega
 obtain⟨tq1,uq1,vq1⟩:∃t,PS (tj P w K mg base f cdv A outer s H E) AD t∧SO K E t (bq (az bC (cV (aa (pC (.str "A")) (aa (pC (.str "")) (aa (pC (.str "ab")) (aa (pC (.str "1")) (aa (pC (.str "b")) am)))))) (az bf (ag 0) (pC (.int 5)))) (gN 2)):=⟨_,(aW (i:=2) d7.nd rfl (Or.inl rfl) (bp aM (cC (ac a9 (ac a9 (ac a9 (ac a9 (ac a9 aj)))))) (aB bQ (pv 0) ah) (fun _ _=>rfl)) (hs:=eM)),(aZ (aq aN (cP (ae ba (ae ba (ae ba (ae ba (ae ba ap)))))) (aq bu af ai)) aA)⟩
 obtain⟨tq2,uq2,vq2⟩:∃t,PS (tj P w K mg base f cdv A outer s H E) Ap t∧SO K E t (bq (az bC (cV (aa (pC (.int 0)) (aa (qY kW (pC (.int 1))) (aa (ag 1) (aa (az ji (pC (.int 10)) (pC (.int 19))) (aa (pC (.int 1)) am)))))) (az bf (az cy (ag 0) (pC (.int 5))) (pC (.int 5)))) (gN 3)):=⟨_,(aW (i:=3) d7.nd rfl (Or.inl rfl) (bp aM (cC (ac ah (ac (mM jS ah) (ac (pv 1) (ac (aB iR ah ah) (ac ah aj)))))) (aB bQ (aB bT (pv 0) ah) ah) (fun _ _=>rfl)) (hs:=eM)),(aZ (aq aN (cP (ae ai (ae (ql kt ai) (ae af (ae (aq gS ai ai) (ae ai ap)))))) (aq bu (aq cx af ai) ai)) aA)⟩
 obtain⟨tq5,uq5,vq5⟩:∃t,PE (tj P w K mg base f cdv A outer s H E) xq t∧EO K E t (aD (aa (pC (.str "letter")) (aa (ag 2) am))):=⟨_,(aV (ac a9 (ac (pv 2) aj))),(aY (ae ba (ae af ap)))⟩
 obtain⟨tq6,uq6,vq6⟩:∃t,PE (tj P w K mg base f cdv A outer s H E) wD t∧EO K E t (aD (aa (pC (.str "tap")) (aa (ag 2) (aa (pC (.int 1)) am)))):=⟨_,(aV (ac a9 (ac (pv 2) (ac ah aj)))),(aY (ae ba (ae af (ae ai ap))))⟩
 obtain⟨tq7,uq7,vq7⟩:∃t,PE (tj P w K mg base f cdv A outer s H E) wY t∧EO K E t (aD (aa (pC (.str "tap")) (aa (pC (.str "q")) (aa (ag 3) am)))):=⟨_,(aV (ac a9 (ac a9 (ac (pv 3) aj)))),(aY (ae ba (ae ba (ae af ap))))⟩
 obtain⟨tq8,uq8,vq8⟩:∃t,PE (tj P w K mg base f cdv A outer s H E) vX t∧EO K E t (aD (aa (pC (.str "layer")) (aa (ag 3) am))):=⟨_,(aV (ac a9 (ac (pv 3) aj))),(aY (ae ba (ae af ap)))⟩
 have stq4_0:d9 xq=false:=rfl
 have stq4_1:d9 wD=false:=rfl
 have stq4_2:d9 wY=false:=rfl
 have stq4_3:d9 vX=false:=rfl
 obtain⟨pq4,hLq4⟩:∃pp,lU= .List [xq,wD,wY,vX] pp:=⟨_,rfl⟩
 obtain⟨tq4,uq4,vq4⟩:∃t,PE (tj P w K mg base f cdv A outer s H E) lU t∧EO K E t (cV (aa (aD (aa (pC (.str "letter")) (aa (ag 2) am))) (aa (aD (aa (pC (.str "tap")) (aa (ag 2) (aa (pC (.int 1)) am)))) (aa (aD (aa (pC (.str "tap")) (aa (pC (.str "q")) (aa (ag 3) am)))) (aa (aD (aa (pC (.str "layer")) (aa (ag 3) am))) am))))):=by
  rw[hLq4]
  generalize xq=z0 at*
  generalize wD=z1 at*
  generalize wY=z2 at*
  generalize vX=z3 at*
  exact⟨_,cC (jt uq5 (jt uq6 (jt uq7 (jt uq8 aj stq4_3) stq4_2) stq4_1) stq4_0),cP (ae vq5 (ae vq6 (ae vq7 (ae vq8 ap))))⟩
 clear hLq4 stq4_0 stq4_1 stq4_2 stq4_3 uq5 vq5 uq6 vq6 uq7 vq7 uq8 vq8
 have hSq3:jO= .Assign [.Name "_law_some" (nP jO)] lU (aP jO):=rfl
 have swq3:swapsWith lU (some (.Name "_law_some" (nP jO))) (aP jO).line (tj P w K mg base f cdv A outer s H E).env=pure false:=rfl
 obtain⟨tq3,uq3,vq3⟩:∃t,PS (tj P w K mg base f cdv A outer s H E) jO t∧SO K E t (bq (cV (aa (aD (aa (pC (.str "letter")) (aa (ag 2) am))) (aa (aD (aa (pC (.str "tap")) (aa (ag 2) (aa (pC (.int 1)) am)))) (aa (aD (aa (pC (.str "tap")) (aa (pC (.str "q")) (aa (ag 3) am)))) (aa (aD (aa (pC (.str "layer")) (aa (ag 3) am))) am))))) (gN 4)):=by
  rw[hSq3]
  generalize lU=z0 at*
  generalize nP jO=z1 at*
  generalize aP jO=z2 at*
  exact⟨_,aW (i:=4) d7.nd rfl (Or.inl rfl) uq4 (hs:=swq3),aZ vq4 aA⟩
 clear hSq3 swq3 uq4 vq4
 obtain⟨tq12,uq12,vq12⟩:∃t,PE (tj P w K mg base f cdv A outer s H E) vq t∧EO K E t (ag 4):=⟨_,(pv 4),af⟩
 obtain⟨tq14,uq14,vq14⟩:∃t,PE (tj P w K mg base f cdv A outer s H E) r8 t∧EO K E t (aD (aa (pC (.str "once")) (aa (ag 3) am))):=⟨_,(aV (ac a9 (ac (pv 3) aj))),(aY (ae ba (ae af ap)))⟩
 obtain⟨tq15,uq15,vq15⟩:∃t,PE (tj P w K mg base f cdv A outer s H E) rK t∧EO K E t (aD (aa (pC (.str "below")) am)):=⟨_,(aV (ac a9 aj)),(aY (ae ba ap))⟩
 obtain⟨tq16,uq16,vq16⟩:∃t,PE (tj P w K mg base f cdv A outer s H E) qO t∧EO K E t (aD (aa (pC (.str "tap")) (aa (pC (.str "q")) (aa (pC (.int 0)) am)))):=⟨_,(aV (ac a9 (ac a9 (ac ah aj)))),(aY (ae ba (ae ba (ae ai ap))))⟩
 have stq13_0:d9 r8=false:=rfl
 have stq13_1:d9 rK=false:=rfl
 have stq13_2:d9 qO=false:=rfl
 obtain⟨pq13,hLq13⟩:∃pp,k8= .List [r8,rK,qO] pp:=⟨_,rfl⟩
 obtain⟨tq13,uq13,vq13⟩:∃t,PE (tj P w K mg base f cdv A outer s H E) k8 t∧EO K E t (cV (aa (aD (aa (pC (.str "once")) (aa (ag 3) am))) (aa (aD (aa (pC (.str "below")) am)) (aa (aD (aa (pC (.str "tap")) (aa (pC (.str "q")) (aa (pC (.int 0)) am)))) am)))):=by
  rw[hLq13]
  generalize r8=z0 at*
  generalize rK=z1 at*
  generalize qO=z2 at*
  exact⟨_,cC (jt uq14 (jt uq15 (jt uq16 aj stq13_2) stq13_1) stq13_0),cP (ae vq14 (ae vq15 (ae vq16 ap)))⟩
 clear hLq13 stq13_0 stq13_1 stq13_2 uq14 vq14 uq15 vq15 uq16 vq16
 have hLq11:jU= .BinOp vq .Add k8 (bP jU):=rfl
 obtain⟨tq11,uq11,vq11⟩:∃t,PE (tj P w K mg base f cdv A outer s H E) jU t∧EO K E t (az cn (ag 4) (cV (aa (aD (aa (pC (.str "once")) (aa (ag 3) am))) (aa (aD (aa (pC (.str "below")) am)) (aa (aD (aa (pC (.str "tap")) (aa (pC (.str "q")) (aa (pC (.int 0)) am)))) am))))):=by
  rw[hLq11]
  generalize vq=z0 at*
  generalize k8=z1 at*
  generalize bP jU=z2 at*
  exact⟨_,aB bE uq12 uq13,aq bF vq12 vq13⟩
 clear hLq11 uq12 vq12 uq13 vq13
 obtain⟨tq17,uq17,vq17⟩:∃t,PE (tj P w K mg base f cdv A outer s H E) rG t∧EO K E t (az bf (az cy (ag 0) (pC (.int 25))) (pC (.int 7))):=⟨_,(aB bQ (aB bT (pv 0) ah) ah),(aq bu (aq cx af ai) ai)⟩
 have hpq10:qH rG:=fun _ _=>rfl
 have hLq10:jQ= .Subscript jU rG (sP jQ):=rfl
 obtain⟨tq10,uq10,vq10⟩:∃t,PE (tj P w K mg base f cdv A outer s H E) jQ t∧EO K E t (az bC (az cn (ag 4) (cV (aa (aD (aa (pC (.str "once")) (aa (ag 3) am))) (aa (aD (aa (pC (.str "below")) am)) (aa (aD (aa (pC (.str "tap")) (aa (pC (.str "q")) (aa (pC (.int 0)) am)))) am))))) (az bf (az cy (ag 0) (pC (.int 25))) (pC (.int 7)))):=by
  rw[hLq10]
  generalize jU=z0 at*
  generalize rG=z1 at*
  generalize sP jQ=z2 at*
  exact⟨_,bp aM uq11 uq17 hpq10,aq aN vq11 vq17⟩
 clear hpq10 hLq10 uq11 vq11 uq17 vq17
 have hSq9:pi= .Return (some jQ) (rP pi):=rfl
 obtain⟨tq9,uq9,vq9⟩:∃t,PS (tj P w K mg base f cdv A outer s H E) pi t∧SO K E t (ce (az bC (az cn (ag 4) (cV (aa (aD (aa (pC (.str "once")) (aa (ag 3) am))) (aa (aD (aa (pC (.str "below")) am)) (aa (aD (aa (pC (.str "tap")) (aa (pC (.str "q")) (aa (pC (.int 0)) am)))) am))))) (az bf (az cy (ag 0) (pC (.int 25))) (pC (.int 7))))):=by
  rw[hSq9]
  generalize jQ=z0 at*
  generalize rP pi=z1 at*
  exact⟨_,bh uq10,bA vq10⟩
 clear hSq9 uq10 vq10
 have hb:(ax (top 42))=[AD,Ap,jO,pi]:=rfl
 rw[hb]
 generalize AD=z0 at*
 generalize Ap=z1 at*
 generalize jO=z2 at*
 generalize pi=z3 at*
 exact⟨_,(au uq1
   (au uq2
   (au uq3
   (ay uq9)))),(aH vq1
   (aH vq2
   (aH vq3
   vq9)))⟩
theorem bn:FnScope ["_law_bed_here","_law_way","_law_x","_law_keys","_law_layers","_law_chords","_law_wait","_law_spoilt","_law_at","_law_row","_law_meaning_here"] ["_law_bed_here","_law_way","_law_x"] (aw (top 44)):=⟨rfl,rfl,rfl,by decide+kernel,rfl,by decide+kernel,by decide+kernel⟩
noncomputable abbrev wf (P:Program) (w:World) (K:PySem.W.Frag) (mg:Str→Option Value) (base:Heap) (f:Addr) (cdv:Value) (A:Around) (outer:List Env) (s:Shared) (H:Hp) (E:XK):Cx:=(fJ gX P w K mg base ["_law_bed_here","_law_way","_law_x","_law_keys","_law_layers","_law_chords","_law_wait","_law_spoilt","_law_at","_law_row","_law_meaning_here"] "_law_changed" (aw (top 44)) f cdv A outer s H E).nox
noncomputable def yV:Stmt:=(ax (top 44)).getD 0 DP
noncomputable def Af:Stmt:=(ax (top 44)).getD 1 DP
noncomputable def zE:Stmt:=(ax (top 44)).getD 2 DP
noncomputable def yF:Stmt:=(ax (top 44)).getD 3 DP
noncomputable def AV:Stmt:=(ax (top 44)).getD 4 DP
noncomputable def i6:Stmt:=(ax (top 44)).getD 5 DP
noncomputable def zi:Stmt:=(ax (top 44)).getD 6 DP
noncomputable def zT:Expr:=iT i6
noncomputable def zK:Stmt:=(fb i6).getD 0 DP
noncomputable def vO:Stmt:=(fb i6).getD 1 DP
noncomputable def uW:Stmt:=(fb i6).getD 2 DP
noncomputable def vG:Stmt:=(fb i6).getD 3 DP
noncomputable def vw:Stmt:=(fb i6).getD 4 DP
noncomputable def vi:Stmt:=(fb i6).getD 5 DP
theorem nE (F:Fun K "_law_changed" "_law_changed" (top 44) f fd) (c__law_put:cW P w K mg base 1 "_law_put" ["_law_row","_law_at","_law_thing"] 3 aQ) (c__law_chords_changed:cW P w K mg base 2 "_law_chords_changed" ["_law_chords","_law_keys","_law_way","_law_x"] 4 b8) (c__law_bad_meaning:cW P w K mg base 1 "_law_bad_meaning" ["_law_x","_law_layers"] 2 cf) (z_len:mg "len"=none) (z_max:mg "max"=none):FnOk P w K mg base gX 3 f fd ["_law_bed_here","_law_way","_law_x"] (i8 K 3 cZ):=by
 refine oM (k:=2) (n:=3) (m:=11) (g:=gA) (FF:=cZ) F bn rfl rfl rfl (fun cdv A outer s H E hr=> ?_)
 have hu:=hr.units
 have hv:(A.deeper (PyProof.Rows.envOfC "_law_changed" (aw (top 44)) s.heap.objs.size f cdv)).units+65<cLine:=by have:=hr.un;omega
 obtain⟨tq1,uq1,vq1⟩:∃t,PS (wf P w K mg base f cdv A outer s H E) yV t∧SO K E t (bq (ag 0) (gT 4 (nb (gN 3) (nb (gN 4) (nb (gN 5) (nb (gN 6) yY)))))):=⟨_,(sR (pv 0) (mw rfl (di (bw (i:=3) bn.nd rfl (Or.inl rfl)) (di (bw (i:=4) bn.nd rfl (Or.inl rfl)) (di (bw (i:=5) bn.nd rfl (Or.inl rfl)) (di (bw (i:=6) bn.nd rfl (Or.inl rfl)) ke)))))),(aZ af (mo (d4 aA (d4 aA (d4 aA (d4 aA l6))))))⟩
 obtain⟨tq2,uq2,vq2⟩:∃t,PS (wf P w K mg base f cdv A outer s H E) Af t∧SO K E t (et (aG (az fO (ag 1) (pC (.int 0)))) (bq (az bC (cV (aa (pC (.int 0)) (aa (pC (.int 6)) (aa (az dJ (ag 3) (pC (.int 1))) (aa (az jG (ag 3) (pC (.int 1))) (aa (az ji (pC (.int 10)) (pC (.int 19))) am)))))) (az bf (ag 2) (pC (.int 5)))) (gN 3)) bv):=⟨_,(bO (aI (cA hu) (pv 1) ah (aL _)) (ay (aW (i:=3) bn.nd rfl (Or.inl rfl) (bp aM (cC (ac ah (ac ah (ac (aB eH (pv 3) ah) (ac (aB jh (pv 3) ah) (ac (aB iR ah ah) aj)))))) (aB bQ (pv 2) ah) (fun _ _=>rfl)) (hs:=eM))) aR),(bX (aC (aq cB af ai)) (aZ (aq aN (cP (ae ai (ae ai (ae (aq dG af ai) (ae (aq ig af ai) (ae (aq gS ai ai) ap)))))) (aq bu af ai)) aA) bg)⟩
 obtain⟨tq3,uq3,vq3⟩:∃t,PS (wf P w K mg base f cdv A outer s H E) zE t∧SO K E t (et (aG (az fO (ag 1) (pC (.int 1)))) (bq (az bC (cV (aa (pC (.int 0)) (aa (pC (.int 5)) (aa (qY kW (pC (.int 1))) (aa (az ji (pC (.int 10)) (pC (.int 19))) am))))) (az bf (ag 2) (pC (.int 4)))) (gN 6)) bv):=⟨_,(bO (aI (cA hu) (pv 1) ah (aL _)) (ay (aW (i:=6) bn.nd rfl (Or.inl rfl) (bp aM (cC (ac ah (ac ah (ac (mM jS ah) (ac (aB iR ah ah) aj))))) (aB bQ (pv 2) ah) (fun _ _=>rfl)) (hs:=eM))) aR),(bX (aC (aq cB af ai)) (aZ (aq aN (cP (ae ai (ae ai (ae (ql kt ai) (ae (aq gS ai ai) ap))))) (aq bu af ai)) aA) bg)⟩
 obtain⟨tq4,uq4,vq4⟩:∃t,PS (wf P w K mg base f cdv A outer s H E) yF t∧SO K E t (et (gb (aG (az fO (ag 1) (pC (.int 13)))) (gb (aG (az my (dh bV (aa (ag 4) am)) (pC (.int 1)))) (aG (az my (dh bV (aa (az bC (ag 4) (pC (.int 0))) am)) (pC (.int 0)))))) (aO (bq (bx aQ 3 (aa (az bC (ag 4) (pC (.int 0))) (aa (az bf (ag 2) (dh bV (aa (az bC (ag 4) (pC (.int 0))) am))) (aa (aD (aa (pC (.str "below")) am)) am)))) (gN 7))
 (bq (bx aQ 3 (aa (bx aQ 3 (aa (ag 4) (aa (pC (.int 0)) (aa (ag 7) am)))) (aa (pC (.int 1)) (aa (az dJ (az bC (ag 4) (pC (.int 1))) (aD (aa (aD (aa (pC (.str "none")) am)) am))) am)))) (gN 4))) bv):=⟨_,(bO (PW.pt (fP (aI (cA hu) (pv 1) ah (aL _)) (fP (aI iJ (aJ bG rfl z_len de (ac (pv 4) aj)) ah (aL _)) (eG (aI iJ (aJ bG rfl z_len de (ac (bp aM (pv 4) ah (fun _ _=>rfl)) aj)) ah (aL _)))))) (au (aW (i:=7) bn.nd rfl (Or.inl rfl) (bt c__law_put hr (ac (bp aM (pv 4) ah (fun _ _=>rfl)) (ac (aB bQ (pv 2) (aJ bG rfl z_len de (ac (bp aM (pv 4) ah (fun _ _=>rfl)) aj))) (ac (aV (ac a9 aj)) aj)))) (hs:=gP))
   (ay (aW (i:=4) bn.nd rfl (Or.inl rfl) (bt c__law_put hr (ac (bt c__law_put hr (ac (pv 4) (ac ah (ac (pv 7) aj)))) (ac ah (ac (aB eH (bp aM (pv 4) ah (fun _ _=>rfl)) (aV (ac (aV (ac a9 aj)) aj))) aj)))) (hs:=gP)))) aR),(bX (dX (aC (aq cB af ai)) (dX (aC (aq gm (bS cJ (ae af ap)) ai)) (aC (aq gm (bS cJ (ae (aq aN af ai) ap)) ai)))) (aH (aZ (bz (ae (aq aN af ai) (ae (aq bu af (bS cJ (ae (aq aN af ai) ap))) (ae (aY (ae ba ap)) ap)))) aA)
   (aZ (bz (ae (bz (ae af (ae ai (ae af ap)))) (ae ai (ae (aq dG (aq aN af ai) (aY (ae (aY (ae ba ap)) ap))) ap)))) aA)) bg)⟩
 obtain⟨tq5,uq5,vq5⟩:∃t,PS (wf P w K mg base f cdv A outer s H E) AV t∧SO K E t (et (aG (eh me me (pC (.int 5)) (ag 1) (pC (.int 13)))) (bq (bx b8 4 (aa (ag 5) (aa (dh jE (aa (pC (.int 1)) (aa (az bf (ag 3) (pC (.int 7))) am))) (aa (az jG (ag 1) (pC (.int 6))) (aa (ag 2) am))))) (gN 5)) bv):=⟨_,(bO (jI hX hX ah (pv 1) ah) (ay (aW (i:=5) bn.nd rfl (Or.inl rfl) (bt c__law_chords_changed hr (ac (pv 5) (ac (aJ (iY rfl) rfl z_max uc (ac ah (ac (aB bQ (pv 3) ah) aj))) (ac (aB jh (pv 1) ah) (ac (pv 2) aj))))) (hs:=gP))) aR),(bX (aC (gs fM fM ai af ai)) (aZ (bz (ae af (ae (bS lP (ae ai (ae (aq bu af ai) ap))) (ae (aq ig af ai) (ae af ap))))) aA) bg)⟩
 obtain⟨tq7,uq7,vq7⟩:∃t,PT (wf P w K mg base f cdv A outer s H E) zT t∧TTO K E t (gb (aG (eh me me (pC (.int 1)) (ag 1) (pC (.int 6)))) (aG (az my (dh bV (aa (ag 4) am)) (pC (.int 0))))):=⟨_,(PW.pt (fP (jI hX hX ah (pv 1) ah) (eG (aI iJ (aJ bG rfl z_len de (ac (pv 4) aj)) ah (aL _))))),(dX (aC (gs fM fM ai af ai)) (aC (aq gm (bS cJ (ae af ap)) ai)))⟩
 obtain⟨tq8,uq8,vq8⟩:∃t,PS (wf P w K mg base f cdv A outer s H E) zK t∧SO K E t (bq (az bf (ag 2) (dh bV (aa (ag 4) am))) (gN 8)):=⟨_,(aW (i:=8) bn.nd rfl (Or.inl rfl) (aB bQ (pv 2) (aJ bG rfl z_len de (ac (pv 4) aj))) (hs:=lC)),(aZ (aq bu af (bS cJ (ae af ap))) aA)⟩
 obtain⟨tq9,uq9,vq9⟩:∃t,PS (wf P w K mg base f cdv A outer s H E) vO t∧SO K E t (bq (az cy (ag 2) (dh bV (aa (ag 4) am))) (gN 2)):=⟨_,(aW (i:=2) bn.nd rfl (Or.inl rfl) (aB bT (pv 2) (aJ bG rfl z_len de (ac (pv 4) aj))) (hs:=lC)),(aZ (aq cx af (bS cJ (ae af ap))) aA)⟩
 obtain⟨tq10,uq10,vq10⟩:∃t,PS (wf P w K mg base f cdv A outer s H E) uW t∧SO K E t (bq (az bC (ag 4) (ag 8)) (gN 9)):=⟨_,(aW (i:=9) bn.nd rfl (Or.inl rfl) (bp aM (pv 4) (pv 8) (fun _ _=>rfl)) (hs:=eM)),(aZ (aq aN af af) aA)⟩
 obtain⟨tq11,uq11,vq11⟩:∃t,PS (wf P w K mg base f cdv A outer s H E) vG t∧SO K E t (et (aG (az fO (ag 1) (pC (.int 2)))) (bq (az bC (cV (aa (az dJ (kE kx (ag 4) eD (cH (ag 8))) (kE kx (ag 4) (cH (az dJ (ag 8) (pC (.int 1)))) eD)) (aa (az dJ (ag 4) (aD (aa (ag 9) am))) am))) (az bf (ag 2) (pC (.int 2)))) (gN 4)) bv):=⟨_,(bO (aI (cA hu) (pv 1) ah (aL _)) (ay (aW (i:=4) bn.nd rfl (Or.inl rfl) (bp aM (cC (ac (aB eH (dU gB (pv 4) gl (dI (pv 8))) (dU gB (pv 4) (dI (aB eH (pv 8) ah)) gl)) (ac (aB eH (pv 4) (aV (ac (pv 9) aj))) aj))) (aB bQ (pv 2) ah) (fun _ _=>rfl)) (hs:=eM))) aR),(bX (aC (aq cB af ai)) (aZ (aq aN (cP (ae (aq dG (iL jR af fC (c8 af)) (iL jR af (c8 (aq dG af ai)) fC)) (ae (aq dG af (aY (ae af ap))) ap))) (aq bu af ai)) aA) bg)⟩
 obtain⟨tq12,uq12,vq12⟩:∃t,PS (wf P w K mg base f cdv A outer s H E) vw t∧SO K E t (et (aG (az fO (ag 1) (pC (.int 3)))) (bq (bx aQ 3 (aa (ag 4) (aa (ag 8) (aa (az bC (cV (aa (kE kx (ag 9) (cH (pC (.int 1))) eD) (aa (az dJ (ag 9) (aD (aa (aD (aa (pC (.str "none")) am)) am))) am))) (az bf (ag 2) (pC (.int 2)))) am)))) (gN 4)) bv):=⟨_,(bO (aI (cA hu) (pv 1) ah (aL _)) (ay (aW (i:=4) bn.nd rfl (Or.inl rfl) (bt c__law_put hr (ac (pv 4) (ac (pv 8) (ac (bp aM (cC (ac (dU gB (pv 9) (dI ah) gl) (ac (aB eH (pv 9) (aV (ac (aV (ac a9 aj)) aj))) aj))) (aB bQ (pv 2) ah) (fun _ _=>rfl)) aj)))) (hs:=gP))) aR),(bX (aC (aq cB af ai)) (aZ (bz (ae af (ae af (ae (aq aN (cP (ae (iL jR af (c8 ai) fC) (ae (aq dG af (aY (ae (aY (ae ba ap)) ap))) ap))) (aq bu af ai)) ap)))) aA) bg)⟩
 obtain⟨tq13,uq13,vq13⟩:∃t,PS (wf P w K mg base f cdv A outer s H E) vi t∧SO K E t (et (gb (aG (az my (ag 1) (pC (.int 3)))) (aG (az my (dh bV (aa (ag 9) am)) (pC (.int 0))))) (aO (bq (bx cf 2 (aa (az cy (ag 2) (dh bV (aa (ag 9) am))) (aa (dh bV (aa (ag 4) am)) am))) (gN 10))
 (bq (bx aQ 3 (aa (ag 4) (aa (ag 8) (aa (bx aQ 3 (aa (ag 9) (aa (az bf (ag 2) (dh bV (aa (ag 9) am))) (aa (ag 10) am)))) am)))) (gN 4))) bv):=⟨_,(bO (PW.pt (fP (aI iJ (pv 1) ah (aL _)) (eG (aI iJ (aJ bG rfl z_len de (ac (pv 9) aj)) ah (aL _))))) (au (aW (i:=10) bn.nd rfl (Or.inl rfl) (bt c__law_bad_meaning hr (ac (aB bT (pv 2) (aJ bG rfl z_len de (ac (pv 9) aj))) (ac (aJ bG rfl z_len de (ac (pv 4) aj)) aj))) (hs:=gP))
   (ay (aW (i:=4) bn.nd rfl (Or.inl rfl) (bt c__law_put hr (ac (pv 4) (ac (pv 8) (ac (bt c__law_put hr (ac (pv 9) (ac (aB bQ (pv 2) (aJ bG rfl z_len de (ac (pv 9) aj))) (ac (pv 10) aj)))) aj)))) (hs:=gP)))) aR),(bX (dX (aC (aq gm af ai)) (aC (aq gm (bS cJ (ae af ap)) ai))) (aH (aZ (bz (ae (aq cx af (bS cJ (ae af ap))) (ae (bS cJ (ae af ap)) ap))) aA)
   (aZ (bz (ae af (ae af (ae (bz (ae af (ae (aq bu af (bS cJ (ae af ap))) (ae af ap)))) ap)))) aA)) bg)⟩
 have hSq6:i6= .If zT [zK,vO,uW,vG,vw,vi] [] (iP i6):=rfl
 obtain⟨tq6,uq6,vq6⟩:∃t,PS (wf P w K mg base f cdv A outer s H E) i6 t∧SO K E t (et (gb (aG (eh me me (pC (.int 1)) (ag 1) (pC (.int 6)))) (aG (az my (dh bV (aa (ag 4) am)) (pC (.int 0))))) (aO (bq (az bf (ag 2) (dh bV (aa (ag 4) am))) (gN 8))
 (aO (bq (az cy (ag 2) (dh bV (aa (ag 4) am))) (gN 2))
 (aO (bq (az bC (ag 4) (ag 8)) (gN 9))
 (aO (et (aG (az fO (ag 1) (pC (.int 2)))) (bq (az bC (cV (aa (az dJ (kE kx (ag 4) eD (cH (ag 8))) (kE kx (ag 4) (cH (az dJ (ag 8) (pC (.int 1)))) eD)) (aa (az dJ (ag 4) (aD (aa (ag 9) am))) am))) (az bf (ag 2) (pC (.int 2)))) (gN 4)) bv)
 (aO (et (aG (az fO (ag 1) (pC (.int 3)))) (bq (bx aQ 3 (aa (ag 4) (aa (ag 8) (aa (az bC (cV (aa (kE kx (ag 9) (cH (pC (.int 1))) eD) (aa (az dJ (ag 9) (aD (aa (aD (aa (pC (.str "none")) am)) am))) am))) (az bf (ag 2) (pC (.int 2)))) am)))) (gN 4)) bv)
 (et (gb (aG (az my (ag 1) (pC (.int 3)))) (aG (az my (dh bV (aa (ag 9) am)) (pC (.int 0))))) (aO (bq (bx cf 2 (aa (az cy (ag 2) (dh bV (aa (ag 9) am))) (aa (dh bV (aa (ag 4) am)) am))) (gN 10))
 (bq (bx aQ 3 (aa (ag 4) (aa (ag 8) (aa (bx aQ 3 (aa (ag 9) (aa (az bf (ag 2) (dh bV (aa (ag 9) am))) (aa (ag 10) am)))) am)))) (gN 4))) bv)))))) bv):=by
  rw[hSq6]
  generalize zT=z0 at*
  generalize iP i6=z1 at*
  generalize zK=z2 at*
  generalize vO=z3 at*
  generalize uW=z4 at*
  generalize vG=z5 at*
  generalize vw=z6 at*
  generalize vi=z7 at*
  exact⟨_,bO uq7 (au uq8
   (au uq9
   (au uq10
   (au uq11
   (au uq12
   (ay uq13)))))) aR,bX vq7 (aH vq8
   (aH vq9
   (aH vq10
   (aH vq11
   (aH vq12
   vq13))))) bg⟩
 clear hSq6 uq7 vq7 uq8 vq8 uq9 vq9 uq10 vq10 uq11 vq11 uq12 vq12 uq13 vq13
 obtain⟨tq14,uq14,vq14⟩:∃t,PS (wf P w K mg base f cdv A outer s H E) zi t∧SO K E t (ce (aD (aa (ag 3) (aa (ag 4) (aa (ag 5) (aa (ag 6) am)))))):=⟨_,(bh (aV (ac (pv 3) (ac (pv 4) (ac (pv 5) (ac (pv 6) aj)))))),(bA (aY (ae af (ae af (ae af (ae af ap))))))⟩
 have hb:(ax (top 44))=[yV,Af,zE,yF,AV,i6,zi]:=rfl
 rw[hb]
 generalize yV=z0 at*
 generalize Af=z1 at*
 generalize zE=z2 at*
 generalize yF=z3 at*
 generalize AV=z4 at*
 generalize i6=z5 at*
 generalize zi=z6 at*
 exact⟨_,(au uq1
   (au uq2
   (au uq3
   (au uq4
   (au uq5
   (au uq6
   (ay uq14))))))),(aH vq1
   (aH vq2
   (aH vq3
   (aH vq4
   (aH vq5
   (aH vq6
   vq14))))))⟩
theorem lZ:FnScope ["_law_sign"] ["_law_sign"] (aw (top 37)):=⟨rfl,rfl,rfl,by decide+kernel,rfl,by decide+kernel,by decide+kernel⟩
theorem lK (F:Fun K "_law_is_letter" "_law_is_letter" (top 37) f fd) (z_len:mg "len"=none):FnOk P w K mg base gX 1 f fd ["_law_sign"] (i8 K 1 cv):=by
 refine oM (k:=0) (n:=1) (m:=1) (g:=gE) (FF:=cv) F lZ rfl rfl rfl (fun cdv A outer s H E hr=> ?_)
 have hu:=hr.units
 have hv:(A.deeper (PyProof.Rows.envOfC "_law_is_letter" (aw (top 37)) s.heap.objs.size f cdv)).units+65<cLine:=by have:=hr.un;omega
 exact⟨_,(ay (bh (sU (fY (cA hu) (aJ bG rfl z_len de (ac (pv 0) aj)) ah (aL _)) (mJ (lV ri ri a9 (pv 0) a9))))),(bA (qI (aq cB (bS wK (ae af ap)) ai) (gs nM nM ba af ba)))⟩
theorem pD:FnScope ["_law_meaning_here","_law_layer","_law_layers"] ["_law_meaning_here","_law_layer","_law_layers"] (aw (top 38)):=⟨rfl,rfl,rfl,by decide+kernel,rfl,by decide+kernel,by decide+kernel⟩
theorem pI (F:Fun K "_law_means" "_law_means" (top 38) f fd) (c__law_is_letter:cW P w K mg base 1 "_law_is_letter" ["_law_sign"] 1 cv):FnOk P w K mg base gX 2 f fd ["_law_meaning_here","_law_layer","_law_layers"] (i8 K 3 fL):=by
 refine oM (k:=1) (n:=3) (m:=3) (g:=ju) (FF:=fL) F pD rfl rfl rfl (fun cdv A outer s H E hr=> ?_)
 have hu:=hr.units
 have hv:(A.deeper (PyProof.Rows.envOfC "_law_means" (aw (top 38)) s.heap.objs.size f cdv)).units+65<cLine:=by have:=hr.un;omega
 exact⟨_,(au (bO (PW.pt (fP (aI (ma hv) (bp aM (pv 0) ah (fun _ _=>rfl)) (cC (ac a9 (ac a9 aj))) (by with_unfolding_all rfl)) (eG (f9 (gn (bt c__law_is_letter hr (ac (bp aM (pv 0) ah (fun _ _=>rfl)) aj))))))) (ay (bh jY)) aR)
   (au (bO (PW.pt (fP (aI (ma hv) (bp aM (pv 0) ah (fun _ _=>rfl)) (cC (ac a9 (ac a9 (ac a9 aj)))) (by with_unfolding_all rfl)) (eG (PW.pt (gY (aI hX (bp aM (pv 0) (mM jS ah) (fun _ _=>rfl)) ah (aL _)) (gF (aI wH (bp aM (pv 0) (mM jS ah) (fun _ _=>rfl)) (pv 2) (aL _)))))))) (ay (bh jY)) aR)
   (ay (bh (CH (fY (lb hu) (bp aM (pv 0) ah (fun _ _=>rfl)) a9 (aL _)) (mJ (fY iJ (pv 1) ah (aL _)))))))),(aH (bX (dX (aC (aq l8 (aq aN af ai) (cP (ae ba (ae ba ap))))) (fo (iX (bz (ae (aq aN af ai) ap))))) (bA lX) bg)
   (aH (bX (dX (aC (aq l8 (aq aN af ai) (cP (ae ba (ae ba (ae ba ap)))))) (fQ (aC (aq fM (aq aN af (ql kt ai)) ai)) (aC (aq sA (aq aN af (ql kt ai)) af)))) (bA lX) bg)
   (bA (CW (aq la (aq aN af ai) ba) (aq gm af ai)))))⟩
theorem ge:FnScope ["_law_chords","_law_place","_law_keys","_law_plain","_law_some","_law_sign"] ["_law_chords","_law_place","_law_keys","_law_plain"] (aw (top 39)):=⟨rfl,rfl,rfl,by decide+kernel,rfl,by decide+kernel,by decide+kernel⟩
theorem lc (F:Fun K "_law_chord_good" "_law_chord_good" (top 39) f fd) (c__law_is_letter:cW P w K mg base 1 "_law_is_letter" ["_law_sign"] 1 cv) (z_len:mg "len"=none) (z_list:mg "list"=none) (z_sorted:mg "sorted"=none) (z_set:mg "set"=none) (z_all:mg "all"=none):FnOk P w K mg base gX 2 f fd ["_law_chords","_law_place","_law_keys","_law_plain"] (i8 K 4 df):=by
 refine oM (k:=1) (n:=4) (m:=6) (g:=gq) (FF:=df) F ge rfl rfl rfl (fun cdv A outer s H E hr=> ?_)
 have hu:=hr.units
 have hv:(A.deeper (PyProof.Rows.envOfC "_law_chord_good" (aw (top 39)) s.heap.objs.size f cdv)).units+65<cLine:=by have:=hr.un;omega
 exact⟨_,(au (sR (bp aM (pv 0) (pv 1) (fun _ _=>rfl)) (mw rfl (di (bw (i:=4) ge.nd rfl (Or.inl rfl)) (di (bw (i:=5) ge.nd rfl (Or.inl rfl)) ke))))
   (au (bO (PW.pt (gY (f9 (gn (bt c__law_is_letter hr (ac (pv 5) aj)))) (gY (aI hX (aJ bG rfl z_len de (ac (pv 4) aj)) ah (aL _)) (gY (aI (lb hu) (dc rd rfl z_list DC (ac (pv 4) aj)) (aJ L9.lw rfl z_sorted uf (ac (pv 4) aj)) (aL _)) (gF (aI hX (aJ L9.tX rfl z_len de (ac (dc (L9.yh rfl) rfl z_set L9.Gf (ac (pv 4) aj)) aj)) (aJ bG rfl z_len de (ac (pv 4) aj)) (aL _))))))) (ay (bh jY)) aR)
   (au (bO (f9 (gn (aJ (lL rfl) rfl z_all wF (ac (fG ["_law_key"] [("_law_plain",3)] rfl (hV (pv 4)) (fun _ _ _ _=>(bw (i:=0) (show List.Nodup (["_law_key","_law_plain"]:List Str) by decide+kernel) rfl (Or.inl rfl))) (fun _ _ _ _=>eQ) (fun _ _ _ _=>(fY (ma hv) (pv 0) (pv 1) (by with_unfolding_all rfl))) ⟨⟨rfl,rfl,Or.inl rfl⟩,trivial⟩ rfl) aj)))) (ay (bh jY)) aR)
   (ay (bh (fY (kb hv) (pv 4) (fG ["_law_chord"] [] rfl (hV (dU gB (pv 0) gl (dI (pv 1)))) (fun _ _ _ _=>(bw (i:=0) (show List.Nodup (["_law_chord"]:List Str) by decide+kernel) rfl (Or.inl rfl))) (fun _ _ _ _=>eQ) (fun _ _ _ _=>(bp aM (pv 0) ah (fun _ _=>rfl))) trivial rfl) (by with_unfolding_all rfl))))))),(aH (aZ (aq aN af af) (mo (d4 aA (d4 aA l6))))
   (aH (bX (fQ (fo (iX (bz (ae af ap)))) (fQ (aC (aq fM (bS cJ (ae af ap)) ai)) (fQ (aC (aq la (bS BO (ae af ap)) (bS L9.pj (ae af ap)))) (aC (aq fM (L9.yu (ae af ap)) (bS cJ (ae af ap))))))) (bA lX) bg)
   (aH (bX (fo (iX (bS rq (ae (gr rfl rfl (mv af) aA eR (aq l8 af af)) ap)))) (bA lX) bg)
   (bA (aq kg af (gr rfl rfl (mv (iL jR af fC (c8 af))) aA eR (aq aN af ai)))))))⟩
theorem dQ:FnScope ["_law_bed_here","_law_keys","_law_layers","_law_chords","_law_wait","_law_layer","_law_key","_law_plain","_law_place"] ["_law_bed_here"] (aw (top 40)):=⟨rfl,rfl,rfl,by decide+kernel,rfl,by decide+kernel,by decide+kernel⟩
theorem um (F:Fun K "_law_due" "_law_due" (top 40) f fd) (c__law_means:cW P w K mg base 2 "_law_means" ["_law_meaning_here","_law_layer","_law_layers"] 3 fL) (c__law_chord_good:cW P w K mg base 2 "_law_chord_good" ["_law_chords","_law_place","_law_keys","_law_plain"] 4 df) (z_len:mg "len"=none) (z_range:mg "range"=none):FnOk P w K mg base gX 3 f fd ["_law_bed_here"] (i8 K 1 f8):=by
 refine oM (k:=2) (n:=1) (m:=9) (g:=kY) (FF:=f8) F dQ rfl rfl rfl (fun cdv A outer s H E hr=> ?_)
 have hu:=hr.units
 have hv:(A.deeper (PyProof.Rows.envOfC "_law_due" (aw (top 40)) s.heap.objs.size f cdv)).units+65<cLine:=by have:=hr.un;omega
 exact⟨_,(au (sR (pv 0) (mw rfl (di (bw (i:=1) dQ.nd rfl (Or.inl rfl)) (di (bw (i:=2) dQ.nd rfl (Or.inr rfl)) (di (bw (i:=3) dQ.nd rfl (Or.inl rfl)) (di (bw (i:=4) dQ.nd rfl (Or.inl rfl)) ke))))))
   (au (bO (PW.pt (gY (aI (kb hv) (pv 1) (cC (ac ah (ac ah (ac ah (ac ah (ac ah aj)))))) (by with_unfolding_all rfl)) (gY (aI (kb hv) (aJ bG rfl z_len de (ac (pv 2) aj)) (cC (ac ah (ac ah (ac ah aj)))) (by with_unfolding_all rfl)) (gY (aI iJ (aJ bG rfl z_len de (ac (pv 3) aj)) ah (aL _)) (gF (aI (kb hv) (pv 4) (cC (ac ah (ac ah (ac ah (ac ah aj))))) (by with_unfolding_all rfl))))))) (ay (bh (aV (ac ah (ac dC (ac dC aj)))))) aR)
   (au (gO PassesOwn.never rfl (cS rfl z_range (ac (aJ bG rfl z_len de (ac (pv 2) aj)) aj)) (bw (i:=5) dQ.nd rfl (Or.inl rfl)) (au (bO (aI (lb hu) (aJ bG rfl z_len de (ac (bp aM (pv 2) (pv 5) (fun _ _=>rfl)) aj)) (pv 1) (aL _)) (ay (bh (aV (ac ah (ac (pv 5) (ac dC aj)))))) aR)
   (ay (gO PassesOwn.never rfl (cS rfl z_range (ac (pv 1) aj)) (bw (i:=6) dQ.nd rfl (Or.inl rfl)) (ay (bO (f9 (gn (bt c__law_means hr (ac (bp aM (bp aM (pv 2) (pv 5) (fun _ _=>rfl)) (pv 6) (fun _ _=>rfl)) (ac (pv 5) (ac (aJ bG rfl z_len de (ac (pv 2) aj)) aj)))))) (ay (bh (aV (ac ah (ac (pv 5) (ac (pv 6) aj)))))) aR))))))
   (au (nI (i:=7) ["_law_key"] [("_law_layers",2)] dQ.nd rfl rfl rfl (cS rfl z_range (ac (pv 1) aj)) (fun _ _ _ _=>(bw (i:=0) (show List.Nodup (["_law_key","_law_layers"]:List Str) by decide+kernel) rfl (Or.inl rfl))) (fun _ _ _ _=>(jN (aI (cA hu) (bp aM (bp aM (bp aM (pv 1) ah (fun _ _=>rfl)) (pv 0) (fun _ _=>rfl)) ah (fun _ _=>rfl)) a9 (aL _)))) (fun _ _ _ _=>(pv 0)) ⟨⟨rfl,rfl,Or.inl rfl⟩,trivial⟩ rfl)
   (au (gO PassesOwn.never rfl (cS rfl z_range (ac (aJ bG rfl z_len de (ac (pv 3) aj)) aj)) (bw (i:=8) dQ.nd rfl (Or.inl rfl)) (ay (bO (f9 (gn (bt c__law_chord_good hr (ac (pv 3) (ac (pv 8) (ac (pv 1) (ac (pv 7) aj))))))) (ay (bh (aV (ac ah (ac (pv 8) (ac dC aj)))))) aR)))
   (ay (bh dC))))))),(aH (aZ af (mo (d4 aA (d4 aA (d4 aA (d4 aA l6))))))
   (aH (bX (fQ (aC (aq kg af (cP (ae ai (ae ai (ae ai (ae ai (ae ai ap)))))))) (fQ (aC (aq kg (bS cJ (ae af ap)) (cP (ae ai (ae ai (ae ai ap)))))) (fQ (aC (aq gm (bS cJ (ae af ap)) ai)) (aC (aq kg af (cP (ae ai (ae ai (ae ai (ae ai ap)))))))))) (bA (aY (ae ai (ae gJ (ae gJ ap))))) bg)
   (aH (gK (d6 (ae (bS cJ (ae af ap)) ap)) aA (aH (bX (aC (aq la (bS cJ (ae (aq aN af af) ap)) af)) (bA (aY (ae ai (ae af (ae gJ ap))))) bg)
   (gK (d6 (ae af ap)) aA (bX (fo (iX (bz (ae (aq aN (aq aN af af) af) (ae af (ae (bS cJ (ae af ap)) ap)))))) (bA (aY (ae ai (ae af (ae af ap))))) bg))))
   (aH (aZ (gr rfl rfl (d6 (ae af ap)) aA (aC (aq cB (aq aN (aq aN (aq aN af ai) af) ai) ba)) af) aA)
   (aH (gK (d6 (ae (bS cJ (ae af ap)) ap)) aA (bX (fo (iX (bz (ae af (ae af (ae af (ae af ap))))))) (bA (aY (ae ai (ae af (ae gJ ap))))) bg))
   (bA gJ))))))⟩
theorem mi:FnScope ["bed"] ["bed"] (aw (top 18)):=⟨rfl,rfl,rfl,by decide+kernel,rfl,by decide+kernel,by decide+kernel⟩
theorem rD:FnScope ["text"] ["text"] (aw (top 24)):=⟨rfl,rfl,rfl,by decide+kernel,rfl,by decide+kernel,by decide+kernel⟩
theorem sM (F:Fun K "is_letter" "is_letter" (top 24) f fd) (z_len:mg "len"=none):FnOk P w K mg base gX 1 f fd ["text"] (i8 K 1 dq):=by
 refine oM (k:=0) (n:=1) (m:=1) (g:=jL) (FF:=dq) F rD rfl rfl rfl (fun cdv A outer s H E hr=> ?_)
 have hu:=hr.units
 have hv:(A.deeper (PyProof.Rows.envOfC "is_letter" (aw (top 24)) s.heap.objs.size f cdv)).units+65<cLine:=by have:=hr.un;omega
 exact⟨_,(ay (bh (sU (fY (cA hu) (aJ bG rfl z_len de (ac (pv 0) aj)) ah (aL _)) (mJ (lV ri ri a9 (pv 0) a9))))),(bA (qI (aq cB (bS wK (ae af ap)) ai) (gs nM nM ba af ba)))⟩
theorem na:FnScope ["meaning","layer","layers","word"] ["meaning","layer","layers"] (aw (top 20)):=⟨rfl,rfl,rfl,by decide+kernel,rfl,by decide+kernel,by decide+kernel⟩
theorem tH (F:Fun K "may_mean" "may_mean" (top 20) f fd) (c_is_letter:cW P w K mg base 1 "is_letter" ["text"] 1 dq):FnOk P w K mg base gX 2 f fd ["meaning","layer","layers"] (i8 K 3 gh):=by
 refine oM (k:=1) (n:=3) (m:=4) (g:=kN) (FF:=gh) F na rfl rfl rfl (fun cdv A outer s H E hr=> ?_)
 have hu:=hr.units
 have hv:(A.deeper (PyProof.Rows.envOfC "may_mean" (aw (top 20)) s.heap.objs.size f cdv)).units+65<cLine:=by have:=hr.un;omega
 exact⟨_,(au (aW (i:=3) na.nd rfl (Or.inl rfl) (bp aM (pv 0) ah (fun _ _=>rfl)))
   (au (bO (aI (cA hu) (pv 3) a9 (aL _)) (ay (bh (fY (lb hu) (pv 1) ah (aL _)))) aR)
   (au (bO (PW.pt (fP (aI (ma hv) (pv 3) (aV (ac a9 (ac a9 aj))) (by with_unfolding_all rfl)) (eG (f9 (gn (bt c_is_letter hr (ac (bp aM (pv 0) ah (fun _ _=>rfl)) aj))))))) (ay (bh jY)) aR)
   (au (bO (aI (ma hv) (pv 3) (aV (ac a9 (ac a9 (ac a9 aj)))) (by with_unfolding_all rfl)) (ay (bh (lV mZ hX ah (bp aM (pv 0) (mM jS ah) (fun _ _=>rfl)) (pv 2)))) aR)
   (ay (bh jY)))))),(aH (aZ (aq aN af ai) aA)
   (aH (bX (aC (aq cB af ba)) (bA (aq la af ai)) bg)
   (aH (bX (dX (aC (aq l8 af (aY (ae ba (ae ba ap))))) (fo (iX (bz (ae (aq aN af ai) ap))))) (bA lX) bg)
   (aH (bX (aC (aq l8 af (aY (ae ba (ae ba (ae ba ap)))))) (bA (gs jJ fM ai (aq aN af (ql kt ai)) af)) bg)
   (bA lX)))))⟩
theorem gv:FnScope ["bed","layer","meanings","key","meaning"] ["bed","layer"] (aw (top 19)):=⟨rfl,rfl,rfl,by decide+kernel,rfl,by decide+kernel,by decide+kernel⟩
theorem A4:FnScope ["keys"] ["keys"] (aw (top 23)):=⟨rfl,rfl,rfl,by decide+kernel,rfl,by decide+kernel,by decide+kernel⟩
theorem AW (F:Fun K "rises" "rises" (top 23) f fd) (z_all:mg "all"=none) (z_zip:mg "zip"=none):FnOk P w K mg base gX 1 f fd ["keys"] (i8 K 1 j9):=by
 refine oM (k:=0) (n:=1) (m:=1) (g:=r9) (FF:=j9) F A4 rfl rfl rfl (fun cdv A outer s H E hr=> ?_)
 have hu:=hr.units
 have hv:(A.deeper (PyProof.Rows.envOfC "rises" (aw (top 23)) s.heap.objs.size f cdv)).units+65<cLine:=by have:=hr.un;omega
 exact⟨_,(ay (bh (aJ (lL rfl) rfl z_all wF (ac (fG ["one","other"] [] rfl (Eb rfl z_zip (ac (pv 0) (ac (dU rC (pv 0) (dI ah) gl) aj))) (fun _ _ _ _=>(mw rfl (di (bw (i:=0) (show List.Nodup (["one","other"]:List Str) by decide+kernel) rfl (Or.inl rfl)) (di (bw (i:=1) (show List.Nodup (["one","other"]:List Str) by decide+kernel) rfl (Or.inl rfl)) ke)))) (fun _ _ _ _=>eQ) (fun _ _ _ _=>(fY hX (pv 0) (pv 1) (aL _))) trivial rfl) aj)))),(bA (bS rq (ae (gr rfl rfl (D6 (ae af (ae (iL lx af (c8 ai) fC) ap))) (mo (d4 aA (d4 aA l6))) eR (aq fM af af)) ap)))⟩
theorem ny:FnScope ["bed","keys"] ["bed","keys"] (aw (top 22)):=⟨rfl,rfl,rfl,by decide+kernel,rfl,by decide+kernel,by decide+kernel⟩
theorem nF (F:Fun K "is_chord_set" "is_chord_set" (top 22) f fd) (c_rises:cW P w K mg base 1 "rises" ["keys"] 1 j9) (z_len:mg "len"=none) (z_all:mg "all"=none):FnOk P w K mg base gX 2 f fd ["bed","keys"] (i8 K 2 dD):=by
 refine oM (k:=1) (n:=2) (m:=2) (g:=iD) (FF:=dD) F ny rfl rfl rfl (fun cdv A outer s H E hr=> ?_)
 have hu:=hr.units
 have hv:(A.deeper (PyProof.Rows.envOfC "is_chord_set" (aw (top 22)) s.heap.objs.size f cdv)).units+65<cLine:=by have:=hr.un;omega
 exact⟨_,(au (bO (PW.pt (gY (aI hX (aJ bG rfl z_len de (ac (pv 1) aj)) ah (aL _)) (gF (f9 (gn (bt c_rises hr (ac (pv 1) aj))))))) (ay (bh jY)) aR)
   (ay (bh (aJ (lL rfl) rfl z_all wF (ac (fG ["key"] [("bed",0)] rfl (hV (pv 1)) (fun _ _ _ _=>(bw (i:=0) (show List.Nodup (["key","bed"]:List Str) by decide+kernel) rfl (Or.inl rfl))) (fun _ _ _ _=>eQ) (fun _ _ _ _=>(sU (lV mZ hX ah (pv 0) (bp aM (pv 1) ah (fun _ _=>rfl))) (mJ (fY (cA hu) (bp aM (bp aM (bp aM (bp aM (pv 1) ah (fun _ _=>rfl)) ah (fun _ _=>rfl)) (pv 0) (fun _ _=>rfl)) ah (fun _ _=>rfl)) a9 (aL _))))) ⟨⟨rfl,rfl,Or.inl rfl⟩,trivial⟩ rfl) aj))))),(aH (bX (fQ (aC (aq fM (bS cJ (ae af ap)) ai)) (fo (iX (bz (ae af ap))))) (bA lX) bg)
   (bA (bS rq (ae (gr rfl rfl (mv af) aA eR (qI (gs jJ fM ai af (aq aN af ai)) (aq cB (aq aN (aq aN (aq aN (aq aN af ai) ai) af) ai) ba))) ap))))⟩
theorem jT:FnScope ["bed","place","keys"] ["bed","place"] (aw (top 21)):=⟨rfl,rfl,rfl,by decide+kernel,rfl,by decide+kernel,by decide+kernel⟩
theorem kO:FnScope ["bed","layer","place"] ["bed"] (aw (top 17)):=⟨rfl,rfl,rfl,by decide+kernel,rfl,by decide+kernel,by decide+kernel⟩
theorem pB:FnScope ["_law_thing"] ["_law_thing"] (aw (top 30)):=⟨rfl,rfl,rfl,by decide+kernel,rfl,by decide+kernel,by decide+kernel⟩
theorem pF (F:Fun K "_law_whole" "_law_whole" (top 30) f fd) (z_isinstance:mg "isinstance"=none) (z_int:mg "int"=none) (z_bool:mg "bool"=none):FnOk P w K mg base gX 1 f fd ["_law_thing"] (i8 K 1 dk):=by
 refine oM (k:=0) (n:=1) (m:=1) (g:=jB) (FF:=dk) F pB rfl rfl rfl (fun cdv A outer s H E hr=> ?_)
 have hu:=hr.units
 have hv:(A.deeper (PyProof.Rows.envOfC "_law_whole" (aw (top 30)) s.heap.objs.size f cdv)).units+65<cLine:=by have:=hr.un;omega
 exact⟨_,(ay (bh (sU (aJ pT rfl z_isinstance cq (ac (pv 0) (ac (rl (v:= .ty "int") rfl z_int za rfl) aj))) (mJ (Di (aJ pT rfl z_isinstance cq (ac (pv 0) (ac (rl (v:= .ty "bool") rfl z_bool DH rfl) aj)))))))),(bA (qI (Ay (by simp) af) (EV (Ay (by simp) af))))⟩
theorem jr:FnScope ["_law_script","_law_good","_law_bed_here","_law_k","_law_some","_law_way","_law_due_here","_law_found"] ["_law_script"] (aw (top 46)):=⟨rfl,rfl,rfl,by decide+kernel,rfl,by decide+kernel,by decide+kernel⟩
noncomputable abbrev kf (P:Program) (w:World) (K:PySem.W.Frag) (mg:Str→Option Value) (base:Heap) (f:Addr) (cdv:Value) (A:Around) (outer:List Env) (s:Shared) (H:Hp) (E:XK):Cx:=(fJ gX P w K mg base ["_law_script","_law_good","_law_bed_here","_law_k","_law_some","_law_way","_law_due_here","_law_found"] "law" (aw (top 46)) f cdv A outer s H E).nox
noncomputable def Az:Stmt:=(ax (top 46)).getD 0 DP
noncomputable def zw:Stmt:=(ax (top 46)).getD 1 DP
noncomputable def kJ:Stmt:=(ax (top 46)).getD 2 DP
noncomputable def zR:Stmt:=(ax (top 46)).getD 3 DP
noncomputable def Aq:Stmt:=(ax (top 46)).getD 4 DP
noncomputable def zg:Stmt:=(ax (top 46)).getD 5 DP
noncomputable def AN:Stmt:=(ax (top 46)).getD 6 DP
noncomputable def Ax:Stmt:=(ax (top 46)).getD 7 DP
noncomputable def w6:Expr:=fI kJ
noncomputable def iw:Stmt:=(fb kJ).getD 0 DP
noncomputable def vJ:Stmt:=(fb kJ).getD 1 DP
noncomputable def uT:Stmt:=(fb kJ).getD 2 DP
noncomputable def dj:Expr:=av iw
noncomputable def rX:Expr:=(le dj).getD 0 DE
noncomputable def rm:Expr:=(le dj).getD 1 DE
noncomputable def sN:Expr:=(le dj).getD 2 DE
noncomputable def rp:Expr:=(le dj).getD 3 DE
noncomputable def rA:Expr:=(le dj).getD 4 DE
noncomputable def sK:Expr:=(le dj).getD 5 DE
noncomputable def rL:Expr:=(le dj).getD 6 DE
noncomputable def re:Expr:=(le dj).getD 7 DE
noncomputable def rJ:Expr:=(le dj).getD 8 DE
noncomputable def rE:Expr:=(le dj).getD 9 DE
noncomputable def qZ:Expr:=(le dj).getD 10 DE
noncomputable def rT:Expr:=(le dj).getD 11 DE
noncomputable def rj:Expr:=(le dj).getD 12 DE
noncomputable def qV:Expr:=(le dj).getD 13 DE
noncomputable def sO:Expr:=(le dj).getD 14 DE
noncomputable def qA:Expr:=(le dj).getD 15 DE
noncomputable def si:Expr:=(le dj).getD 16 DE
noncomputable def se:Expr:=(le dj).getD 17 DE
noncomputable def ro:Expr:=(le dj).getD 18 DE
theorem Dw (F:Fun K "law" "law" (top 46) f fd) (c__law_bed:cW P w K mg base 4 "_law_bed" ["_law_script","_law_at"] 2 gc) (c__law_cell:cW P w K mg base 1 "_law_cell" ["_law_script","_law_k"] 2 bJ) (c__law_wide:cW P w K mg base 2 "_law_wide" ["_law_cell_here","_law_salt"] 2 bH) (c__law_changed:cW P w K mg base 3 "_law_changed" ["_law_bed_here","_law_way","_law_x"] 3 cZ) (c__law_due:cW P w K mg base 3 "_law_due" ["_law_bed_here"] 1 f8) (c__law_told:cW P w K mg base 6 "_law_told" ["_law_bed_here"] 1 bM) (c__law_whole:cW P w K mg base 1 "_law_whole" ["_law_thing"] 1 dk) (z_range:mg "range"=none) (z_all:mg "all"=none):FnOk P w K mg base gX 7 f fd ["_law_script"] (i8 K 1 F_law):=by
 refine oM (k:=6) (n:=1) (m:=8) (g:=Ak) (FF:=F_law) F jr rfl rfl rfl (fun cdv A outer s H E hr=> ?_)
 have hu:=hr.units
 have hv:(A.deeper (PyProof.Rows.envOfC "law" (aw (top 46)) s.heap.objs.size f cdv)).units+65<cLine:=by have:=hr.un;omega
 obtain⟨tq1,uq1,vq1⟩:∃t,PS (kf P w K mg base f cdv A outer s H E) Az t∧SO K E t (bq (bx gc 2 (aa (ag 0) (aa (pC (.int 7)) am))) (gN 1)):=⟨_,(aW (i:=1) jr.nd rfl (Or.inl rfl) (bt c__law_bed hr (ac (pv 0) (ac ah aj))) (hs:=gP)),(aZ (bz (ae af (ae ai ap))) aA)⟩
 obtain⟨tq2,uq2,vq2⟩:∃t,PS (kf P w K mg base f cdv A outer s H E) zw t∧SO K E t (bq (ag 1) (gN 2)):=⟨_,(aW (i:=2) jr.nd rfl (Or.inl rfl) (pv 1) (hs:=Bj)),(aZ af aA)⟩
 obtain⟨pxq3,pfq3,hSq3⟩:∃px pf,kJ= .For (.Name "_law_k" px) w6 (fb kJ) [] pf:=⟨_,_,rfl⟩
 have fsq3:∀x,foldedSetIterable w6 (kf P w K mg base f cdv A outer s H E).env x=pure x:=by intro _;rfl
 obtain⟨tq4,uq4,vq4⟩:∃t,PI (kf P w K mg base f cdv A outer s H E) (.Name "_law_k" pxq3) w6 t∧IO K E t (ia fK (aa (az bf (bx bH 2 (aa (bx bJ 2 (aa (ag 0) (aa (pC (.int 0)) am))) (aa (pC (.int 30)) am))) (pC (.int 4))) am)):=⟨_,(cS rfl z_range (ac (aB bQ (bt c__law_wide hr (ac (bt c__law_cell hr (ac (pv 0) (ac ah aj))) (ac ah aj))) ah) aj)),(d6 (ae (aq bu (bz (ae (bz (ae af (ae ai ap))) (ae ai ap))) ai) ap))⟩
 have hBq3:fb kJ=[iw,vJ,uT]:=rfl
 obtain⟨tq7,uq7,vq7⟩:∃t,PE (kf P w K mg base f cdv A outer s H E) rX t∧EO K E t (pC (.int 0)):=⟨_,ah,ai⟩
 obtain⟨tq8,uq8,vq8⟩:∃t,PE (kf P w K mg base f cdv A outer s H E) rm t∧EO K E t (pC (.int 1)):=⟨_,ah,ai⟩
 obtain⟨tq9,uq9,vq9⟩:∃t,PE (kf P w K mg base f cdv A outer s H E) sN t∧EO K E t (pC (.int 2)):=⟨_,ah,ai⟩
 obtain⟨tq10,uq10,vq10⟩:∃t,PE (kf P w K mg base f cdv A outer s H E) rp t∧EO K E t (pC (.int 3)):=⟨_,ah,ai⟩
 obtain⟨tq11,uq11,vq11⟩:∃t,PE (kf P w K mg base f cdv A outer s H E) rA t∧EO K E t (pC (.int 4)):=⟨_,ah,ai⟩
 obtain⟨tq12,uq12,vq12⟩:∃t,PE (kf P w K mg base f cdv A outer s H E) sK t∧EO K E t (pC (.int 4)):=⟨_,ah,ai⟩
 obtain⟨tq13,uq13,vq13⟩:∃t,PE (kf P w K mg base f cdv A outer s H E) rL t∧EO K E t (pC (.int 4)):=⟨_,ah,ai⟩
 obtain⟨tq14,uq14,vq14⟩:∃t,PE (kf P w K mg base f cdv A outer s H E) re t∧EO K E t (pC (.int 5)):=⟨_,ah,ai⟩
 obtain⟨tq15,uq15,vq15⟩:∃t,PE (kf P w K mg base f cdv A outer s H E) rJ t∧EO K E t (pC (.int 5)):=⟨_,ah,ai⟩
 obtain⟨tq16,uq16,vq16⟩:∃t,PE (kf P w K mg base f cdv A outer s H E) rE t∧EO K E t (pC (.int 6)):=⟨_,ah,ai⟩
 obtain⟨tq17,uq17,vq17⟩:∃t,PE (kf P w K mg base f cdv A outer s H E) qZ t∧EO K E t (pC (.int 7)):=⟨_,ah,ai⟩
 obtain⟨tq18,uq18,vq18⟩:∃t,PE (kf P w K mg base f cdv A outer s H E) rT t∧EO K E t (pC (.int 8)):=⟨_,ah,ai⟩
 obtain⟨tq19,uq19,vq19⟩:∃t,PE (kf P w K mg base f cdv A outer s H E) rj t∧EO K E t (pC (.int 9)):=⟨_,ah,ai⟩
 obtain⟨tq20,uq20,vq20⟩:∃t,PE (kf P w K mg base f cdv A outer s H E) qV t∧EO K E t (pC (.int 10)):=⟨_,ah,ai⟩
 obtain⟨tq21,uq21,vq21⟩:∃t,PE (kf P w K mg base f cdv A outer s H E) sO t∧EO K E t (pC (.int 10)):=⟨_,ah,ai⟩
 obtain⟨tq22,uq22,vq22⟩:∃t,PE (kf P w K mg base f cdv A outer s H E) qA t∧EO K E t (pC (.int 11)):=⟨_,ah,ai⟩
 obtain⟨tq23,uq23,vq23⟩:∃t,PE (kf P w K mg base f cdv A outer s H E) si t∧EO K E t (pC (.int 11)):=⟨_,ah,ai⟩
 obtain⟨tq24,uq24,vq24⟩:∃t,PE (kf P w K mg base f cdv A outer s H E) se t∧EO K E t (pC (.int 12)):=⟨_,ah,ai⟩
 obtain⟨tq25,uq25,vq25⟩:∃t,PE (kf P w K mg base f cdv A outer s H E) ro t∧EO K E t (pC (.int 13)):=⟨_,ah,ai⟩
 have stq6_0:d9 rX=false:=rfl
 have stq6_1:d9 rm=false:=rfl
 have stq6_2:d9 sN=false:=rfl
 have stq6_3:d9 rp=false:=rfl
 have stq6_4:d9 rA=false:=rfl
 have stq6_5:d9 sK=false:=rfl
 have stq6_6:d9 rL=false:=rfl
 have stq6_7:d9 re=false:=rfl
 have stq6_8:d9 rJ=false:=rfl
 have stq6_9:d9 rE=false:=rfl
 have stq6_10:d9 qZ=false:=rfl
 have stq6_11:d9 rT=false:=rfl
 have stq6_12:d9 rj=false:=rfl
 have stq6_13:d9 qV=false:=rfl
 have stq6_14:d9 sO=false:=rfl
 have stq6_15:d9 qA=false:=rfl
 have stq6_16:d9 si=false:=rfl
 have stq6_17:d9 se=false:=rfl
 have stq6_18:d9 ro=false:=rfl
 obtain⟨pq6,hLq6⟩:∃pp,dj= .List [rX,rm,sN,rp,rA,sK,rL,re,rJ,rE,qZ,rT,rj,qV,sO,qA,si,se,ro] pp:=⟨_,rfl⟩
 obtain⟨tq6,uq6,vq6⟩:∃t,PE (kf P w K mg base f cdv A outer s H E) dj t∧EO K E t (cV (aa (pC (.int 0)) (aa (pC (.int 1)) (aa (pC (.int 2)) (aa (pC (.int 3)) (aa (pC (.int 4)) (aa (pC (.int 4)) (aa (pC (.int 4)) (aa (pC (.int 5)) (aa (pC (.int 5)) (aa (pC (.int 6)) (aa (pC (.int 7)) (aa (pC (.int 8)) (aa (pC (.int 9)) (aa (pC (.int 10)) (aa (pC (.int 10)) (aa (pC (.int 11)) (aa (pC (.int 11)) (aa (pC (.int 12)) (aa (pC (.int 13)) am)))))))))))))))))))):=by
  rw[hLq6]
  generalize rX=z0 at*
  generalize rm=z1 at*
  generalize sN=z2 at*
  generalize rp=z3 at*
  generalize rA=z4 at*
  generalize sK=z5 at*
  generalize rL=z6 at*
  generalize re=z7 at*
  generalize rJ=z8 at*
  generalize rE=z9 at*
  generalize qZ=z10 at*
  generalize rT=z11 at*
  generalize rj=z12 at*
  generalize qV=z13 at*
  generalize sO=z14 at*
  generalize qA=z15 at*
  generalize si=z16 at*
  generalize se=z17 at*
  generalize ro=z18 at*
  exact⟨_,cC (jt uq7 (jt uq8 (jt uq9 (jt uq10 (jt uq11 (jt uq12 (jt uq13 (jt uq14 (jt uq15 (jt uq16 (jt uq17 (jt uq18 (jt uq19 (jt uq20 (jt uq21 (jt uq22 (jt uq23 (jt uq24 (jt uq25 aj stq6_18) stq6_17) stq6_16) stq6_15) stq6_14) stq6_13) stq6_12) stq6_11) stq6_10) stq6_9) stq6_8) stq6_7) stq6_6) stq6_5) stq6_4) stq6_3) stq6_2) stq6_1) stq6_0),cP (ae vq7 (ae vq8 (ae vq9 (ae vq10 (ae vq11 (ae vq12 (ae vq13 (ae vq14 (ae vq15 (ae vq16 (ae vq17 (ae vq18 (ae vq19 (ae vq20 (ae vq21 (ae vq22 (ae vq23 (ae vq24 (ae vq25 ap)))))))))))))))))))⟩
 clear hLq6 stq6_0 stq6_1 stq6_2 stq6_3 stq6_4 stq6_5 stq6_6 stq6_7 stq6_8 stq6_9 stq6_10 stq6_11 stq6_12 stq6_13 stq6_14 stq6_15 stq6_16 stq6_17 stq6_18 uq7 vq7 uq8 vq8 uq9 vq9 uq10 vq10 uq11 vq11 uq12 vq12 uq13 vq13 uq14 vq14 uq15 vq15 uq16 vq16 uq17 vq17 uq18 vq18 uq19 vq19 uq20 vq20 uq21 vq21 uq22 vq22 uq23 vq23 uq24 vq24 uq25 vq25
 have hSq5:iw= .Assign [.Name "_law_some" (nP iw)] dj (aP iw):=rfl
 have swq5:swapsWith dj (some (.Name "_law_some" (nP iw))) (aP iw).line (kf P w K mg base f cdv A outer s H E).env=pure false:=rfl
 obtain⟨tq5,uq5,vq5⟩:∃t,PS (kf P w K mg base f cdv A outer s H E) iw t∧SO K E t (bq (cV (aa (pC (.int 0)) (aa (pC (.int 1)) (aa (pC (.int 2)) (aa (pC (.int 3)) (aa (pC (.int 4)) (aa (pC (.int 4)) (aa (pC (.int 4)) (aa (pC (.int 5)) (aa (pC (.int 5)) (aa (pC (.int 6)) (aa (pC (.int 7)) (aa (pC (.int 8)) (aa (pC (.int 9)) (aa (pC (.int 10)) (aa (pC (.int 10)) (aa (pC (.int 11)) (aa (pC (.int 11)) (aa (pC (.int 12)) (aa (pC (.int 13)) am)))))))))))))))))))) (gN 4)):=by
  rw[hSq5]
  generalize dj=z0 at*
  generalize nP iw=z1 at*
  generalize aP iw=z2 at*
  exact⟨_,aW (i:=4) jr.nd rfl (Or.inl rfl) uq6 (hs:=swq5),aZ vq6 aA⟩
 clear hSq5 swq5 uq6 vq6
 obtain⟨tq26,uq26,vq26⟩:∃t,PS (kf P w K mg base f cdv A outer s H E) vJ t∧SO K E t (bq (az bC (ag 4) (az bf (bx bH 2 (aa (bx bJ 2 (aa (ag 0) (aa (az cn (pC (.int 1)) (az fH (pC (.int 2)) (ag 3))) am))) (aa (az cn (pC (.int 31)) (ag 3)) am))) (pC (.int 19)))) (gN 5)):=⟨_,(aW (i:=5) jr.nd rfl (Or.inl rfl) (bp aM (pv 4) (aB bQ (bt c__law_wide hr (ac (bt c__law_cell hr (ac (pv 0) (ac (aB bE ah (aB fU ah (pv 3))) aj))) (ac (aB bE ah (pv 3)) aj))) ah) (fun _ _=>rfl)) (hs:=eM)),(aZ (aq aN af (aq bu (bz (ae (bz (ae af (ae (aq bF ai (aq eT ai af)) ap))) (ae (aq bF ai af) ap))) ai)) aA)⟩
 obtain⟨tq27,uq27,vq27⟩:∃t,PS (kf P w K mg base f cdv A outer s H E) uT t∧SO K E t (bq (bx cZ 3 (aa (ag 2) (aa (ag 5) (aa (bx bH 2 (aa (bx bJ 2 (aa (ag 0) (aa (az cn (pC (.int 2)) (az fH (pC (.int 2)) (ag 3))) am))) (aa (az cn (pC (.int 35)) (ag 3)) am))) am)))) (gN 2)):=⟨_,(aW (i:=2) jr.nd rfl (Or.inl rfl) (bt c__law_changed hr (ac (pv 2) (ac (pv 5) (ac (bt c__law_wide hr (ac (bt c__law_cell hr (ac (pv 0) (ac (aB bE ah (aB fU ah (pv 3))) aj))) (ac (aB bE ah (pv 3)) aj))) aj)))) (hs:=gP)),(aZ (bz (ae af (ae af (ae (bz (ae (bz (ae af (ae (aq bF ai (aq eT ai af)) ap))) (ae (aq bF ai af) ap))) ap)))) aA)⟩
 obtain⟨tq3,uq3,vq3⟩:∃t,PS (kf P w K mg base f cdv A outer s H E) kJ t∧SO K E t (iU (ia fK (aa (az bf (bx bH 2 (aa (bx bJ 2 (aa (ag 0) (aa (pC (.int 0)) am))) (aa (pC (.int 30)) am))) (pC (.int 4))) am)) (gN 3) (aO (bq (cV (aa (pC (.int 0)) (aa (pC (.int 1)) (aa (pC (.int 2)) (aa (pC (.int 3)) (aa (pC (.int 4)) (aa (pC (.int 4)) (aa (pC (.int 4)) (aa (pC (.int 5)) (aa (pC (.int 5)) (aa (pC (.int 6)) (aa (pC (.int 7)) (aa (pC (.int 8)) (aa (pC (.int 9)) (aa (pC (.int 10)) (aa (pC (.int 10)) (aa (pC (.int 11)) (aa (pC (.int 11)) (aa (pC (.int 12)) (aa (pC (.int 13)) am)))))))))))))))))))) (gN 4))
 (aO (bq (az bC (ag 4) (az bf (bx bH 2 (aa (bx bJ 2 (aa (ag 0) (aa (az cn (pC (.int 1)) (az fH (pC (.int 2)) (ag 3))) am))) (aa (az cn (pC (.int 31)) (ag 3)) am))) (pC (.int 19)))) (gN 5))
 (bq (bx cZ 3 (aa (ag 2) (aa (ag 5) (aa (bx bH 2 (aa (bx bJ 2 (aa (ag 0) (aa (az cn (pC (.int 2)) (az fH (pC (.int 2)) (ag 3))) am))) (aa (az cn (pC (.int 35)) (ag 3)) am))) am)))) (gN 2))))):=by
  rw[hSq3,hBq3]
  generalize w6=z0 at*
  generalize iw=z1 at*
  generalize vJ=z2 at*
  generalize uT=z3 at*
  exact⟨_,gO PassesOwn.never rfl uq4 (bw (i:=3) jr.nd rfl (Or.inl rfl)) (au uq5
   (au uq26
   (ay uq27))) (hs:=fsq3),gK vq4 aA (aH vq5
   (aH vq26
   vq27))⟩
 clear hSq3 hBq3 fsq3 uq4 vq4 uq5 vq5 uq26 vq26 uq27 vq27
 obtain⟨tq28,uq28,vq28⟩:∃t,PS (kf P w K mg base f cdv A outer s H E) zR t∧SO K E t (bq (bx f8 1 (aa (ag 2) am)) (gN 6)):=⟨_,(aW (i:=6) jr.nd rfl (Or.inl rfl) (bt c__law_due hr (ac (pv 2) aj)) (hs:=gP)),(aZ (bz (ae af ap)) aA)⟩
 obtain⟨tq29,uq29,vq29⟩:∃t,PS (kf P w K mg base f cdv A outer s H E) Aq t∧SO K E t (bq (bx bM 1 (aa (ag 2) am)) (gN 7)):=⟨_,(aW (i:=7) jr.nd rfl (Or.inl rfl) (bt c__law_told hr (ac (pv 2) aj)) (hs:=gP)),(aZ (bz (ae af ap)) aA)⟩
 obtain⟨tq30,uq30,vq30⟩:∃t,PS (kf P w K mg base f cdv A outer s H E) zg t∧SO K E t (et (aG (az mY (ag 7) (ag 6))) (ce (pC (.bool false))) bv):=⟨_,(bO (aI (lb hu) (pv 7) (pv 6) (aL _)) (ay (bh jY)) aR),(bX (aC (aq la af af)) (bA lX) bg)⟩
 obtain⟨tq31,uq31,vq31⟩:∃t,PS (kf P w K mg base f cdv A outer s H E) AN t∧SO K E t (et (gb (aG (az BS (ag 6) (pC .none))) (gL (aG (dh tP (aa (eF 1 [] (nw (ag 7)) (gN 0) db (Ci (az tF (ag 0) (pC .none)) (bx dk 1 (aa (ag 0) am)))) am))))) (ce (pC (.bool false))) bv):=⟨_,(bO (PW.pt (fP (aI Be (pv 6) dC (aL _)) (eG (f9 (gn (aJ (lL rfl) rfl z_all wF (ac (fG ["_law_part"] [] rfl (hV (pv 7)) (fun _ _ _ _=>(bw (i:=0) (show List.Nodup (["_law_part"]:List Str) by decide+kernel) rfl (Or.inl rfl))) (fun _ _ _ _=>eQ) (fun _ _ _ _=>(CH (fY ox (pv 0) dC (aL _)) (mJ (bt c__law_whole hr (ac (pv 0) aj))))) trivial rfl) aj))))))) (ay (bh jY)) aR),(bX (dX (aC (aq BR af gJ)) (fo (iX (bS rq (ae (gr rfl rfl (mv af) aA eR (CW (aq wA af gJ) (bz (ae af ap)))) ap))))) (bA lX) bg)⟩
 obtain⟨tq32,uq32,vq32⟩:∃t,PS (kf P w K mg base f cdv A outer s H E) Ax t∧SO K E t (ce (az tF (bx bM 1 (aa (ag 1) am)) (pC .none))):=⟨_,(bh (fY ox (bt c__law_told hr (ac (pv 1) aj)) dC (aL _))),(bA (aq wA (bz (ae af ap)) gJ))⟩
 have hb:(ax (top 46))=[Az,zw,kJ,zR,Aq,zg,AN,Ax]:=rfl
 rw[hb]
 generalize Az=z0 at*
 generalize zw=z1 at*
 generalize kJ=z2 at*
 generalize zR=z3 at*
 generalize Aq=z4 at*
 generalize zg=z5 at*
 generalize AN=z6 at*
 generalize Ax=z7 at*
 exact⟨_,(au uq1
   (au uq2
   (au uq3
   (au uq28
   (au uq29
   (au uq30
   (au uq31
   (ay uq32)))))))),(aH vq1
   (aH vq2
   (aH vq3
   (aH vq28
   (aH vq29
   (aH vq30
   (aH vq31
   vq32)))))))⟩
theorem lB (F:Fun K "check_numbers" "check_numbers" (top 18) f fd) {C_NoBed B_NoBed fI_NoBed:Addr} {fdI_NoBed:FuncData} {oI_NoBed:Obj} (hC_NoBed:L9.XC K C_NoBed B_NoBed fI_NoBed) (lI_NoBed:K.lookup fI_NoBed=some oI_NoBed) (iI_NoBed:PySem.W.isFn K (.ref fI_NoBed)=true) (FI_NoBed:FnOk P w K mg base gX 1 fI_NoBed fdI_NoBed ["self","layer","key"] (L9.lJ C_NoBed "layer" "key")) (bI_NoBed:Binds K fdI_NoBed ["self","layer","key"] []) (hn_NoBed:PySem.W.nsIn K mainGlobals "NoBed"=some (some (.ref C_NoBed))) (hm_NoBed:mg "NoBed"=some (.ref C_NoBed)) (z_len:mg "len"=none) {t_MOST_KEYS:Tok} (m_MOST_KEYS:mg "MOST_KEYS"=some (.int 5 t_MOST_KEYS)) {t_MOST_LAYERS:Tok} (m_MOST_LAYERS:mg "MOST_LAYERS"=some (.int 3 t_MOST_LAYERS)) {t_MOST_CHORDS:Tok} (m_MOST_CHORDS:mg "MOST_CHORDS"=some (.int 4 t_MOST_CHORDS)) {t_MOST_WAIT:Tok} (m_MOST_WAIT:mg "MOST_WAIT"=some (.int 4 t_MOST_WAIT)):FnOk P w K mg base (L4.nJ P w) 3 f fd ["bed"] (i8 K 1 cX):=by
 refine L4.GA (k:=2) (n:=1) (m:=1) (g:=ei) (FF:=cX) F mi rfl rfl rfl (fun cdv A outer s H E hr=> ?_)
 have hu:=hr.units
 have hv:(A.deeper (PyProof.Rows.envOfC "check_numbers" (aw (top 18)) s.heap.objs.size f cdv)).units+65<cLine:=by have:=hr.un;omega
 exact⟨_,(au (bO (PW.pt (gY (f9 (jI mZ mZ ah (bp aM (pv 0) ah (fun _ _=>rfl)) (eZ (v:= .int 5) rfl m_MOST_KEYS ⟨_,rfl⟩))) (gF (f9 (jI mZ mZ ah (aJ bG rfl z_len de (ac (bp aM (pv 0) ah (fun _ _=>rfl)) aj)) (eZ (v:= .int 3) rfl m_MOST_LAYERS ⟨_,rfl⟩)))))) (ay (L9.ii hC_NoBed lI_NoBed iI_NoBed FI_NoBed bI_NoBed (hr.mono (by decide)) rfl hm_NoBed (ac dC (ac dC aj)))) aR)
   (ay (bO (PW.pt (gY (aI iJ (aJ bG rfl z_len de (ac (bp aM (pv 0) ah (fun _ _=>rfl)) aj)) (eZ (v:= .int 4) rfl m_MOST_CHORDS ⟨_,rfl⟩) (aL _)) (gF (f9 (jI mZ mZ ah (bp aM (pv 0) ah (fun _ _=>rfl)) (eZ (v:= .int 4) rfl m_MOST_WAIT ⟨_,rfl⟩)))))) (ay (L9.ii hC_NoBed lI_NoBed iI_NoBed FI_NoBed bI_NoBed (hr.mono (by decide)) rfl hm_NoBed (ac dC (ac dC aj)))) aR))),(aH (bX (fQ (fo (aC (gs jJ jJ ai (aq aN af ai) ai))) (fo (aC (gs jJ jJ ai (bS cJ (ae (aq aN af ai) ap)) ai)))) (L9.jw (by decide) hn_NoBed (ae gJ (ae gJ ap))) bg)
   (bX (fQ (aC (aq gm (bS cJ (ae (aq aN af ai) ap)) ai)) (fo (aC (gs jJ jJ ai (aq aN af ai) ai)))) (L9.jw (by decide) hn_NoBed (ae gJ (ae gJ ap))) bg))⟩
theorem nB (F:Fun K "check_layer" "check_layer" (top 19) f fd) {C_NoBed B_NoBed fI_NoBed:Addr} {fdI_NoBed:FuncData} {oI_NoBed:Obj} (hC_NoBed:L9.XC K C_NoBed B_NoBed fI_NoBed) (lI_NoBed:K.lookup fI_NoBed=some oI_NoBed) (iI_NoBed:PySem.W.isFn K (.ref fI_NoBed)=true) (FI_NoBed:FnOk P w K mg base gX 1 fI_NoBed fdI_NoBed ["self","layer","key"] (L9.lJ C_NoBed "layer" "key")) (bI_NoBed:Binds K fdI_NoBed ["self","layer","key"] []) (hn_NoBed:PySem.W.nsIn K mainGlobals "NoBed"=some (some (.ref C_NoBed))) (hm_NoBed:mg "NoBed"=some (.ref C_NoBed)) (c_may_mean:cW P w K mg base 2 "may_mean" ["meaning","layer","layers"] 3 gh) (z_len:mg "len"=none) (z_enumerate:mg "enumerate"=none):FnOk P w K mg base (L4.nJ P w) 3 f fd ["bed","layer"] (i8 K 2 c7):=by
 refine L4.GA (k:=2) (n:=2) (m:=5) (g:=fA) (FF:=c7) F gv rfl rfl rfl (fun cdv A outer s H E hr=> ?_)
 have hu:=hr.units
 have hv:(A.deeper (PyProof.Rows.envOfC "check_layer" (aw (top 19)) s.heap.objs.size f cdv)).units+65<cLine:=by have:=hr.un;omega
 exact⟨_,(au (aW (i:=2) gv.nd rfl (Or.inl rfl) (bp aM (bp aM (pv 0) ah (fun _ _=>rfl)) (pv 1) (fun _ _=>rfl)))
   (au (bO (aI (lb hu) (aJ bG rfl z_len de (ac (pv 2) aj)) (bp aM (pv 0) ah (fun _ _=>rfl)) (aL _)) (ay (L9.ii hC_NoBed lI_NoBed iI_NoBed FI_NoBed bI_NoBed (hr.mono (by decide)) rfl hm_NoBed (ac (pv 1) (ac dC aj)))) aR)
   (ay (gO PassesOwn.leaving rfl (zn rfl z_enumerate (ac (pv 2) aj)) (mw rfl (di (bw (i:=3) gv.nd rfl (Or.inl rfl)) (di (bw (i:=4) gv.nd rfl (Or.inl rfl)) ke))) (ay (bO (f9 (gn (bt c_may_mean hr (ac (pv 4) (ac (pv 1) (ac (aJ bG rfl z_len de (ac (bp aM (pv 0) ah (fun _ _=>rfl)) aj)) aj)))))) (ay (L9.ii hC_NoBed lI_NoBed iI_NoBed FI_NoBed bI_NoBed (hr.mono (by decide)) rfl hm_NoBed (ac (pv 1) (ac (pv 3) aj)))) aR)))))),(aH (aZ (aq aN (aq aN af ai) af) aA)
   (aH (bX (aC (aq la (bS cJ (ae af ap)) (aq aN af ai))) (L9.jw (by decide) hn_NoBed (ae af (ae gJ ap))) bg)
   (gK (Bk (ae af ap)) (mo (d4 aA (d4 aA l6))) (bX (fo (iX (bz (ae af (ae af (ae (bS cJ (ae (aq aN af ai) ap)) ap)))))) (L9.jw (by decide) hn_NoBed (ae af (ae af ap))) bg))))⟩
theorem nt (F:Fun K "check_chord" "check_chord" (top 21) f fd) {C_NoChord B_NoChord fI_NoChord:Addr} {fdI_NoChord:FuncData} {oI_NoChord:Obj} (hC_NoChord:L9.XC K C_NoChord B_NoChord fI_NoChord) (lI_NoChord:K.lookup fI_NoChord=some oI_NoChord) (iI_NoChord:PySem.W.isFn K (.ref fI_NoChord)=true) (FI_NoChord:FnOk P w K mg base gX 1 fI_NoChord fdI_NoChord ["self","place"] (L9.ti C_NoChord "place")) (bI_NoChord:Binds K fdI_NoChord ["self","place"] []) (hn_NoChord:PySem.W.nsIn K mainGlobals "NoChord"=some (some (.ref C_NoChord))) (hm_NoChord:mg "NoChord"=some (.ref C_NoChord)) (c_is_letter:cW P w K mg base 1 "is_letter" ["text"] 1 dq) (c_is_chord_set:cW P w K mg base 2 "is_chord_set" ["bed","keys"] 2 dD):FnOk P w K mg base (L4.nJ P w) 3 f fd ["bed","place"] (i8 K 2 ez):=by
 refine L4.GA (k:=2) (n:=2) (m:=3) (g:=fx) (FF:=ez) F jT rfl rfl rfl (fun cdv A outer s H E hr=> ?_)
 have hu:=hr.units
 have hv:(A.deeper (PyProof.Rows.envOfC "check_chord" (aw (top 21)) s.heap.objs.size f cdv)).units+65<cLine:=by have:=hr.un;omega
 exact⟨_,(au (aW (i:=2) jT.nd rfl (Or.inl rfl) (bp aM (bp aM (bp aM (pv 0) ah (fun _ _=>rfl)) (pv 1) (fun _ _=>rfl)) ah (fun _ _=>rfl)))
   (au (bO (PW.pt (gY (f9 (gn (bt c_is_letter hr (ac (bp aM (bp aM (bp aM (pv 0) ah (fun _ _=>rfl)) (pv 1) (fun _ _=>rfl)) ah (fun _ _=>rfl)) aj)))) (gF (f9 (gn (bt c_is_chord_set hr (ac (pv 0) (ac (pv 2) aj)))))))) (ay (L9.ii hC_NoChord lI_NoChord iI_NoChord FI_NoChord bI_NoChord (hr.mono (by decide)) rfl hm_NoChord (ac (pv 1) aj))) aR)
   (ay (bO (aI (ma hv) (pv 2) (fG ["chord"] [] rfl (hV (dU gB (bp aM (pv 0) ah (fun _ _=>rfl)) gl (dI (pv 1)))) (fun _ _ _ _=>(bw (i:=0) (show List.Nodup (["chord"]:List Str) by decide+kernel) rfl (Or.inl rfl))) (fun _ _ _ _=>eQ) (fun _ _ _ _=>(bp aM (pv 0) ah (fun _ _=>rfl))) trivial rfl) (by with_unfolding_all rfl)) (ay (L9.ii hC_NoChord lI_NoChord iI_NoChord FI_NoChord bI_NoChord (hr.mono (by decide)) rfl hm_NoChord (ac (pv 1) aj))) aR)))),(aH (aZ (aq aN (aq aN (aq aN af ai) af) ai) aA)
   (aH (bX (fQ (fo (iX (bz (ae (aq aN (aq aN (aq aN af ai) af) ai) ap)))) (fo (iX (bz (ae af (ae af ap)))))) (L9.qu hn_NoChord af) bg)
   (bX (aC (aq l8 af (gr rfl rfl (mv (iL jR (aq aN af ai) fC (c8 af))) aA eR (aq aN af ai)))) (L9.qu hn_NoChord af) bg)))⟩
theorem tN (F:Fun K "checked" "checked" (top 17) f fd) (c_check_numbers:L4.pG P w K mg base 3 "check_numbers" ["bed"] 1 cX) (c_check_layer:L4.pG P w K mg base 3 "check_layer" ["bed","layer"] 2 c7) (c_check_chord:L4.pG P w K mg base 3 "check_chord" ["bed","place"] 2 ez) (z_range:mg "range"=none) (z_len:mg "len"=none):FnOk P w K mg base (L4.nJ P w) 4 f fd ["bed"] (i8 K 1 dg):=by
 refine L4.GA (k:=3) (n:=1) (m:=3) (g:=gG) (FF:=dg) F kO rfl rfl rfl (fun cdv A outer s H E hr=> ?_)
 have hu:=hr.units
 have hv:(A.deeper (PyProof.Rows.envOfC "checked" (aw (top 17)) s.heap.objs.size f cdv)).units+65<cLine:=by have:=hr.un;omega
 exact⟨_,(au (gQ (L4.nV c_check_numbers L4.ph hr (ac (pv 0) aj)))
   (au (gO PassesOwn.leaving rfl (cS rfl z_range (ac (aJ bG rfl z_len de (ac (bp aM (pv 0) ah (fun _ _=>rfl)) aj)) aj)) (bw (i:=1) kO.nd rfl (Or.inl rfl)) (ay (gQ (L4.nV c_check_layer L4.ph hr (ac (pv 0) (ac (pv 1) aj))))))
   (au (gO PassesOwn.leaving rfl (cS rfl z_range (ac (aJ bG rfl z_len de (ac (bp aM (pv 0) ah (fun _ _=>rfl)) aj)) aj)) (bw (i:=2) kO.nd rfl (Or.inl rfl)) (ay (gQ (L4.nV c_check_chord L4.ph hr (ac (pv 0) (ac (pv 2) aj))))))
   (ay (bh (pv 0)))))),(aH (iH (ra (ae af ap)))
   (aH (gK (d6 (ae (bS cJ (ae (aq aN af ai) ap)) ap)) aA (iH (ra (ae af (ae af ap)))))
   (aH (gK (d6 (ae (bS cJ (ae (aq aN af ai) ap)) ap)) aA (iH (ra (ae af (ae af ap)))))
   (bA af))))⟩
end
end K22
namespace L2
open PySem PySem.Spec PyProof.Rows
section
variable {σ:St} {H:Hp} {Q:VK} {D:Ends}
theorem B9 {K:PySem.W.Frag} {ta tv:TE} {f:Str} (h:tv σ H fun y H1=>ta σ H1 fun x H2=>∃a C dx fs,x= .ref a∧H2 a=some (.ins C dx fs)∧Cls K C∧sS K C f∧fs.length<1000∧D.nx σ (cU H2 a (.ins C dx (EH f y fs)))):Hx K ta tv f D σ H:=h
theorem Dr {c:TT} {t u:TE} (h:c σ H fun b H1=>if b=true then t σ H1 Q else u σ H1 Q):HX c t u σ H Q:=h
theorem DM {K:PySem.W.Frag} {ta:TE} {f:Str} (h:ta σ H fun x H1=>∃a C dx fs v,x= .ref a∧H1 a=some (.ins C dx fs)∧Cls K C∧sS K C f∧fs.lookup f=some v∧Q v H1):G5 K ta f σ H Q:=h
theorem B2 {C:Addr} {m:Str} {sp:Sp} {E:XK} {ta:TE} {t:TA} (h:ta σ H fun x H1=>∃a dx fs,x= .ref a∧H1 a=some (.ins C dx fs)∧fs.lookup m=none∧t σ H1 fun vs H2=>sp (x::(vs++[])) H2 Q E):Ga C m sp [] E ta t σ H Q:=h
theorem BA {C:Addr} {sp:Sp} {E:XK} {t:TA} (h:t σ H fun vs H1=>∀x dx,H1 x=none→H1 dx=none→dx≠x→sp (.ref x::(vs++[])) (cU (cU H1 dx (.own x)) x (.ins C dx [])) (fun v H2=>v= .non∧Q (.ref x) H2) E):Fp C sp [] E t σ H Q:=h
end
end L2
local macro_rules| `(tactic|walk_at "gh")=> `(tactic|repeat (first
 |with_reducible refine L2.DZ ?_
 |with_reducible refine L2.EQ ?_
 |with_reducible refine L2.B9 ?_
 |with_reducible refine L2.Dr ?_
 |with_reducible refine L2.DM ?_
 |with_reducible refine L2.B2 ?_
 |with_reducible refine L2.BA ?_
 |with_reducible refine L2.Cp ?_
 |((with_reducible show L2.rB _ _ _ _);refine⟨_,rfl,?_⟩)
 |with_reducible refine L2.Hs ?_
 |with_reducible refine L2.FZ ?_
 |with_reducible refine L2.rd_un ?_
 |with_reducible refine L2.rd_i0 ?_
 |with_reducible refine L2.rd_u ?_
 |((with_reducible refine L2.rd_i ?_ ?_);first|exact⟨by decide,by decide⟩|exact⟨by decide,by decide,by decide⟩|exact(show(0:Int)<_ by decide)|exact⟨by decide,by decide+kernel⟩)
 |((with_reducible refine L2.Gp ?_ ?_);exact rfl)
 |((with_reducible refine L2.FB ?_ ?_);exact rfl)
 |with_reducible refine L2.Ey ?_
 |with_reducible refine L2.Cn ?_
 |with_reducible refine L2.D3 ?_
 |with_reducible refine L2.B1 ?_
 |with_reducible refine L2.rd_break ?_
 |with_reducible refine L2.rd_cont ?_
 |with_reducible refine L2.Cq ?_
 |with_reducible refine L2.Hq ?_
 |with_reducible refine L2.F7 ?_
 |with_reducible refine L2.rd_and ?_
 |with_reducible refine L2.FU ?_
 |with_reducible refine L2.DJ ?_
 |with_reducible refine L2.rd_andV ?_
 |with_reducible refine L2.rd_orV ?_
 |with_reducible refine L2.rd_notV ?_
 |with_reducible refine L2.D5 ?_
 |with_reducible refine L2.B8 ?_
 |with_reducible refine L2.FC ?_
 |with_reducible refine L2.BG ?_
 |with_reducible refine L2.EG ?_
 |with_reducible refine L2.D2 ?_
 |with_reducible refine L2.Fq ?_
 |with_reducible refine L2.rd_sl ?_
 |with_reducible refine L2.rd_nopart ?_
 |with_reducible refine L2.rd_part ?_
 |with_reducible refine L2.rd_int ?_
 |with_reducible refine L2.rd_chain ?_
 |with_reducible refine L2.rd_gcons ?_
 |with_reducible refine L2.rd_gnil ?_
 |with_reducible refine L2.rd_gsub ?_
 |with_reducible refine L2.rd_for ?_
 |with_reducible refine L2.rd_rng1 ?_
 |with_reducible refine L2.rd_rng2 ?_
 |with_reducible refine L2.rd_ilist ?_
 |with_reducible refine L2.rd_itup ?_
 |with_reducible refine L2.rd_ienum ?_
 |with_reducible refine L2.rd_comp ?_
 |with_reducible refine L2.rd_true ?_))
namespace K22
open PySem L2
theorem Fo {n:Nat} (h:n≤10000):n<sizeLine:=Nat.lt_of_le_of_lt h (by decide+kernel)
theorem kS {n:Nat} (h:n≤10000):n≤sizeLine:=Nat.le_of_lt (Fo h)
section
variable {P:Program} {w:World} {K:PySem.W.Frag} {mg:Str→Option Value} {base:Heap} {f:Addr} {fd:FuncData}
noncomputable def Cgt (CR:Addr) (H:Hp) (e:Addr):Prop:=∃ob,H e=some (.frz ob (.own e))∧ob.cls= .ref CR∧(∀p,ob.dict=some p→∃fs,H p=some (.xd fs))∧PySem.W.notCls ob=true
theorem Cgt.same {CR:Addr} {H H':Hp} {e:Addr} (h:Cgt CR H e) (s:Same H H'):Cgt CR H' e:=by
 obtain⟨ob,h1,h2,h3,h4⟩:=h
 exact⟨ob,s _ _ h1,h2,fun p hp=>let⟨fs,z⟩:=h3 p hp;⟨fs,s _ _ z⟩,h4⟩
theorem eV {K:PySem.W.Frag} {CR C:Addr} {m:List Value} {H:Hp} {e:Addr} {b:Bool} {Q:VK} (h:Cgt CR H e) (L:L4.ExLook K CR m) (k:PySem.W.kitOne K (.ref CR) (.ref C)=some b) (q:Q (.bl b) H):L4.y0 K [.ref e,.ref C] H Q:=by
 obtain⟨ob,h1,h2,h3,h4⟩:=h
 exact⟨_,.inl ⟨C,rfl,e,ob,CR,m,b,rfl,h1,h2,h3,h4,L,k,q⟩⟩
theorem DY {K:PySem.W.Frag} {CR:Addr} {n:String} {m:List Value} {H:Hp} {e:Addr} {b:Bool} {Q:VK} (h:Cgt CR H e) (L:L4.ExLook K CR m) (k:PySem.W.kitOne K (.ref CR) (.type n)=some b) (q:Q (.bl b) H):L4.y0 K [.ref e,.ty n] H Q:=by
 obtain⟨ob,h1,h2,h3,h4⟩:=h
 exact⟨_,.inr ⟨n,rfl,e,ob,CR,m,b,rfl,h1,h2,h3,h4,L,k,q⟩⟩
theorem tZ {K:PySem.W.Frag} (C:Addr):PySem.W.kitOne K (.ref C) (.ref C)=some true:=by
 unfold PySem.W.kitOne
 rw[if_pos (beq_iff_eq.mpr rfl)]
theorem eY {K:PySem.W.Frag} {CR C:Addr} (hs:PySem.W.subIn K (.ref CR) (.ref CR)=some true) (h1:PySem.W.isClsIn K C=true) (h2:PySem.W.typeIn K (.ref C)=some (.type "type")) (h3:PySem.W.subIn K (.ref CR) (.ref C)=some false):PySem.W.kitOne K (.ref CR) (.ref C)=some false:=by
 have ne:(Value.ref CR==Value.ref C)=false:=by
  cases e:(Value.ref CR==Value.ref C) with
  |false=>rfl
  |true=>
   obtain rfl:=Value.ref.inj (beq_iff_eq.mp e)
   rw[hs] at h3
   cases h3
 unfold PySem.W.kitOne
 rw[ne,if_neg Bool.false_ne_true]
 show(if((PySem.W.clsIn K C).isSome&&PySem.W.typeIn K (.ref C)==some (.type "type"))=true then PySem.W.subIn K (.ref CR) (.ref C) else none)=_
 rw[show(PySem.W.clsIn K C).isSome=true from h1,h2,if_pos (by rw[Bool.true_and];exact beq_iff_eq.mpr rfl)]
 exact h3
theorem yS {K:PySem.W.Frag} {CR:Addr} (h:PySem.W.subIn K (.ref CR) (.type "ValueError")=some true):PySem.W.kitOne K (.ref CR) (.type "ValueError")=some true:=by
 unfold PySem.W.kitOne
 rw[if_neg (by intro z;cases beq_iff_eq.mp z)]
 show(if PySem.W.kitMeta "ValueError"=true then PySem.W.subIn K (.ref CR) (.type "ValueError") else none)=_
 rw[if_pos (by decide+kernel)]
 exact h
noncomputable def lH (C:Addr) (j:Nat):Sp:=fun vs H Q _=>∃e,vs=[.ref e]∧Cgt C H e∧∀H',Same H H'→Q (.int (j:Int)) H'
theorem h7:FnScope ["_law_e","_law_found"] ["_law_e"] (aw (top 36)):=⟨rfl,rfl,rfl,by decide+kernel,rfl,by decide+kernel,by decide+kernel⟩
theorem G4:∀j,j<10→([decide (j=0),decide (j=1),decide (j=2),decide (j=3),decide (j=4),decide (j=5),decide (j=6),decide (j=7),decide (j=8),decide (j=9)]:List Bool).count true=1:=by decide
theorem Hv:∀j,j<10→([decide (j=0),decide (j=1),decide (j=2),decide (j=3),decide (j=4),decide (j=5),decide (j=6),decide (j=7),decide (j=8),decide (j=9)]:List Bool)[j]? =some true:=by decide
theorem Hi:∀j,j<10→∀m,m<j→([decide (j=0),decide (j=1),decide (j=2),decide (j=3),decide (j=4),decide (j=5),decide (j=6),decide (j=7),decide (j=8),decide (j=9)]:List Bool)[m]?≠some true:=by decide
theorem wZ {C C_NoBed C_NoChord C_NoText C_NoBook C_NoWord C_NoFrame C_NoReading C_TooMany C_NoKeys C_NoRow:Addr} {mR:List Value} {j:Nat} (hj:j<10) (F:Fun K "_law_kind" "_law_kind" (top 36) f fd) (L:L4.ExLook K C mR) (m_NoBed:mg "NoBed"=some (.ref C_NoBed)) (m_NoChord:mg "NoChord"=some (.ref C_NoChord)) (m_NoText:mg "NoText"=some (.ref C_NoText)) (m_NoBook:mg "NoBook"=some (.ref C_NoBook)) (m_NoWord:mg "NoWord"=some (.ref C_NoWord)) (m_NoFrame:mg "NoFrame"=some (.ref C_NoFrame)) (m_NoReading:mg "NoReading"=some (.ref C_NoReading)) (m_TooMany:mg "TooMany"=some (.ref C_TooMany)) (m_NoKeys:mg "NoKeys"=some (.ref C_NoKeys)) (m_NoRow:mg "NoRow"=some (.ref C_NoRow)) (k_NoBed:PySem.W.kitOne K (.ref C) (.ref C_NoBed)=some (decide (j=0))) (k_NoChord:PySem.W.kitOne K (.ref C) (.ref C_NoChord)=some (decide (j=1))) (k_NoText:PySem.W.kitOne K (.ref C) (.ref C_NoText)=some (decide (j=2))) (k_NoBook:PySem.W.kitOne K (.ref C) (.ref C_NoBook)=some (decide (j=3))) (k_NoWord:PySem.W.kitOne K (.ref C) (.ref C_NoWord)=some (decide (j=4))) (k_NoFrame:PySem.W.kitOne K (.ref C) (.ref C_NoFrame)=some (decide (j=5))) (k_NoReading:PySem.W.kitOne K (.ref C) (.ref C_NoReading)=some (decide (j=6))) (k_TooMany:PySem.W.kitOne K (.ref C) (.ref C_TooMany)=some (decide (j=7))) (k_NoKeys:PySem.W.kitOne K (.ref C) (.ref C_NoKeys)=some (decide (j=8))) (k_NoRow:PySem.W.kitOne K (.ref C) (.ref C_NoRow)=some (decide (j=9))) (kV:PySem.W.kitOne K (.ref C) (.type "ValueError")=some true) (z_isinstance:mg "isinstance"=none) (z_ValueError:mg "ValueError"=none):
  FnOk P w K mg base gX 1 f fd ["_law_e"] (lH C j):=by
 refine F.ok h7 (fun vs H Q E h=> ?_) (fun cdv A outer s H vs Q E hr h=> ?_)
 ·obtain⟨_,rfl,_⟩:=h
  rfl
 obtain⟨e,rfl,hc,q⟩:=h
 refine⟨_,(au (aW (i:=1) h7.nd rfl (Or.inl rfl) (cC (ac (aJ L4.fy rfl z_isinstance cq (ac (pv 0) (ac (eZ (v:= .ref C_NoBed) rfl m_NoBed rfl) aj))) (ac (aJ L4.fy rfl z_isinstance cq (ac (pv 0) (ac (eZ (v:= .ref C_NoChord) rfl m_NoChord rfl) aj))) (ac (aJ L4.fy rfl z_isinstance cq (ac (pv 0) (ac (eZ (v:= .ref C_NoText) rfl m_NoText rfl) aj))) (ac (aJ L4.fy rfl z_isinstance cq (ac (pv 0) (ac (eZ (v:= .ref C_NoBook) rfl m_NoBook rfl) aj))) aj))))))
   (au (aW (i:=1) h7.nd rfl (Or.inl rfl) (aB L3.sr (pv 1) (cC (ac (aJ L4.fy rfl z_isinstance cq (ac (pv 0) (ac (eZ (v:= .ref C_NoWord) rfl m_NoWord rfl) aj))) (ac (aJ L4.fy rfl z_isinstance cq (ac (pv 0) (ac (eZ (v:= .ref C_NoFrame) rfl m_NoFrame rfl) aj))) (ac (aJ L4.fy rfl z_isinstance cq (ac (pv 0) (ac (eZ (v:= .ref C_NoReading) rfl m_NoReading rfl) aj))) aj))))))
   (au (aW (i:=1) h7.nd rfl (Or.inl rfl) (aB L3.sr (pv 1) (cC (ac (aJ L4.fy rfl z_isinstance cq (ac (pv 0) (ac (eZ (v:= .ref C_TooMany) rfl m_TooMany rfl) aj))) (ac (aJ L4.fy rfl z_isinstance cq (ac (pv 0) (ac (eZ (v:= .ref C_NoKeys) rfl m_NoKeys rfl) aj))) (ac (aJ L4.fy rfl z_isinstance cq (ac (pv 0) (ac (eZ (v:= .ref C_NoRow) rfl m_NoRow rfl) aj))) aj))))))
   (au (bO (PW.pt (gY (f9 (gn (aJ L4.fy rfl z_isinstance cq (ac (pv 0) (ac (rl (v:= .ty "ValueError") rfl z_ValueError (show bootBuiltins "ValueError"=some (.type "ValueError") from rfl) rfl) aj))))) (gF (aI Fy (oP PySem.F.plainAttrs_list PySem.F.slot_list_count PySem.F.type_list_count L4.xW (pv 1) (ac jY aj)) ah (aL _))))) (ay (bh (mM jS ah))) aR)
   (ay (bh (oP PySem.F.plainAttrs_list PySem.F.slot_list_index PySem.F.type_list_index L4.xQ (pv 1) (ac jY aj)))))))),?_⟩
 walk_at "gh"
 refine eV hc L k_NoBed ?_
 walk_at "gh"
 refine eV hc L k_NoChord ?_
 walk_at "gh"
 refine eV hc L k_NoText ?_
 walk_at "gh"
 refine eV hc L k_NoBook ?_
 walk_at "gh"
 refine⟨kS (Nat.le_of_ble_eq_true rfl),fun p hp=> ?_⟩
 have s1:Same H (cU H p (.lst [.bl (decide (j=0)),.bl (decide (j=1)),.bl (decide (j=2)),.bl (decide (j=3))])):=b9 hp _
 have hc1:=hc.same s1
 walk_at "gh"
 refine eV hc1 L k_NoWord ?_
 walk_at "gh"
 refine eV hc1 L k_NoFrame ?_
 walk_at "gh"
 refine eV hc1 L k_NoReading ?_
 walk_at "gh"
 refine⟨kS (Nat.le_of_ble_eq_true rfl),fun p2 hp2=> ?_⟩
 have n2:p≠p2:=fun z=>by rw[←z,bj] at hp2;cases hp2
 refine⟨p,p2,[.bl (decide (j=0)),.bl (decide (j=1)),.bl (decide (j=2)),.bl (decide (j=3))],[.bl (decide (j=4)),.bl (decide (j=5)),.bl (decide (j=6))],rfl,rfl,.inl (Rd.of ((aK n2).trans bj)),.inl (Rd.of bj),kS (Nat.le_of_ble_eq_true rfl),fun p3 hp3=> ?_⟩
 have s2:=s1.trans (b9 hp2 (.lst [.bl (decide (j=4)),.bl (decide (j=5)),.bl (decide (j=6))]))
 have s3:=s2.trans (b9 hp3 (.lst ([.bl (decide (j=0)),.bl (decide (j=1)),.bl (decide (j=2)),.bl (decide (j=3))]++[.bl (decide (j=4)),.bl (decide (j=5)),.bl (decide (j=6))])))
 have hc3:=hc.same s3
 walk_at "gh"
 have e3:(cU (cU (cU H p (.lst [.bl (decide (j=0)),.bl (decide (j=1)),.bl (decide (j=2)),.bl (decide (j=3))])) p2 (.lst [.bl (decide (j=4)),.bl (decide (j=5)),.bl (decide (j=6))])) p3 (.lst ([.bl (decide (j=0)),.bl (decide (j=1)),.bl (decide (j=2)),.bl (decide (j=3))]++[.bl (decide (j=4)),.bl (decide (j=5)),.bl (decide (j=6))]))) p3=some (.lst ([.bl (decide (j=0)),.bl (decide (j=1)),.bl (decide (j=2)),.bl (decide (j=3))]++[.bl (decide (j=4)),.bl (decide (j=5)),.bl (decide (j=6))])):=bj
 generalize cU (cU (cU H p (.lst [.bl (decide (j=0)),.bl (decide (j=1)),.bl (decide (j=2)),.bl (decide (j=3))])) p2 (.lst [.bl (decide (j=4)),.bl (decide (j=5)),.bl (decide (j=6))])) p3 (.lst ([.bl (decide (j=0)),.bl (decide (j=1)),.bl (decide (j=2)),.bl (decide (j=3))]++[.bl (decide (j=4)),.bl (decide (j=5)),.bl (decide (j=6))]))=H3 at s3 hc3 e3
 refine eV hc3 L k_TooMany ?_
 walk_at "gh"
 refine eV hc3 L k_NoKeys ?_
 walk_at "gh"
 refine eV hc3 L k_NoRow ?_
 walk_at "gh"
 refine⟨kS (Nat.le_of_ble_eq_true rfl),fun p4 hp4=> ?_⟩
 have n4:p3≠p4:=fun z=>by rw[←z,e3] at hp4;cases hp4
 refine⟨p3,p4,_,[.bl (decide (j=7)),.bl (decide (j=8)),.bl (decide (j=9))],rfl,rfl,.inl (Rd.of ((aK n4).trans e3)),.inl (Rd.of bj),kS (show 10≤10000 by decide),fun p5 hp5=> ?_⟩
 have s5:=(s3.trans (b9 hp4 (.lst [.bl (decide (j=7)),.bl (decide (j=8)),.bl (decide (j=9))]))).trans (b9 hp5 (.lst (([.bl (decide (j=0)),.bl (decide (j=1)),.bl (decide (j=2)),.bl (decide (j=3))]++[.bl (decide (j=4)),.bl (decide (j=5)),.bl (decide (j=6))])++[.bl (decide (j=7)),.bl (decide (j=8)),.bl (decide (j=9))])))
 have e5:(cU (cU H3 p4 (.lst [.bl (decide (j=7)),.bl (decide (j=8)),.bl (decide (j=9))])) p5 (.lst (([.bl (decide (j=0)),.bl (decide (j=1)),.bl (decide (j=2)),.bl (decide (j=3))]++[.bl (decide (j=4)),.bl (decide (j=5)),.bl (decide (j=6))])++[.bl (decide (j=7)),.bl (decide (j=8)),.bl (decide (j=9))]))) p5=some (.lst (([.bl (decide (j=0)),.bl (decide (j=1)),.bl (decide (j=2)),.bl (decide (j=3))]++[.bl (decide (j=4)),.bl (decide (j=5)),.bl (decide (j=6))])++[.bl (decide (j=7)),.bl (decide (j=8)),.bl (decide (j=9))])):=bj
 generalize cU (cU H3 p4 (.lst [.bl (decide (j=7)),.bl (decide (j=8)),.bl (decide (j=9))])) p5 (.lst (([.bl (decide (j=0)),.bl (decide (j=1)),.bl (decide (j=2)),.bl (decide (j=3))]++[.bl (decide (j=4)),.bl (decide (j=5)),.bl (decide (j=6))])++[.bl (decide (j=7)),.bl (decide (j=8)),.bl (decide (j=9))]))=H5 at s5 e5
 have hc5:=hc.same s5
 walk_at "gh"
 refine DY hc5 L kV ?_
 walk_at "gh"
 rw[if_neg (by decide)]
 walk_at "gh"
 refine⟨.inl ⟨rfl,_,SqL.of e5⟩,?_⟩
 walk_at "gh"
 refine⟨p5,[decide (j=0),decide (j=1),decide (j=2),decide (j=3),decide (j=4),decide (j=5),decide (j=6),decide (j=7),decide (j=8),decide (j=9)],true,rfl,e5,rfl,?_⟩
 rw[G4 j hj]
 walk_at "gh"
 rw[if_neg (by decide)]
 walk_at "gh"
 refine⟨.inl ⟨rfl,_,SqL.of e5⟩,?_⟩
 walk_at "gh"
 exact⟨p5,[decide (j=0),decide (j=1),decide (j=2),decide (j=3),decide (j=4),decide (j=5),decide (j=6),decide (j=7),decide (j=8),decide (j=9)],true,j,rfl,e5,rfl,Hv j hj,Hi j hj,by omega,q _ s5⟩
end
end K22
namespace K22
open PySem L2
section
open L3 L4
variable {P:Program} {w:World} {K:PySem.W.Frag} {mg:Str→Option Value} {base:Heap} {f:Addr} {fd:FuncData}
theorem kv:FnScope ["self","place"] ["self","place"] (aw (fW (top 5) 0)):=⟨rfl,rfl,rfl,by decide+kernel,rfl,by decide+kernel,by decide+kernel⟩
theorem ym {C B fI:Addr} (F:Fun K "__init__" "NoChord.__init__" (fW (top 5) 0) f fd) (hC:L9.XC K C B fI) (hmB:mg "BedError"=some (.ref B)) (hrd:PySem.W.readsIn K B (.type "type")=true) (hfc:PySem.W.findCls K (.ref B) (.type "type") "__init__"=some (.val (.builtin "ValueError.__init__")))
  (hsp:PySem.W.specialIn K (.ref B) "__getattribute__"=some (some (.builtin "type.__getattribute__"))) (hp:PySem.W.findIn K (.ref C) "place"=some none):FnOk P w K mg base gX 1 f fd ["self","place"] (L9.ti C "place"):=by
 refine F.ok kv (fun vs H Q E h=> ?_) (fun cdv A outer s H vs Q E hr h=> ?_)
 ·obtain⟨_,_,rfl,_⟩:=h
  rfl
 obtain⟨e,v,rfl,fv,hE,q⟩:=h
 refine⟨_,(au (gQ (L9.uG rfl hmB hrd hfc hsp hC (ac (pv 0) (ac (L9.wX (L9.vo (by decide) (L9.vm (pv 1) L9.zY)) (by decide)) aj)))) (ay (L9.wN hC hp (pv 0) (pv 1) rfl))),?_⟩
 walk_at "gh"
 refine⟨V.ref e,rfl,v,rfl,fv,fun y=>⟨e,y,rfl,hE,?_⟩⟩
 exact⟨v,rfl,V.ref e,rfl,e,rfl,hE,fun p hp hpe=>q p hp hpe⟩
theorem lA:FnScope ["self","layer","key"] ["self","layer","key"] (aw (fW (top 4) 0)):=⟨rfl,rfl,rfl,by decide+kernel,rfl,by decide+kernel,by decide+kernel⟩
theorem uh {C B fI:Addr} (F:Fun K "__init__" "NoBed.__init__" (fW (top 4) 0) f fd) (hC:L9.XC K C B fI) (hmB:mg "BedError"=some (.ref B)) (hrd:PySem.W.readsIn K B (.type "type")=true) (hfc:PySem.W.findCls K (.ref B) (.type "type") "__init__"=some (.val (.builtin "ValueError.__init__")))
  (hsp:PySem.W.specialIn K (.ref B) "__getattribute__"=some (some (.builtin "type.__getattribute__"))) (hp:PySem.W.findIn K (.ref C) "layer"=some none) (hk:PySem.W.findIn K (.ref C) "key"=some none):FnOk P w K mg base gX 1 f fd ["self","layer","key"] (L9.lJ C "layer" "key"):=by
 refine F.ok lA (fun vs H Q E h=> ?_) (fun cdv A outer s H vs Q E hr h=> ?_)
 ·obtain⟨_,_,_,rfl,_⟩:=h
  rfl
 obtain⟨e,v,u,rfl,fv,fu,hE,q⟩:=h
 refine⟨_,(au (gQ (L9.uG rfl hmB hrd hfc hsp hC (ac (pv 0) (ac (L9.wX (L9.vo (by decide) (L9.vm (pv 1) (L9.vo (by decide) (L9.vm (pv 2) L9.zY)))) (by decide)) aj)))) (au (L9.wN hC hp (pv 0) (pv 1) rfl) (ay (L9.yR hC hk (pv 0) (pv 2) rfl)))),?_⟩
 walk_at "gh"
 refine⟨V.ref e,rfl,v,rfl,fv,u,rfl,fu,fun y=>⟨e,y,rfl,hE,?_⟩⟩
 refine⟨v,rfl,V.ref e,rfl,e,rfl,hE,fun p hp hpe=> ?_⟩
 refine⟨u,rfl,V.ref e,rfl,e,p,[("layer",v)],rfl,?_,bj,(show 1<1000 by decide),?_⟩
 ·rw[aK (Ne.symm hpe),bj]
 ·rw[BC]
  exact q p hp hpe
end
end K22
namespace K22
open PySem L2
section
variable {P:Program} {w:World} {K:PySem.W.Frag} {mg:Str→Option Value} {base:Heap} {f:Addr} {fd:FuncData}
theorem oq {X:Cx} {K:PySem.W.Frag} {P:Program} {w:World} {mg:Str→Option Value} {base:Heap} {k j n:Nat} {x:Str} {ps:List Str} {F:L3.FN} {E:XK} {e:Expr} {es:List Expr} {t:TA} {p pos:Pos} (C:L4.pG P w K mg base k x ps n F) (hP:X.prog=P) (hw:X.w=w) (hK:X.K=K) (hm:X.mg=mg) (hb:X.base=base) (hx:k7 (L4.nJ X.prog X.w) X E) (hr:Room j X.A) (ha:PA X (e::es) t) (hjk:k≤j:=by decide) (hg:Gl X x:=by rfl)
  (hdb:(x==("__debug__":Str))=false:=by decide) (he:starEach (e::es) X.env=(false,eval e X.env)::starEach es X.env:=by rfl) (hpl:(backTo pos (starEach es X.env)).any (·.1)=false:=by rfl):
  PE X (.Call (.Name x p) (e::es) [] pos) (pq (L3.i8 K n F) [] E t):=by
 subst hP hw hK hm hb
 exact L4.nV C hx hr ha hjk hg hdb he hpl
theorem qQ {X:Cx} {K:PySem.W.Frag} (hK:X.K=K) (hu:X.A.units+64<cLine):OpR X (compareOp .NotEq) (Ab K true):=by
 subst hK
 exact lb hu
theorem cD:FnScope ["_law_bed_here","_law_caught","_law_e","_law_kind_here"] ["_law_bed_here"] (aw (top 45)):=⟨rfl,rfl,rfl,by decide+kernel,rfl,by decide+kernel,by decide+kernel⟩
theorem BT {CN CC CB:Addr} {m m2 mB:List Value} (F:Fun K "_law_told" "_law_told" (top 45) f fd) (c_kind0:pZ P w K mg base 1 "_law_kind" ["_law_e"] (lH CN 0)) (c_kind1:pZ P w K mg base 1 "_law_kind" ["_law_e"] (lH CC 1))
  (c_chk:L4.pG P w K mg base 4 "checked" ["bed"] 1 dg)
  (hB:mg "BedError"=some (.ref CB)) (xB:L4.lG K CB mB) (bB:mB.contains (.type "BaseException")=true)
  (xN:L4.lG K CN m) (upN:(Value.ref CN::m).contains (.ref CB)=true) (nN:PySem.W.nsIn K mainGlobals "NoBed"=some (some (.ref CN))) (LN:L4.ExLook K CN m) (hhN:PySem.W.hasDictIn K CN=true) (hpl:PySem.W.findIn K (.ref CN) "layer"=some none) (hpk:PySem.W.findIn K (.ref CN) "key"=some none)
  (xC:L4.lG K CC m2) (upC:(Value.ref CC::m2).contains (.ref CB)=true) (nC:PySem.W.nsIn K mainGlobals "NoChord"=some (some (.ref CC))) (LC:L4.ExLook K CC m2) (hhC:PySem.W.hasDictIn K CC=true) (hpp:PySem.W.findIn K (.ref CC) "place"=some none):
  FnOk P w K mg base gX 6 f fd ["_law_bed_here"] (L3.i8 K 1 bM):=by
 refine F.ok cD (fun vs H Q E h=>h.1) (fun cdv A outer s H vs Q E hr h=> ?_)
 have hu:=hr.units
 obtain⟨hl,O,ds,hO,dv,wr⟩:=h
 obtain⟨b,rfl⟩:∃b,ds=[b]:=by
  have:=dv.length
  match ds,this.symm.trans hl with
  |[b],_=>exact⟨b,rfl⟩
 obtain⟨v0,rfl,d0⟩:∃v0,vs=[v0]∧L3.DV O K H v0 b:=by
  cases dv with
  |cons d0 r0=>
   cases r0
   exact⟨_,rfl,d0⟩
 have away:∀H5,Same H H5→∀t,H5 t=none→H t=none:=fun H5 s5 t ht=>by
  cases z:H t with
  |none=>rfl
  |some o=>rw[s5 _ _ z] at ht;cases ht
 cases h1:dg [b] with
 |bad=>unfold bM at wr;dsimp only at wr;rw[h1] at wr;exact wr.elim
 |ok rv=>
  cases rv with
  |ow es=>unfold bM at wr;dsimp only at wr;rw[h1] at wr;exact wr.elim
  |fz d=>
   have he:L3.mY d b=some (.fz (.bool false)):=by
    unfold bM at wr
    dsimp only at wr
    rw[h1] at wr
    dsimp only at wr
    split at wr
    ·assumption
    ·exact wr.elim
   have q:∀v H',Same H H'→L3.DV O K H' v .none→Q v H':=by
    have e:bM [b]= .ok (.fz .none):=by
     unfold bM
     dsimp only
     rw[h1]
     dsimp only
     rw[he]
    rw[e] at wr
    exact wr
   refine⟨_,(au (aW (i:=1) cD.nd rfl (Or.inl rfl) dC)
    (au (L4.vK (i:=2) (E2:=fun _ _ _=>False) rfl cD.nd rfl rfl rfl hB xB bB rfl rfl
     (fun l=>ay (bO (aI (qQ rfl hu) (oq c_chk rfl rfl rfl rfl rfl (L4.k6 rfl) hr (ac (pv 0) aj)) (pv 0) (aL _)) (ay fD) aR))
     (fun l e=>ay (aW (i:=1) cD.nd rfl (Or.inl rfl) (pv 2)))
     (fun c dx H1 h=>h.elim))
    (au (bO (aI ox (pv 1) dC (aL _)) (ay (bh dC)) aR)
    (au fD (au fD (au fD (ay fD))))))),?_⟩
   walk_at "gh"
   unfold L4.BV
   refine⟨?_,fun c dx H1 h2=>h2.elim⟩
   walk_at "gh"
   refine⟨rfl,O,[b],hO,.cons d0 .nil,?_⟩
   rw[h1]
   intro v H' s' dvv
   walk_at "gh"
   refine L3.la O H' _ _ d b (.fz (.bool false)) _ (fun t ht z=>hO t z (away H' s' t ht)) (L3.DV.x dvv) (L3.DV.x (L3.DV.ev (L3.Ev.grow s') d0)) he ?_
   intro v2 H2 s2 dv2
   cases dv2
   refine⟨false,rfl,?_⟩
   rw[if_neg Bool.false_ne_true]
   walk_at "gh"
   refine⟨rfl,true,?_,?_⟩
   ·show V.bl (decide (V.non=V.non))=V.bl true
    rw[decide_eq_true rfl]
   rw[if_pos rfl]
   walk_at "gh"
   exact q _ _ (s'.trans s2) .non
 |er x=>
  have cls2:(∃k l,dg [b]= .er ⟨"NoBed",[("key",k),("layer",l)]⟩∧L9.pP k=true∧L9.pP l=true)∨∃d,dg [b]= .er ⟨"NoChord",[("place",d)]⟩∧L9.pP d=true:=by
   unfold bM at wr
   dsimp only at wr
   rw[h1] at wr
   obtain⟨xc,xf⟩:=x
   dsimp only at wr
   split at wr
   ·rename_i hc
    subst hc
    split at wr
    ·rename_i g k f l
     split at wr
     ·rename_i hf
      obtain⟨rfl,rfl,hk,hl⟩:=hf
      exact .inl ⟨k,l,h1,hk,hl⟩
     ·exact wr.elim
    ·exact wr.elim
   ·split at wr
    ·rename_i hc
     subst hc
     split at wr
     ·rename_i f d
      split at wr
      ·rename_i hf
       obtain⟨rfl,hd⟩:=hf
       exact .inr ⟨d,h1,hd⟩
      ·exact wr.elim
     ·exact wr.elim
    ·exact wr.elim
  rcases cls2 with⟨kk,ll,h1,hk0,hl0⟩|⟨d,h1,hd0⟩
  ·have q:∀v H',Same H H'→L3.DV O K H' v (.tuple [.int 0,ll,kk])→Q v H':=by
    have e:bM [b]= .ok (.fz (.tuple [.int 0,ll,kk])):=by
     unfold bM
     dsimp only
     rw[h1]
     dsimp only
     rw[if_pos rfl,if_pos ⟨rfl,rfl,hk0,hl0⟩]
    rw[e] at wr
    exact wr
   clear wr
   refine⟨_,(au (aW (i:=1) cD.nd rfl (Or.inl rfl) dC)
    (au (L4.vK (i:=2) (E2:=fun c dx H1=>Same H H1∧c= .ref CN∧∃p fs v u,dx=some p∧H1 p=some (.xd fs)∧fs.lookup ("layer":Str)=some v∧fs.lookup ("key":Str)=some u∧L3.DV O K H1 v ll∧L3.DV O K H1 u kk) rfl cD.nd rfl rfl rfl hB xB bB rfl rfl
     (fun l=>ay (bO (aI (qQ rfl hu) (oq c_chk rfl rfl rfl rfl rfl (L4.k6 rfl) hr (ac (pv 0) aj)) (pv 0) (aL _)) (ay fD) aR))
     (fun l e=>ay (aW (i:=1) cD.nd rfl (Or.inl rfl) (pv 2)))
     (fun c dx H1 h=>⟨CN,m,h.2.1,xN,upN⟩))
    (au (bO (aI ox (pv 1) dC (aL _)) (ay (bh dC)) aR)
    (au (aW (i:=3) cD.nd rfl (Or.inl rfl) (bt c_kind0 hr (ac (pv 1) aj)))
    (au (bO (aI Ah (pv 3) ah (aL _)) (ay (bh (aV (ac ah (ac (L9.sL (pv 1) rfl) (ac (L9.sL (pv 1) rfl) aj)))))) aR)
    (au fD (ay fD))))))),?_⟩
   walk_at "gh"
   unfold L4.BV
   refine⟨?_,fun c dx H1 h2 σ' e ob hl he hc hd hn=> ?_⟩
   ·walk_at "gh"
    refine⟨rfl,O,[b],hO,.cons d0 .nil,?_⟩
    rw[h1]
    rintro c dx H' s' ⟨⟨a',e1,e2⟩,fs,g2,g3⟩
    obtain⟨nn,v,k1,k2⟩:=g3 "layer" ll rfl
    obtain⟨_,u,k3,k4⟩:=g3 "key" kk rfl
    have e3:=nN.symm.trans e2
    cases e3
    cases dx with
    |none=>exact absurd rfl nn
    |some p=>exact⟨s',e1,p,fs,v,u,rfl,g2 p rfl,k1,k3,k2,k4⟩
   ·obtain⟨x0,x1,x2,x3,rfl⟩:∃x0 x1 x2 x3,σ'=[x0,x1,x2,x3]:=by
     match σ',hl with
     |[x0,x1,x2,x3],_=>exact⟨x0,x1,x2,x3,rfl⟩
    obtain⟨s1,rfl,p,fs,v,u,rfl,hx,hv,hu',dvv,dvu⟩:=h2
    have s2':Same H1 (cU H1 e (.frz ob (.own e))):=b9 he _
    have s2:Same H (cU H1 e (.frz ob (.own e))):=s1.trans s2'
    have hx2:=s2' _ _ hx
    have dv2:L3.DV O K (cU H1 e (.frz ob (.own e))) v ll:=L3.DV.ev (L3.Ev.grow s2') dvv
    have du2:L3.DV O K (cU H1 e (.frz ob (.own e))) u kk:=L3.DV.ev (L3.Ev.grow s2') dvu
    have eE:(cU H1 e (.frz ob (.own e))) e=some (.frz ob (.own e)):=bj
    have cg:Cgt CN (cU H1 e (.frz ob (.own e))) e:=⟨ob,bj,hc,fun p' hp'=>by
     rw[hd] at hp'
     cases hp'
     exact⟨fs,hx2⟩,hn⟩
    generalize cU H1 e (.frz ob (.own e))=H2 at s2 hx2 dv2 du2 eE cg
    walk_at "gh"
    refine⟨rfl,false,?_,?_⟩
    ·show V.bl (decide (V.ref e=V.non))=V.bl false
     rw[decide_eq_false (fun z=>nomatch z)]
    rw[if_neg Bool.false_ne_true]
    walk_at "gh"
    refine⟨e,rfl,cg,fun H3 s3=> ?_⟩
    walk_at "gh"
    have xf:∀(σ:L2.St) (H4:Hp) (Q':VK),σ[1]? =some (some (.ref e))→Same H2 H4→Q' v H4→L9.wv K (rB 1) "layer" σ H4 Q':=fun σ H4 Q' z s4 hq=>⟨V.ref e,z,e,ob,CN,m,p,fs,v,rfl,s4 _ _ eE,hc,hd,hn,LN,hhN,hpl,s4 _ _ hx2,hv,hq⟩
    have xg:∀(σ:L2.St) (H4:Hp) (Q':VK),σ[1]? =some (some (.ref e))→Same H2 H4→Q' u H4→L9.wv K (rB 1) "key" σ H4 Q':=fun σ H4 Q' z s4 hq=>⟨V.ref e,z,e,ob,CN,m,p,fs,u,rfl,s4 _ _ eE,hc,hd,hn,LN,hhN,hpk,s4 _ _ hx2,hu',hq⟩
    rw[if_pos (by decide)]
    walk_at "gh"
    refine xf _ _ _ rfl s3 ?_
    walk_at "gh"
    refine xg _ _ _ rfl s3 ?_
    walk_at "gh"
    refine⟨kS (show 3≤10000 by decide),fun t ht=> ?_⟩
    have s6:Same H2 (cU H3 t (.tup [.int 0,v,u])):=s3.trans (b9 ht _)
    exact q _ _ (s2.trans s6) (.tup ⟨.inl (.inl bj),fun z=>absurd (away H3 (s2.trans s3) t ht) (hO t z)⟩ (.cons (.int 0) (.cons (L3.DV.ev (L3.Ev.grow s6) dv2) (.cons (L3.DV.ev (L3.Ev.grow s6) du2) .nil))))
  ·have q:∀v H',Same H H'→L3.DV O K H' v (.tuple [.int 1,d,.none])→Q v H':=by
    have e:bM [b]= .ok (.fz (.tuple [.int 1,d,.none])):=by
     unfold bM
     dsimp only
     rw[h1]
     dsimp only
     rw[if_neg (by decide),if_pos rfl,if_pos ⟨rfl,hd0⟩]
    rw[e] at wr
    exact wr
   clear wr
   refine⟨_,(au (aW (i:=1) cD.nd rfl (Or.inl rfl) dC)
    (au (L4.vK (i:=2) (E2:=fun c dx H1=>Same H H1∧c= .ref CC∧∃p fs v,dx=some p∧H1 p=some (.xd fs)∧fs.lookup ("place":Str)=some v∧L3.DV O K H1 v d) rfl cD.nd rfl rfl rfl hB xB bB rfl rfl
     (fun l=>ay (bO (aI (qQ rfl hu) (oq c_chk rfl rfl rfl rfl rfl (L4.k6 rfl) hr (ac (pv 0) aj)) (pv 0) (aL _)) (ay fD) aR))
     (fun l e=>ay (aW (i:=1) cD.nd rfl (Or.inl rfl) (pv 2)))
     (fun c dx H1 h=>⟨CC,m2,h.2.1,xC,upC⟩))
    (au (bO (aI ox (pv 1) dC (aL _)) (ay (bh dC)) aR)
    (au (aW (i:=3) cD.nd rfl (Or.inl rfl) (bt c_kind1 hr (ac (pv 1) aj)))
    (au (bO (aI Ah (pv 3) ah (aL _)) (ay fD) aR)
    (au (bO (aI Ah (pv 3) ah (aL _)) (ay (bh (aV (ac ah (ac (L9.sL (pv 1) rfl) (ac dC aj)))))) aR)
    (ay fD))))))),?_⟩
   walk_at "gh"
   unfold L4.BV
   refine⟨?_,fun c dx H1 h2 σ' e ob hl he hc hd hn=> ?_⟩
   ·walk_at "gh"
    refine⟨rfl,O,[b],hO,.cons d0 .nil,?_⟩
    rw[h1]
    rintro c dx H' s' ⟨⟨a',e1,e2⟩,fs,g2,g3⟩
    obtain⟨nn,v,k1,k2⟩:=g3 "place" d rfl
    have e3:=nC.symm.trans e2
    cases e3
    cases dx with
    |none=>exact absurd rfl nn
    |some p=>exact⟨s',e1,p,fs,v,rfl,g2 p rfl,k1,k2⟩
   ·obtain⟨x0,x1,x2,x3,rfl⟩:∃x0 x1 x2 x3,σ'=[x0,x1,x2,x3]:=by
     match σ',hl with
     |[x0,x1,x2,x3],_=>exact⟨x0,x1,x2,x3,rfl⟩
    obtain⟨s1,rfl,p,fs,v,rfl,hx,hv,dvv⟩:=h2
    have s2':Same H1 (cU H1 e (.frz ob (.own e))):=b9 he _
    have s2:Same H (cU H1 e (.frz ob (.own e))):=s1.trans s2'
    have hx2:=s2' _ _ hx
    have dv2:L3.DV O K (cU H1 e (.frz ob (.own e))) v d:=L3.DV.ev (L3.Ev.grow s2') dvv
    have eE:(cU H1 e (.frz ob (.own e))) e=some (.frz ob (.own e)):=bj
    have cg:Cgt CC (cU H1 e (.frz ob (.own e))) e:=⟨ob,bj,hc,fun p' hp'=>by
     rw[hd] at hp'
     cases hp'
     exact⟨fs,hx2⟩,hn⟩
    generalize cU H1 e (.frz ob (.own e))=H2 at s2 hx2 dv2 eE cg
    walk_at "gh"
    refine⟨rfl,false,?_,?_⟩
    ·show V.bl (decide (V.ref e=V.non))=V.bl false
     rw[decide_eq_false (fun z=>nomatch z)]
    rw[if_neg Bool.false_ne_true]
    walk_at "gh"
    refine⟨e,rfl,cg,fun H3 s3=> ?_⟩
    walk_at "gh"
    have xf:∀(σ:L2.St) (H4:Hp) (Q':VK),σ[1]? =some (some (.ref e))→Same H2 H4→Q' v H4→L9.wv K (rB 1) "place" σ H4 Q':=fun σ H4 Q' z s4 hq=>⟨V.ref e,z,e,ob,CC,m2,p,fs,v,rfl,s4 _ _ eE,hc,hd,hn,LC,hhC,hpp,s4 _ _ hx2,hv,hq⟩
    rw[if_neg (by decide)]
    walk_at "gh"
    rw[if_pos (by decide)]
    walk_at "gh"
    refine xf _ _ _ rfl s3 ?_
    walk_at "gh"
    refine⟨kS (show 3≤10000 by decide),fun t ht=> ?_⟩
    have s6:Same H2 (cU H3 t (.tup [.int 1,v,.non])):=s3.trans (b9 ht _)
    exact q _ _ (s2.trans s6) (.tup ⟨.inl (.inl bj),fun z=>absurd (away H3 (s2.trans s3) t ht) (hO t z)⟩ (.cons (.int 1) (.cons (L3.DV.ev (L3.Ev.grow s6) dv2) (.cons .non .nil))))
end
end K22
namespace K22
open PySem L2
theorem all_mk {l:PySem.W.OpenLaw} {w:World} {K:PySem.W.Frag} {h:Heap} {mg:Str→Option Value} {fa:Addr}
  {t_MOST_KEYS:Tok}
  {t_MOST_LAYERS:Tok}
  {t_MOST_CHORDS:Tok}
  {t_MOST_WAIT:Tok}
  {f__law_cell:Addr} {od0 an0:Option Addr} {sl0:Array (Option Value)} {oc0 kV0 dc0 pm0 cd0 ct0:Value}
  {f__law_stirred:Addr} {od1 an1:Option Addr} {sl1:Array (Option Value)} {oc1 kV1 dc1 pm1 cd1 ct1:Value}
  {f__law_stream:Addr} {od2 an2:Option Addr} {sl2:Array (Option Value)} {oc2 kV2 dc2 pm2 cd2 ct2:Value}
  {f__law_letter:Addr} {od3 an3:Option Addr} {sl3:Array (Option Value)} {oc3 kV3 dc3 pm3 cd3 ct3:Value}
  {f__law_meaning_of:Addr} {od4 an4:Option Addr} {sl4:Array (Option Value)} {oc4 kV4 dc4 pm4 cd4 ct4:Value}
  {f__law_read_bed:Addr} {od5 an5:Option Addr} {sl5:Array (Option Value)} {oc5 kV5 dc5 pm5 cd5 ct5:Value}
  {f__law_wide:Addr} {od6 an6:Option Addr} {sl6:Array (Option Value)} {oc6 kV6 dc6 pm6 cd6 ct6:Value}
  {f__law_meaning:Addr} {od7 an7:Option Addr} {sl7:Array (Option Value)} {oc7 kV7 dc7 pm7 cd7 ct7:Value}
  {f__law_bed:Addr} {od8 an8:Option Addr} {sl8:Array (Option Value)} {oc8 kV8 dc8 pm8 cd8 ct8:Value}
  {f__law_put:Addr} {od9 an9:Option Addr} {sl9:Array (Option Value)} {oc9 kV9 dc9 pm9 cd9 ct9:Value}
  {f__law_chords_changed:Addr} {od10 an10:Option Addr} {sl10:Array (Option Value)} {oc10 kV10 dc10 pm10 cd10 ct10:Value}
  {f__law_bad_meaning:Addr} {od11 an11:Option Addr} {sl11:Array (Option Value)} {oc11 kV11 dc11 pm11 cd11 ct11:Value}
  {f__law_changed:Addr} {od12 an12:Option Addr} {sl12:Array (Option Value)} {oc12 kV12 dc12 pm12 cd12 ct12:Value}
  {f__law_is_letter:Addr} {od13 an13:Option Addr} {sl13:Array (Option Value)} {oc13 kV13 dc13 pm13 cd13 ct13:Value}
  {f__law_means:Addr} {od14 an14:Option Addr} {sl14:Array (Option Value)} {oc14 kV14 dc14 pm14 cd14 ct14:Value}
  {f__law_chord_good:Addr} {od15 an15:Option Addr} {sl15:Array (Option Value)} {oc15 kV15 dc15 pm15 cd15 ct15:Value}
  {f__law_due:Addr} {od16 an16:Option Addr} {sl16:Array (Option Value)} {oc16 kV16 dc16 pm16 cd16 ct16:Value}
  {f_check_numbers:Addr} {od17 an17:Option Addr} {sl17:Array (Option Value)} {oc17 kV17 dc17 pm17 cd17 ct17:Value}
  {f_is_letter:Addr} {od18 an18:Option Addr} {sl18:Array (Option Value)} {oc18 kV18 dc18 pm18 cd18 ct18:Value}
  {f_may_mean:Addr} {od19 an19:Option Addr} {sl19:Array (Option Value)} {oc19 kV19 dc19 pm19 cd19 ct19:Value}
  {f_check_layer:Addr} {od20 an20:Option Addr} {sl20:Array (Option Value)} {oc20 kV20 dc20 pm20 cd20 ct20:Value}
  {f_rises:Addr} {od21 an21:Option Addr} {sl21:Array (Option Value)} {oc21 kV21 dc21 pm21 cd21 ct21:Value}
  {f_is_chord_set:Addr} {od22 an22:Option Addr} {sl22:Array (Option Value)} {oc22 kV22 dc22 pm22 cd22 ct22:Value}
  {f_check_chord:Addr} {od23 an23:Option Addr} {sl23:Array (Option Value)} {oc23 kV23 dc23 pm23 cd23 ct23:Value}
  {f_checked:Addr} {od24 an24:Option Addr} {sl24:Array (Option Value)} {oc24 kV24 dc24 pm24 cd24 ct24:Value}
  {f__law_whole:Addr} {od25 an25:Option Addr} {sl25:Array (Option Value)} {oc25 kV25 dc25 pm25 cd25 ct25:Value}
  {f__law_kind:Addr} {od26 an26:Option Addr} {sl26:Array (Option Value)} {oc26 kV26 dc26 pm26 cd26 ct26:Value}
  {f__law_told:Addr} {od27 an27:Option Addr} {sl27:Array (Option Value)} {oc27 kV27 dc27 pm27 cd27 ct27:Value}
  {f_law:Addr} {od28 an28:Option Addr} {sl28:Array (Option Value)} {oc28 kV28 dc28 pm28 cd28 ct28:Value}
  {C_NoBed C_NoFrame C_NoChord C_NoBook C_NoKeys C_NoRow C_NoText C_NoWord C_TooMany C_NoReading C_BedError:Addr} {mB:List Value}
  {nmR qR:Str} {NR:Addr} {bsR:List Value} {snR:List Str} {subR:List Value} {abR:Bool} {colR:Option Bool} {ddR:Option Addr} {k0R k1R k2R k3R k5R:Option Value}
  {nmS qS:Str} {NS:Addr} {bsS:List Value} {snS:List Str} {subS:List Value} {abS:Bool} {colS:Option Bool} {ddS:Option Addr} {k0S k1S k2S k3S k5S:Option Value}
  {nmB qB:Str} {NB:Addr} {bsB:List Value} {hdB:Bool} {snB:List Str} {subB:List Value} {abB:Bool} {colB:Option Bool} {ddB:Option Addr} {k0B k1B k2B k3B k5B:Option Value} {idB:String}
  {ocR:Value} {odR:Option Addr} {esR:Array DictEntry} {nR:Nat} {slR:Array (Option Value)}
  {ocS:Value} {odS:Option Addr} {esS:Array DictEntry} {nS:Nat} {slS:Array (Option Value)}
  {f_NoBed___init__:Addr} {od29 an29:Option Addr} {sl29:Array (Option Value)} {oc29 kV29 dc29 pm29 cd29 ct29:Value}
  {f_NoChord___init__:Addr} {od30 an30:Option Addr} {sl30:Array (Option Value)} {oc30 kV30 dc30 pm30 cd30 ct30:Value} (X:K.In h) (G:h.Ns mainGlobals mg) (hfa:mg "law"=some (.ref fa))
  (a__law_cell:PySem.W.nsIn K mainGlobals "_law_cell"=some (some (.ref f__law_cell)))
  (l__law_cell:K.lookup f__law_cell=some ⟨oc0,od0,.func (PySem.W.fnOf "_law_cell" "_law_cell" (bN (top 26)) (ax (top 26)) (aw (top 26)) .none kV0 dc0 pm0 an0 cd0 ct0),sl0⟩)
  (c__law_cell_:PySem.W.codeIn K cd0 "_law_cell"=true)
  (k__law_cell:PySem.W.keepIn K (.ref f__law_cell)=true)
  (a__law_stirred:PySem.W.nsIn K mainGlobals "_law_stirred"=some (some (.ref f__law_stirred)))
  (l__law_stirred:K.lookup f__law_stirred=some ⟨oc1,od1,.func (PySem.W.fnOf "_law_stirred" "_law_stirred" (bN (top 27)) (ax (top 27)) (aw (top 27)) .none kV1 dc1 pm1 an1 cd1 ct1),sl1⟩)
  (c__law_stirred_:PySem.W.codeIn K cd1 "_law_stirred"=true)
  (k__law_stirred:PySem.W.keepIn K (.ref f__law_stirred)=true)
  (a__law_stream:PySem.W.nsIn K mainGlobals "_law_stream"=some (some (.ref f__law_stream)))
  (l__law_stream:K.lookup f__law_stream=some ⟨oc2,od2,.func (PySem.W.fnOf "_law_stream" "_law_stream" (bN (top 29)) (ax (top 29)) (aw (top 29)) .none kV2 dc2 pm2 an2 cd2 ct2),sl2⟩)
  (c__law_stream_:PySem.W.codeIn K cd2 "_law_stream"=true)
  (k__law_stream:PySem.W.keepIn K (.ref f__law_stream)=true)
  (a__law_letter:PySem.W.nsIn K mainGlobals "_law_letter"=some (some (.ref f__law_letter)))
  (l__law_letter:K.lookup f__law_letter=some ⟨oc3,od3,.func (PySem.W.fnOf "_law_letter" "_law_letter" (bN (top 31)) (ax (top 31)) (aw (top 31)) .none kV3 dc3 pm3 an3 cd3 ct3),sl3⟩)
  (c__law_letter_:PySem.W.codeIn K cd3 "_law_letter"=true)
  (k__law_letter:PySem.W.keepIn K (.ref f__law_letter)=true)
  (a__law_meaning_of:PySem.W.nsIn K mainGlobals "_law_meaning_of"=some (some (.ref f__law_meaning_of)))
  (l__law_meaning_of:K.lookup f__law_meaning_of=some ⟨oc4,od4,.func (PySem.W.fnOf "_law_meaning_of" "_law_meaning_of" (bN (top 33)) (ax (top 33)) (aw (top 33)) .none kV4 dc4 pm4 an4 cd4 ct4),sl4⟩)
  (c__law_meaning_of_:PySem.W.codeIn K cd4 "_law_meaning_of"=true)
  (k__law_meaning_of:PySem.W.keepIn K (.ref f__law_meaning_of)=true)
  (a__law_read_bed:PySem.W.nsIn K mainGlobals "_law_read_bed"=some (some (.ref f__law_read_bed)))
  (l__law_read_bed:K.lookup f__law_read_bed=some ⟨oc5,od5,.func (PySem.W.fnOf "_law_read_bed" "_law_read_bed" (bN (top 34)) (ax (top 34)) (aw (top 34)) .none kV5 dc5 pm5 an5 cd5 ct5),sl5⟩)
  (c__law_read_bed_:PySem.W.codeIn K cd5 "_law_read_bed"=true)
  (k__law_read_bed:PySem.W.keepIn K (.ref f__law_read_bed)=true)
  (a__law_wide:PySem.W.nsIn K mainGlobals "_law_wide"=some (some (.ref f__law_wide)))
  (l__law_wide:K.lookup f__law_wide=some ⟨oc6,od6,.func (PySem.W.fnOf "_law_wide" "_law_wide" (bN (top 28)) (ax (top 28)) (aw (top 28)) .none kV6 dc6 pm6 an6 cd6 ct6),sl6⟩)
  (c__law_wide_:PySem.W.codeIn K cd6 "_law_wide"=true)
  (k__law_wide:PySem.W.keepIn K (.ref f__law_wide)=true)
  (a__law_meaning:PySem.W.nsIn K mainGlobals "_law_meaning"=some (some (.ref f__law_meaning)))
  (l__law_meaning:K.lookup f__law_meaning=some ⟨oc7,od7,.func (PySem.W.fnOf "_law_meaning" "_law_meaning" (bN (top 32)) (ax (top 32)) (aw (top 32)) .none kV7 dc7 pm7 an7 cd7 ct7),sl7⟩)
  (c__law_meaning_:PySem.W.codeIn K cd7 "_law_meaning"=true)
  (k__law_meaning:PySem.W.keepIn K (.ref f__law_meaning)=true)
  (a__law_bed:PySem.W.nsIn K mainGlobals "_law_bed"=some (some (.ref f__law_bed)))
  (l__law_bed:K.lookup f__law_bed=some ⟨oc8,od8,.func (PySem.W.fnOf "_law_bed" "_law_bed" (bN (top 35)) (ax (top 35)) (aw (top 35)) .none kV8 dc8 pm8 an8 cd8 ct8),sl8⟩)
  (c__law_bed_:PySem.W.codeIn K cd8 "_law_bed"=true)
  (k__law_bed:PySem.W.keepIn K (.ref f__law_bed)=true)
  (a__law_put:PySem.W.nsIn K mainGlobals "_law_put"=some (some (.ref f__law_put)))
  (l__law_put:K.lookup f__law_put=some ⟨oc9,od9,.func (PySem.W.fnOf "_law_put" "_law_put" (bN (top 41)) (ax (top 41)) (aw (top 41)) .none kV9 dc9 pm9 an9 cd9 ct9),sl9⟩)
  (c__law_put_:PySem.W.codeIn K cd9 "_law_put"=true)
  (k__law_put:PySem.W.keepIn K (.ref f__law_put)=true)
  (a__law_chords_changed:PySem.W.nsIn K mainGlobals "_law_chords_changed"=some (some (.ref f__law_chords_changed)))
  (l__law_chords_changed:K.lookup f__law_chords_changed=some ⟨oc10,od10,.func (PySem.W.fnOf "_law_chords_changed" "_law_chords_changed" (bN (top 43)) (ax (top 43)) (aw (top 43)) .none kV10 dc10 pm10 an10 cd10 ct10),sl10⟩)
  (c__law_chords_changed_:PySem.W.codeIn K cd10 "_law_chords_changed"=true)
  (k__law_chords_changed:PySem.W.keepIn K (.ref f__law_chords_changed)=true)
  (a__law_bad_meaning:PySem.W.nsIn K mainGlobals "_law_bad_meaning"=some (some (.ref f__law_bad_meaning)))
  (l__law_bad_meaning:K.lookup f__law_bad_meaning=some ⟨oc11,od11,.func (PySem.W.fnOf "_law_bad_meaning" "_law_bad_meaning" (bN (top 42)) (ax (top 42)) (aw (top 42)) .none kV11 dc11 pm11 an11 cd11 ct11),sl11⟩)
  (c__law_bad_meaning_:PySem.W.codeIn K cd11 "_law_bad_meaning"=true)
  (k__law_bad_meaning:PySem.W.keepIn K (.ref f__law_bad_meaning)=true)
  (a__law_changed:PySem.W.nsIn K mainGlobals "_law_changed"=some (some (.ref f__law_changed)))
  (l__law_changed:K.lookup f__law_changed=some ⟨oc12,od12,.func (PySem.W.fnOf "_law_changed" "_law_changed" (bN (top 44)) (ax (top 44)) (aw (top 44)) .none kV12 dc12 pm12 an12 cd12 ct12),sl12⟩)
  (c__law_changed_:PySem.W.codeIn K cd12 "_law_changed"=true)
  (k__law_changed:PySem.W.keepIn K (.ref f__law_changed)=true)
  (a__law_is_letter:PySem.W.nsIn K mainGlobals "_law_is_letter"=some (some (.ref f__law_is_letter)))
  (l__law_is_letter:K.lookup f__law_is_letter=some ⟨oc13,od13,.func (PySem.W.fnOf "_law_is_letter" "_law_is_letter" (bN (top 37)) (ax (top 37)) (aw (top 37)) .none kV13 dc13 pm13 an13 cd13 ct13),sl13⟩)
  (c__law_is_letter_:PySem.W.codeIn K cd13 "_law_is_letter"=true)
  (k__law_is_letter:PySem.W.keepIn K (.ref f__law_is_letter)=true)
  (a__law_means:PySem.W.nsIn K mainGlobals "_law_means"=some (some (.ref f__law_means)))
  (l__law_means:K.lookup f__law_means=some ⟨oc14,od14,.func (PySem.W.fnOf "_law_means" "_law_means" (bN (top 38)) (ax (top 38)) (aw (top 38)) .none kV14 dc14 pm14 an14 cd14 ct14),sl14⟩)
  (c__law_means_:PySem.W.codeIn K cd14 "_law_means"=true)
  (k__law_means:PySem.W.keepIn K (.ref f__law_means)=true)
  (a__law_chord_good:PySem.W.nsIn K mainGlobals "_law_chord_good"=some (some (.ref f__law_chord_good)))
  (l__law_chord_good:K.lookup f__law_chord_good=some ⟨oc15,od15,.func (PySem.W.fnOf "_law_chord_good" "_law_chord_good" (bN (top 39)) (ax (top 39)) (aw (top 39)) .none kV15 dc15 pm15 an15 cd15 ct15),sl15⟩)
  (c__law_chord_good_:PySem.W.codeIn K cd15 "_law_chord_good"=true)
  (k__law_chord_good:PySem.W.keepIn K (.ref f__law_chord_good)=true)
  (a__law_due:PySem.W.nsIn K mainGlobals "_law_due"=some (some (.ref f__law_due)))
  (l__law_due:K.lookup f__law_due=some ⟨oc16,od16,.func (PySem.W.fnOf "_law_due" "_law_due" (bN (top 40)) (ax (top 40)) (aw (top 40)) .none kV16 dc16 pm16 an16 cd16 ct16),sl16⟩)
  (c__law_due_:PySem.W.codeIn K cd16 "_law_due"=true)
  (k__law_due:PySem.W.keepIn K (.ref f__law_due)=true)
  (a_check_numbers:PySem.W.nsIn K mainGlobals "check_numbers"=some (some (.ref f_check_numbers)))
  (l_check_numbers:K.lookup f_check_numbers=some ⟨oc17,od17,.func (PySem.W.fnOf "check_numbers" "check_numbers" (bN (top 18)) (ax (top 18)) (aw (top 18)) .none kV17 dc17 pm17 an17 cd17 ct17),sl17⟩)
  (c_check_numbers_:PySem.W.codeIn K cd17 "check_numbers"=true)
  (k_check_numbers:PySem.W.keepIn K (.ref f_check_numbers)=true)
  (a_is_letter:PySem.W.nsIn K mainGlobals "is_letter"=some (some (.ref f_is_letter)))
  (l_is_letter:K.lookup f_is_letter=some ⟨oc18,od18,.func (PySem.W.fnOf "is_letter" "is_letter" (bN (top 24)) (ax (top 24)) (aw (top 24)) .none kV18 dc18 pm18 an18 cd18 ct18),sl18⟩)
  (c_is_letter_:PySem.W.codeIn K cd18 "is_letter"=true)
  (k_is_letter:PySem.W.keepIn K (.ref f_is_letter)=true)
  (a_may_mean:PySem.W.nsIn K mainGlobals "may_mean"=some (some (.ref f_may_mean)))
  (l_may_mean:K.lookup f_may_mean=some ⟨oc19,od19,.func (PySem.W.fnOf "may_mean" "may_mean" (bN (top 20)) (ax (top 20)) (aw (top 20)) .none kV19 dc19 pm19 an19 cd19 ct19),sl19⟩)
  (c_may_mean_:PySem.W.codeIn K cd19 "may_mean"=true)
  (k_may_mean:PySem.W.keepIn K (.ref f_may_mean)=true)
  (a_check_layer:PySem.W.nsIn K mainGlobals "check_layer"=some (some (.ref f_check_layer)))
  (l_check_layer:K.lookup f_check_layer=some ⟨oc20,od20,.func (PySem.W.fnOf "check_layer" "check_layer" (bN (top 19)) (ax (top 19)) (aw (top 19)) .none kV20 dc20 pm20 an20 cd20 ct20),sl20⟩)
  (c_check_layer_:PySem.W.codeIn K cd20 "check_layer"=true)
  (k_check_layer:PySem.W.keepIn K (.ref f_check_layer)=true)
  (a_rises:PySem.W.nsIn K mainGlobals "rises"=some (some (.ref f_rises)))
  (l_rises:K.lookup f_rises=some ⟨oc21,od21,.func (PySem.W.fnOf "rises" "rises" (bN (top 23)) (ax (top 23)) (aw (top 23)) .none kV21 dc21 pm21 an21 cd21 ct21),sl21⟩)
  (c_rises_:PySem.W.codeIn K cd21 "rises"=true)
  (k_rises:PySem.W.keepIn K (.ref f_rises)=true)
  (a_is_chord_set:PySem.W.nsIn K mainGlobals "is_chord_set"=some (some (.ref f_is_chord_set)))
  (l_is_chord_set:K.lookup f_is_chord_set=some ⟨oc22,od22,.func (PySem.W.fnOf "is_chord_set" "is_chord_set" (bN (top 22)) (ax (top 22)) (aw (top 22)) .none kV22 dc22 pm22 an22 cd22 ct22),sl22⟩)
  (c_is_chord_set_:PySem.W.codeIn K cd22 "is_chord_set"=true)
  (k_is_chord_set:PySem.W.keepIn K (.ref f_is_chord_set)=true)
  (a_check_chord:PySem.W.nsIn K mainGlobals "check_chord"=some (some (.ref f_check_chord)))
  (l_check_chord:K.lookup f_check_chord=some ⟨oc23,od23,.func (PySem.W.fnOf "check_chord" "check_chord" (bN (top 21)) (ax (top 21)) (aw (top 21)) .none kV23 dc23 pm23 an23 cd23 ct23),sl23⟩)
  (c_check_chord_:PySem.W.codeIn K cd23 "check_chord"=true)
  (k_check_chord:PySem.W.keepIn K (.ref f_check_chord)=true)
  (a_checked:PySem.W.nsIn K mainGlobals "checked"=some (some (.ref f_checked)))
  (l_checked:K.lookup f_checked=some ⟨oc24,od24,.func (PySem.W.fnOf "checked" "checked" (bN (top 17)) (ax (top 17)) (aw (top 17)) .none kV24 dc24 pm24 an24 cd24 ct24),sl24⟩)
  (c_checked_:PySem.W.codeIn K cd24 "checked"=true)
  (k_checked:PySem.W.keepIn K (.ref f_checked)=true)
  (a__law_whole:PySem.W.nsIn K mainGlobals "_law_whole"=some (some (.ref f__law_whole)))
  (l__law_whole:K.lookup f__law_whole=some ⟨oc25,od25,.func (PySem.W.fnOf "_law_whole" "_law_whole" (bN (top 30)) (ax (top 30)) (aw (top 30)) .none kV25 dc25 pm25 an25 cd25 ct25),sl25⟩)
  (c__law_whole_:PySem.W.codeIn K cd25 "_law_whole"=true)
  (k__law_whole:PySem.W.keepIn K (.ref f__law_whole)=true)
  (a__law_kind:PySem.W.nsIn K mainGlobals "_law_kind"=some (some (.ref f__law_kind)))
  (l__law_kind:K.lookup f__law_kind=some ⟨oc26,od26,.func (PySem.W.fnOf "_law_kind" "_law_kind" (bN (top 36)) (ax (top 36)) (aw (top 36)) .none kV26 dc26 pm26 an26 cd26 ct26),sl26⟩)
  (c__law_kind_:PySem.W.codeIn K cd26 "_law_kind"=true)
  (k__law_kind:PySem.W.keepIn K (.ref f__law_kind)=true)
  (a__law_told:PySem.W.nsIn K mainGlobals "_law_told"=some (some (.ref f__law_told)))
  (l__law_told:K.lookup f__law_told=some ⟨oc27,od27,.func (PySem.W.fnOf "_law_told" "_law_told" (bN (top 45)) (ax (top 45)) (aw (top 45)) .none kV27 dc27 pm27 an27 cd27 ct27),sl27⟩)
  (c__law_told_:PySem.W.codeIn K cd27 "_law_told"=true)
  (k__law_told:PySem.W.keepIn K (.ref f__law_told)=true)
  (a_law:PySem.W.nsIn K mainGlobals "law"=some (some (.ref f_law)))
  (l_law:K.lookup f_law=some ⟨oc28,od28,.func (PySem.W.fnOf "law" "law" (bN (top 46)) (ax (top 46)) (aw (top 46)) .none kV28 dc28 pm28 an28 cd28 ct28),sl28⟩)
  (c_law_:PySem.W.codeIn K cd28 "law"=true)
  (k_law:PySem.W.keepIn K (.ref f_law)=true)
  (aN_MOST_KEYS:PySem.W.nsIn K mainGlobals "MOST_KEYS"=some (some (.int 5 t_MOST_KEYS)))
  (aN_MOST_LAYERS:PySem.W.nsIn K mainGlobals "MOST_LAYERS"=some (some (.int 3 t_MOST_LAYERS)))
  (aN_MOST_CHORDS:PySem.W.nsIn K mainGlobals "MOST_CHORDS"=some (some (.int 4 t_MOST_CHORDS)))
  (aN_MOST_WAIT:PySem.W.nsIn K mainGlobals "MOST_WAIT"=some (some (.int 4 t_MOST_WAIT)))
  (y_len:PySem.W.nsIn K mainGlobals "len"=some none)
  (y_range:PySem.W.nsIn K mainGlobals "range"=some none)
  (y_enumerate:PySem.W.nsIn K mainGlobals "enumerate"=some none)
  (y_tuple:PySem.W.nsIn K mainGlobals "tuple"=some none)
  (y_isinstance:PySem.W.nsIn K mainGlobals "isinstance"=some none)
  (y_ValueError:PySem.W.nsIn K mainGlobals "ValueError"=some none)
  (y_max:PySem.W.nsIn K mainGlobals "max"=some none)
  (y_int:PySem.W.nsIn K mainGlobals "int"=some none)
  (y_sorted:PySem.W.nsIn K mainGlobals "sorted"=some none)
  (y_list:PySem.W.nsIn K mainGlobals "list"=some none)
  (y_set:PySem.W.nsIn K mainGlobals "set"=some none)
  (y_all:PySem.W.nsIn K mainGlobals "all"=some none)
  (y_zip:PySem.W.nsIn K mainGlobals "zip"=some none)
  (y_bool:PySem.W.nsIn K mainGlobals "bool"=some none)
  (aC_NoBed:PySem.W.nsIn K mainGlobals "NoBed"=some (some (.ref C_NoBed)))
  (aC_NoFrame:PySem.W.nsIn K mainGlobals "NoFrame"=some (some (.ref C_NoFrame)))
  (aC_NoChord:PySem.W.nsIn K mainGlobals "NoChord"=some (some (.ref C_NoChord)))
  (aC_NoReading:PySem.W.nsIn K mainGlobals "NoReading"=some (some (.ref C_NoReading)))
  (aC_NoKeys:PySem.W.nsIn K mainGlobals "NoKeys"=some (some (.ref C_NoKeys)))
  (aC_NoRow:PySem.W.nsIn K mainGlobals "NoRow"=some (some (.ref C_NoRow)))
  (aC_NoText:PySem.W.nsIn K mainGlobals "NoText"=some (some (.ref C_NoText)))
  (aC_NoWord:PySem.W.nsIn K mainGlobals "NoWord"=some (some (.ref C_NoWord)))
  (aC_TooMany:PySem.W.nsIn K mainGlobals "TooMany"=some (some (.ref C_TooMany)))
  (aC_NoBook:PySem.W.nsIn K mainGlobals "NoBook"=some (some (.ref C_NoBook)))
  (aC_BedError:PySem.W.nsIn K mainGlobals "BedError"=some (some (.ref C_BedError)))
  (xR:K.lookup C_NoBed=some (excClassObj nmR qR C_NoBed NR bsR (.ref C_BedError::[.type "ValueError",.type "Exception",.type "BaseException",.type "object"]) true snR subR abR colR ddR k0R k1R k2R k3R k5R "ValueError.__new__"))
  (xS:K.lookup C_NoChord=some (excClassObj nmS qS C_NoChord NS bsS (.ref C_BedError::[.type "ValueError",.type "Exception",.type "BaseException",.type "object"]) true snS subS abS colS ddS k0S k1S k2S k3S k5S "ValueError.__new__"))
  (xB:K.lookup C_BedError=some (excClassObj nmB qB C_BedError NB bsB mB hdB snB subB abB colB ddB k0B k1B k2B k3B k5B idB))
  (eI:PySem.W.excIn K C_BedError [.type "ValueError",.type "Exception",.type "BaseException",.type "object"] "ValueError.__new__"=true)
  (beB:mB.contains (.type "BaseException")=true)
  (gaR:PySem.W.findIn K (.ref C_NoBed) "__getattribute__"=some (some (.builtin "BaseException.__getattribute__")))
  (gtR:PySem.W.findIn K (.ref C_NoBed) "__getattr__"=some none)
  (csR:PySem.W.findIn K (.ref C_NoBed) "__class__"=some (some (.builtin "object.__class__")))
  (obR:PySem.W.mroIn K C_NoBed (.type "object")=some true)
  (suR:PySem.W.subIn K (.ref C_NoBed) (.ref C_NoBed)=some true)
  (svR:PySem.W.subIn K (.ref C_NoBed) (.type "ValueError")=some true)
  (suR_NoChord:PySem.W.subIn K (.ref C_NoBed) (.ref C_NoChord)=some false)
  (suR_NoText:PySem.W.subIn K (.ref C_NoBed) (.ref C_NoText)=some false)
  (suR_NoBook:PySem.W.subIn K (.ref C_NoBed) (.ref C_NoBook)=some false)
  (suR_NoWord:PySem.W.subIn K (.ref C_NoBed) (.ref C_NoWord)=some false)
  (suR_NoFrame:PySem.W.subIn K (.ref C_NoBed) (.ref C_NoFrame)=some false)
  (suR_NoReading:PySem.W.subIn K (.ref C_NoBed) (.ref C_NoReading)=some false)
  (suR_TooMany:PySem.W.subIn K (.ref C_NoBed) (.ref C_TooMany)=some false)
  (suR_NoKeys:PySem.W.subIn K (.ref C_NoBed) (.ref C_NoKeys)=some false)
  (suR_NoRow:PySem.W.subIn K (.ref C_NoBed) (.ref C_NoRow)=some false)
  (lR:K.lookup NR=some ⟨ocR,odR,.dict esR nR,slR⟩)
  (okR:(esR.all fun e=>match e.key with| .str _ _=>true|_=>false)=true)
  (inR:PySem.W.nsIn K NR "__init__"=some (some (.ref f_NoBed___init__)))
  (saR:PySem.W.findIn K (.ref C_NoBed) "__setattr__"=some (some (.builtin "object.__setattr__")))
  (hdR:PySem.W.hasDictIn K C_NoBed=true)
  (pR_layer:PySem.W.findIn K (.ref C_NoBed) "layer"=some none)
  (pR_key:PySem.W.findIn K (.ref C_NoBed) "key"=some none)
  (gaS:PySem.W.findIn K (.ref C_NoChord) "__getattribute__"=some (some (.builtin "BaseException.__getattribute__")))
  (gtS:PySem.W.findIn K (.ref C_NoChord) "__getattr__"=some none)
  (csS:PySem.W.findIn K (.ref C_NoChord) "__class__"=some (some (.builtin "object.__class__")))
  (obS:PySem.W.mroIn K C_NoChord (.type "object")=some true)
  (suS:PySem.W.subIn K (.ref C_NoChord) (.ref C_NoChord)=some true)
  (svS:PySem.W.subIn K (.ref C_NoChord) (.type "ValueError")=some true)
  (suS_NoBed:PySem.W.subIn K (.ref C_NoChord) (.ref C_NoBed)=some false)
  (suS_NoText:PySem.W.subIn K (.ref C_NoChord) (.ref C_NoText)=some false)
  (suS_NoBook:PySem.W.subIn K (.ref C_NoChord) (.ref C_NoBook)=some false)
  (suS_NoWord:PySem.W.subIn K (.ref C_NoChord) (.ref C_NoWord)=some false)
  (suS_NoFrame:PySem.W.subIn K (.ref C_NoChord) (.ref C_NoFrame)=some false)
  (suS_NoReading:PySem.W.subIn K (.ref C_NoChord) (.ref C_NoReading)=some false)
  (suS_TooMany:PySem.W.subIn K (.ref C_NoChord) (.ref C_TooMany)=some false)
  (suS_NoKeys:PySem.W.subIn K (.ref C_NoChord) (.ref C_NoKeys)=some false)
  (suS_NoRow:PySem.W.subIn K (.ref C_NoChord) (.ref C_NoRow)=some false)
  (lS:K.lookup NS=some ⟨ocS,odS,.dict esS nS,slS⟩)
  (okS:(esS.all fun e=>match e.key with| .str _ _=>true|_=>false)=true)
  (inS:PySem.W.nsIn K NS "__init__"=some (some (.ref f_NoChord___init__)))
  (saS:PySem.W.findIn K (.ref C_NoChord) "__setattr__"=some (some (.builtin "object.__setattr__")))
  (hdS:PySem.W.hasDictIn K C_NoChord=true)
  (pS_place:PySem.W.findIn K (.ref C_NoChord) "place"=some none)
  (ic_NoBed:PySem.W.isClsIn K C_NoBed=true)
  (ty_NoBed:PySem.W.typeIn K (.ref C_NoBed)=some (.type "type"))
  (ic_NoChord:PySem.W.isClsIn K C_NoChord=true)
  (ty_NoChord:PySem.W.typeIn K (.ref C_NoChord)=some (.type "type"))
  (ic_NoText:PySem.W.isClsIn K C_NoText=true)
  (ty_NoText:PySem.W.typeIn K (.ref C_NoText)=some (.type "type"))
  (ic_NoBook:PySem.W.isClsIn K C_NoBook=true)
  (ty_NoBook:PySem.W.typeIn K (.ref C_NoBook)=some (.type "type"))
  (ic_NoWord:PySem.W.isClsIn K C_NoWord=true)
  (ty_NoWord:PySem.W.typeIn K (.ref C_NoWord)=some (.type "type"))
  (ic_NoFrame:PySem.W.isClsIn K C_NoFrame=true)
  (ty_NoFrame:PySem.W.typeIn K (.ref C_NoFrame)=some (.type "type"))
  (ic_NoReading:PySem.W.isClsIn K C_NoReading=true)
  (ty_NoReading:PySem.W.typeIn K (.ref C_NoReading)=some (.type "type"))
  (ic_TooMany:PySem.W.isClsIn K C_TooMany=true)
  (ty_TooMany:PySem.W.typeIn K (.ref C_TooMany)=some (.type "type"))
  (ic_NoKeys:PySem.W.isClsIn K C_NoKeys=true)
  (ty_NoKeys:PySem.W.typeIn K (.ref C_NoKeys)=some (.type "type"))
  (ic_NoRow:PySem.W.isClsIn K C_NoRow=true)
  (ty_NoRow:PySem.W.typeIn K (.ref C_NoRow)=some (.type "type"))
  (rdB:PySem.W.readsIn K C_BedError (.type "type")=true)
  (fcB:PySem.W.findCls K (.ref C_BedError) (.type "type") "__init__"=some (.val (.builtin "ValueError.__init__")))
  (spB:PySem.W.specialIn K (.ref C_BedError) "__getattribute__"=some (some (.builtin "type.__getattribute__")))
  (a_NoBed___init__:PySem.W.findIn K (.ref C_NoBed) "__init__"=some (some (.ref f_NoBed___init__)))
  (i_NoBed___init__:PySem.W.isFn K (.ref f_NoBed___init__)=true)
  (l_NoBed___init__:K.lookup f_NoBed___init__=some ⟨oc29,od29,.func (PySem.W.fnOf "__init__" "NoBed.__init__" (bN (fW (top 4) 0)) (ax (fW (top 4) 0)) (aw (fW (top 4) 0)) .none kV29 dc29 pm29 an29 cd29 ct29),sl29⟩)
  (c_NoBed___init___:PySem.W.codeIn K cd29 "NoBed.__init__"=true)
  (k_NoBed___init__:PySem.W.keepIn K (.ref f_NoBed___init__)=true)
  (a_NoChord___init__:PySem.W.findIn K (.ref C_NoChord) "__init__"=some (some (.ref f_NoChord___init__)))
  (i_NoChord___init__:PySem.W.isFn K (.ref f_NoChord___init__)=true)
  (l_NoChord___init__:K.lookup f_NoChord___init__=some ⟨oc30,od30,.func (PySem.W.fnOf "__init__" "NoChord.__init__" (bN (fW (top 5) 0)) (ax (fW (top 5) 0)) (aw (fW (top 5) 0)) .none kV30 dc30 pm30 an30 cd30 ct30),sl30⟩)
  (c_NoChord___init___:PySem.W.codeIn K cd30 "NoChord.__init__"=true)
  (k_NoChord___init__:PySem.W.keepIn K (.ref f_NoChord___init__)=true):
  ∃fd:FuncData,(∀(s:Shared) (v:Value),BindsTo s fd ⟨[v],[]⟩ [("_law_script",v)])∧∀base:Heap,K.In base→base.Ns mainGlobals mg→FnOk l.prog w K mg base gX 7 fa fd ["_law_script"] (L3.i8 K 1 F_lawH):=by
 have e:=hfa.symm.trans (PySem.W.mg_of X G a_law)
 cases e
 have z_len:=PySem.W.mg_none_of X G y_len
 have z_range:=PySem.W.mg_none_of X G y_range
 have z_enumerate:=PySem.W.mg_none_of X G y_enumerate
 have z_tuple:=PySem.W.mg_none_of X G y_tuple
 have z_isinstance:=PySem.W.mg_none_of X G y_isinstance
 have z_ValueError:=PySem.W.mg_none_of X G y_ValueError
 have z_max:=PySem.W.mg_none_of X G y_max
 have z_int:=PySem.W.mg_none_of X G y_int
 have z_sorted:=PySem.W.mg_none_of X G y_sorted
 have z_list:=PySem.W.mg_none_of X G y_list
 have z_set:=PySem.W.mg_none_of X G y_set
 have z_all:=PySem.W.mg_none_of X G y_all
 have z_zip:=PySem.W.mg_none_of X G y_zip
 have z_bool:=PySem.W.mg_none_of X G y_bool
 have m_MOST_KEYS:=PySem.W.mg_of X G aN_MOST_KEYS
 have m_MOST_LAYERS:=PySem.W.mg_of X G aN_MOST_LAYERS
 have m_MOST_CHORDS:=PySem.W.mg_of X G aN_MOST_CHORDS
 have m_MOST_WAIT:=PySem.W.mg_of X G aN_MOST_WAIT
 have F__law_cell_:=cI (st:=(top 26)) l__law_cell c__law_cell_ k__law_cell
 have b__law_cell:=F__law_cell_.binds (ps:=["_law_script","_law_k"]) fun _ _ _ _ _ _ us hl=>match us,hl with|[_,_],_=>rfl
 have F__law_stirred_:=cI (st:=(top 27)) l__law_stirred c__law_stirred_ k__law_stirred
 have b__law_stirred:=F__law_stirred_.binds (ps:=["_law_cell_here","_law_salt"]) fun _ _ _ _ _ _ us hl=>match us,hl with|[_,_],_=>rfl
 have F__law_stream_:=cI (st:=(top 29)) l__law_stream c__law_stream_ k__law_stream
 have b__law_stream:=F__law_stream_.binds (ps:=["_law_cell_here","_law_many"]) fun _ _ _ _ _ _ us hl=>match us,hl with|[_,_],_=>rfl
 have F__law_letter_:=cI (st:=(top 31)) l__law_letter c__law_letter_ k__law_letter
 have b__law_letter:=F__law_letter_.binds (ps:=["_law_cell_here"]) fun _ _ _ _ _ _ us hl=>match us,hl with|[_],_=>rfl
 have F__law_meaning_of_:=cI (st:=(top 33)) l__law_meaning_of c__law_meaning_of_ k__law_meaning_of
 have b__law_meaning_of:=F__law_meaning_of_.binds (ps:=["_law_rest","_law_layer","_law_layers"]) fun _ _ _ _ _ _ us hl=>match us,hl with|[_,_,_],_=>rfl
 have F__law_read_bed_:=cI (st:=(top 34)) l__law_read_bed c__law_read_bed_ k__law_read_bed
 have b__law_read_bed:=F__law_read_bed_.binds (ps:=["_law_xs"]) fun _ _ _ _ _ _ us hl=>match us,hl with|[_],_=>rfl
 have F__law_wide_:=cI (st:=(top 28)) l__law_wide c__law_wide_ k__law_wide
 have b__law_wide:=F__law_wide_.binds (ps:=["_law_cell_here","_law_salt"]) fun _ _ _ _ _ _ us hl=>match us,hl with|[_,_],_=>rfl
 have F__law_meaning_:=cI (st:=(top 32)) l__law_meaning c__law_meaning_ k__law_meaning
 have b__law_meaning:=F__law_meaning_.binds (ps:=["_law_cell_here","_law_layer","_law_layers"]) fun _ _ _ _ _ _ us hl=>match us,hl with|[_,_,_],_=>rfl
 have F__law_bed_:=cI (st:=(top 35)) l__law_bed c__law_bed_ k__law_bed
 have b__law_bed:=F__law_bed_.binds (ps:=["_law_script","_law_at"]) fun _ _ _ _ _ _ us hl=>match us,hl with|[_,_],_=>rfl
 have F__law_put_:=cI (st:=(top 41)) l__law_put c__law_put_ k__law_put
 have b__law_put:=F__law_put_.binds (ps:=["_law_row","_law_at","_law_thing"]) fun _ _ _ _ _ _ us hl=>match us,hl with|[_,_,_],_=>rfl
 have F__law_chords_changed_:=cI (st:=(top 43)) l__law_chords_changed c__law_chords_changed_ k__law_chords_changed
 have b__law_chords_changed:=F__law_chords_changed_.binds (ps:=["_law_chords","_law_keys","_law_way","_law_x"]) fun _ _ _ _ _ _ us hl=>match us,hl with|[_,_,_,_],_=>rfl
 have F__law_bad_meaning_:=cI (st:=(top 42)) l__law_bad_meaning c__law_bad_meaning_ k__law_bad_meaning
 have b__law_bad_meaning:=F__law_bad_meaning_.binds (ps:=["_law_x","_law_layers"]) fun _ _ _ _ _ _ us hl=>match us,hl with|[_,_],_=>rfl
 have F__law_changed_:=cI (st:=(top 44)) l__law_changed c__law_changed_ k__law_changed
 have b__law_changed:=F__law_changed_.binds (ps:=["_law_bed_here","_law_way","_law_x"]) fun _ _ _ _ _ _ us hl=>match us,hl with|[_,_,_],_=>rfl
 have F__law_is_letter_:=cI (st:=(top 37)) l__law_is_letter c__law_is_letter_ k__law_is_letter
 have b__law_is_letter:=F__law_is_letter_.binds (ps:=["_law_sign"]) fun _ _ _ _ _ _ us hl=>match us,hl with|[_],_=>rfl
 have F__law_means_:=cI (st:=(top 38)) l__law_means c__law_means_ k__law_means
 have b__law_means:=F__law_means_.binds (ps:=["_law_meaning_here","_law_layer","_law_layers"]) fun _ _ _ _ _ _ us hl=>match us,hl with|[_,_,_],_=>rfl
 have F__law_chord_good_:=cI (st:=(top 39)) l__law_chord_good c__law_chord_good_ k__law_chord_good
 have b__law_chord_good:=F__law_chord_good_.binds (ps:=["_law_chords","_law_place","_law_keys","_law_plain"]) fun _ _ _ _ _ _ us hl=>match us,hl with|[_,_,_,_],_=>rfl
 have F__law_due_:=cI (st:=(top 40)) l__law_due c__law_due_ k__law_due
 have b__law_due:=F__law_due_.binds (ps:=["_law_bed_here"]) fun _ _ _ _ _ _ us hl=>match us,hl with|[_],_=>rfl
 have F_check_numbers_:=cI (st:=(top 18)) l_check_numbers c_check_numbers_ k_check_numbers
 have b_check_numbers:=F_check_numbers_.binds (ps:=["bed"]) fun _ _ _ _ _ _ us hl=>match us,hl with|[_],_=>rfl
 have F_is_letter_:=cI (st:=(top 24)) l_is_letter c_is_letter_ k_is_letter
 have b_is_letter:=F_is_letter_.binds (ps:=["text"]) fun _ _ _ _ _ _ us hl=>match us,hl with|[_],_=>rfl
 have F_may_mean_:=cI (st:=(top 20)) l_may_mean c_may_mean_ k_may_mean
 have b_may_mean:=F_may_mean_.binds (ps:=["meaning","layer","layers"]) fun _ _ _ _ _ _ us hl=>match us,hl with|[_,_,_],_=>rfl
 have F_check_layer_:=cI (st:=(top 19)) l_check_layer c_check_layer_ k_check_layer
 have b_check_layer:=F_check_layer_.binds (ps:=["bed","layer"]) fun _ _ _ _ _ _ us hl=>match us,hl with|[_,_],_=>rfl
 have F_rises_:=cI (st:=(top 23)) l_rises c_rises_ k_rises
 have b_rises:=F_rises_.binds (ps:=["keys"]) fun _ _ _ _ _ _ us hl=>match us,hl with|[_],_=>rfl
 have F_is_chord_set_:=cI (st:=(top 22)) l_is_chord_set c_is_chord_set_ k_is_chord_set
 have b_is_chord_set:=F_is_chord_set_.binds (ps:=["bed","keys"]) fun _ _ _ _ _ _ us hl=>match us,hl with|[_,_],_=>rfl
 have F_check_chord_:=cI (st:=(top 21)) l_check_chord c_check_chord_ k_check_chord
 have b_check_chord:=F_check_chord_.binds (ps:=["bed","place"]) fun _ _ _ _ _ _ us hl=>match us,hl with|[_,_],_=>rfl
 have F_checked_:=cI (st:=(top 17)) l_checked c_checked_ k_checked
 have b_checked:=F_checked_.binds (ps:=["bed"]) fun _ _ _ _ _ _ us hl=>match us,hl with|[_],_=>rfl
 have F__law_whole_:=cI (st:=(top 30)) l__law_whole c__law_whole_ k__law_whole
 have b__law_whole:=F__law_whole_.binds (ps:=["_law_thing"]) fun _ _ _ _ _ _ us hl=>match us,hl with|[_],_=>rfl
 have F__law_kind_:=cI (st:=(top 36)) l__law_kind c__law_kind_ k__law_kind
 have b__law_kind:=F__law_kind_.binds (ps:=["_law_e"]) fun _ _ _ _ _ _ us hl=>match us,hl with|[_],_=>rfl
 have F__law_told_:=cI (st:=(top 45)) l__law_told c__law_told_ k__law_told
 have b__law_told:=F__law_told_.binds (ps:=["_law_bed_here"]) fun _ _ _ _ _ _ us hl=>match us,hl with|[_],_=>rfl
 have F_law_:=cI (st:=(top 46)) l_law c_law_ k_law
 have b_law:=F_law_.binds (ps:=["_law_script"]) fun _ _ _ _ _ _ us hl=>match us,hl with|[_],_=>rfl
 have F_NoBed___init___:=cI (st:=(fW (top 4) 0)) l_NoBed___init__ c_NoBed___init___ k_NoBed___init__
 have b_NoBed___init__:=F_NoBed___init___.binds (ps:=["self","layer","key"]) fun _ _ _ _ _ _ us hl=>match us,hl with|[_,_,_],_=>rfl
 have F_NoChord___init___:=cI (st:=(fW (top 5) 0)) l_NoChord___init__ c_NoChord___init___ k_NoChord___init__
 have b_NoChord___init__:=F_NoChord___init___.binds (ps:=["self","place"]) fun _ _ _ _ _ _ us hl=>match us,hl with|[_,_],_=>rfl
 refine⟨PySem.W.fnOf "law" "law" (bN (top 46)) (ax (top 46)) (aw (top 46)) .none kV28 dc28 pm28 an28 cd28 ct28,fun s v=> .of_eq rfl,fun base _ _=> ?_⟩
 have c__law_cell:L3.cW l.prog w K mg base 1 "_law_cell" ["_law_script","_law_k"] 2 bJ:=⟨f__law_cell,_,sk F__law_cell_,b__law_cell,k__law_cell,PySem.W.mg_of X G a__law_cell⟩
 have c__law_stirred:L3.cW l.prog w K mg base 1 "_law_stirred" ["_law_cell_here","_law_salt"] 2 cz:=⟨f__law_stirred,_,nA F__law_stirred_,b__law_stirred,k__law_stirred,PySem.W.mg_of X G a__law_stirred⟩
 have c__law_stream:L3.cW l.prog w K mg base 2 "_law_stream" ["_law_cell_here","_law_many"] 2 eU:=⟨f__law_stream,_,o5 F__law_stream_ c__law_stirred z_max z_range,b__law_stream,k__law_stream,PySem.W.mg_of X G a__law_stream⟩
 have c__law_letter:L3.cW l.prog w K mg base 1 "_law_letter" ["_law_cell_here"] 1 bK:=⟨f__law_letter,_,om F__law_letter_,b__law_letter,k__law_letter,PySem.W.mg_of X G a__law_letter⟩
 have c__law_meaning_of:L3.cW l.prog w K mg base 2 "_law_meaning_of" ["_law_rest","_law_layer","_law_layers"] 3 cR:=⟨f__law_meaning_of,_,kQ F__law_meaning_of_ c__law_letter z_max,b__law_meaning_of,k__law_meaning_of,PySem.W.mg_of X G a__law_meaning_of⟩
 have c__law_read_bed:L3.cW l.prog w K mg base 3 "_law_read_bed" ["_law_xs"] 1 dM:=⟨f__law_read_bed,_,mK F__law_read_bed_ c__law_meaning_of c__law_letter z_range z_tuple z_len,b__law_read_bed,k__law_read_bed,PySem.W.mg_of X G a__law_read_bed⟩
 have c__law_wide:L3.cW l.prog w K mg base 2 "_law_wide" ["_law_cell_here","_law_salt"] 2 bH:=⟨f__law_wide,_,sj F__law_wide_ c__law_stirred z_max,b__law_wide,k__law_wide,PySem.W.mg_of X G a__law_wide⟩
 have c__law_meaning:L3.cW l.prog w K mg base 2 "_law_meaning" ["_law_cell_here","_law_layer","_law_layers"] 3 dB:=⟨f__law_meaning,_,nk F__law_meaning_ c__law_letter z_max,b__law_meaning,k__law_meaning,PySem.W.mg_of X G a__law_meaning⟩
 have c__law_bed:L3.cW l.prog w K mg base 4 "_law_bed" ["_law_script","_law_at"] 2 gc:=⟨f__law_bed,_,ui F__law_bed_ c__law_cell c__law_stream c__law_read_bed c__law_wide c__law_meaning c__law_letter z_int z_range z_tuple z_len,b__law_bed,k__law_bed,PySem.W.mg_of X G a__law_bed⟩
 have c__law_put:L3.cW l.prog w K mg base 1 "_law_put" ["_law_row","_law_at","_law_thing"] 3 aQ:=⟨f__law_put,_,ux F__law_put_,b__law_put,k__law_put,PySem.W.mg_of X G a__law_put⟩
 have c__law_chords_changed:L3.cW l.prog w K mg base 2 "_law_chords_changed" ["_law_chords","_law_keys","_law_way","_law_x"] 4 b8:=⟨f__law_chords_changed,_,jp F__law_chords_changed_ c__law_put z_len z_tuple z_sorted,b__law_chords_changed,k__law_chords_changed,PySem.W.mg_of X G a__law_chords_changed⟩
 have c__law_bad_meaning:L3.cW l.prog w K mg base 1 "_law_bad_meaning" ["_law_x","_law_layers"] 2 cf:=⟨f__law_bad_meaning,_,kB F__law_bad_meaning_,b__law_bad_meaning,k__law_bad_meaning,PySem.W.mg_of X G a__law_bad_meaning⟩
 have c__law_changed:L3.cW l.prog w K mg base 3 "_law_changed" ["_law_bed_here","_law_way","_law_x"] 3 cZ:=⟨f__law_changed,_,nE F__law_changed_ c__law_put c__law_chords_changed c__law_bad_meaning z_len z_max,b__law_changed,k__law_changed,PySem.W.mg_of X G a__law_changed⟩
 have c__law_is_letter:L3.cW l.prog w K mg base 1 "_law_is_letter" ["_law_sign"] 1 cv:=⟨f__law_is_letter,_,lK F__law_is_letter_ z_len,b__law_is_letter,k__law_is_letter,PySem.W.mg_of X G a__law_is_letter⟩
 have c__law_means:L3.cW l.prog w K mg base 2 "_law_means" ["_law_meaning_here","_law_layer","_law_layers"] 3 fL:=⟨f__law_means,_,pI F__law_means_ c__law_is_letter,b__law_means,k__law_means,PySem.W.mg_of X G a__law_means⟩
 have c__law_chord_good:L3.cW l.prog w K mg base 2 "_law_chord_good" ["_law_chords","_law_place","_law_keys","_law_plain"] 4 df:=⟨f__law_chord_good,_,lc F__law_chord_good_ c__law_is_letter z_len z_list z_sorted z_set z_all,b__law_chord_good,k__law_chord_good,PySem.W.mg_of X G a__law_chord_good⟩
 have c__law_due:L3.cW l.prog w K mg base 3 "_law_due" ["_law_bed_here"] 1 f8:=⟨f__law_due,_,um F__law_due_ c__law_means c__law_chord_good z_len z_range,b__law_due,k__law_due,PySem.W.mg_of X G a__law_due⟩
 have c_is_letter:L3.cW l.prog w K mg base 1 "is_letter" ["text"] 1 dq:=⟨f_is_letter,_,sM F_is_letter_ z_len,b_is_letter,k_is_letter,PySem.W.mg_of X G a_is_letter⟩
 have c_may_mean:L3.cW l.prog w K mg base 2 "may_mean" ["meaning","layer","layers"] 3 gh:=⟨f_may_mean,_,tH F_may_mean_ c_is_letter,b_may_mean,k_may_mean,PySem.W.mg_of X G a_may_mean⟩
 have c_rises:L3.cW l.prog w K mg base 1 "rises" ["keys"] 1 j9:=⟨f_rises,_,AW F_rises_ z_all z_zip,b_rises,k_rises,PySem.W.mg_of X G a_rises⟩
 have c_is_chord_set:L3.cW l.prog w K mg base 2 "is_chord_set" ["bed","keys"] 2 dD:=⟨f_is_chord_set,_,nF F_is_chord_set_ c_rises z_len z_all,b_is_chord_set,k_is_chord_set,PySem.W.mg_of X G a_is_chord_set⟩
 have c__law_whole:L3.cW l.prog w K mg base 1 "_law_whole" ["_law_thing"] 1 dk:=⟨f__law_whole,_,pF F__law_whole_ z_isinstance z_int z_bool,b__law_whole,k__law_whole,PySem.W.mg_of X G a__law_whole⟩
 have okR:PySem.W.nsOkIn K NR=true:=by unfold PySem.W.nsOkIn;rw[lR];exact okR
 have XR:L4.lG K C_NoBed (.ref C_BedError::[.type "ValueError",.type "Exception",.type "BaseException",.type "object"]):=⟨_,_,_,_,_,_,_,_,_,_,_,_,_,_,_,_,xR⟩
 have LR:L4.ExLook K C_NoBed (.ref C_BedError::[.type "ValueError",.type "Exception",.type "BaseException",.type "object"]):=⟨XR,rfl,gaR,gtR,csR,obR⟩
 have YR:L9.XC K C_NoBed C_BedError f_NoBed___init__:=⟨⟨_,_,_,_,_,_,_,_,_,_,_,_,_,_,xR,okR,inR⟩,eI,saR⟩
 have okS:PySem.W.nsOkIn K NS=true:=by unfold PySem.W.nsOkIn;rw[lS];exact okS
 have XS:L4.lG K C_NoChord (.ref C_BedError::[.type "ValueError",.type "Exception",.type "BaseException",.type "object"]):=⟨_,_,_,_,_,_,_,_,_,_,_,_,_,_,_,_,xS⟩
 have LS:L4.ExLook K C_NoChord (.ref C_BedError::[.type "ValueError",.type "Exception",.type "BaseException",.type "object"]):=⟨XS,rfl,gaS,gtS,csS,obS⟩
 have YS:L9.XC K C_NoChord C_BedError f_NoChord___init__:=⟨⟨_,_,_,_,_,_,_,_,_,_,_,_,_,_,xS,okS,inS⟩,eI,saS⟩
 have XB:L4.lG K C_BedError mB:=⟨_,_,_,_,_,_,_,_,_,_,_,_,_,_,_,_,xB⟩
 have m_NoBed:=PySem.W.mg_of X G aC_NoBed
 have m_NoChord:=PySem.W.mg_of X G aC_NoChord
 have m_NoText:=PySem.W.mg_of X G aC_NoText
 have m_NoBook:=PySem.W.mg_of X G aC_NoBook
 have m_NoWord:=PySem.W.mg_of X G aC_NoWord
 have m_NoFrame:=PySem.W.mg_of X G aC_NoFrame
 have m_NoReading:=PySem.W.mg_of X G aC_NoReading
 have m_TooMany:=PySem.W.mg_of X G aC_TooMany
 have m_NoKeys:=PySem.W.mg_of X G aC_NoKeys
 have m_NoRow:=PySem.W.mg_of X G aC_NoRow
 have m_BedError:=PySem.W.mg_of X G aC_BedError
 have c_kindR:pZ l.prog w K mg base 1 "_law_kind" ["_law_e"] (lH C_NoBed 0):=⟨f__law_kind,_,wZ (j:=0) (by decide) F__law_kind_ LR m_NoBed m_NoChord m_NoText m_NoBook m_NoWord m_NoFrame m_NoReading m_TooMany m_NoKeys m_NoRow (tZ _) (eY suR ic_NoChord ty_NoChord suR_NoChord) (eY suR ic_NoText ty_NoText suR_NoText) (eY suR ic_NoBook ty_NoBook suR_NoBook) (eY suR ic_NoWord ty_NoWord suR_NoWord) (eY suR ic_NoFrame ty_NoFrame suR_NoFrame) (eY suR ic_NoReading ty_NoReading suR_NoReading) (eY suR ic_TooMany ty_TooMany suR_TooMany) (eY suR ic_NoKeys ty_NoKeys suR_NoKeys) (eY suR ic_NoRow ty_NoRow suR_NoRow) (yS svR) z_isinstance z_ValueError,b__law_kind,k__law_kind,PySem.W.mg_of X G a__law_kind⟩
 have c_kindS:pZ l.prog w K mg base 1 "_law_kind" ["_law_e"] (lH C_NoChord 1):=⟨f__law_kind,_,wZ (j:=1) (by decide) F__law_kind_ LS m_NoBed m_NoChord m_NoText m_NoBook m_NoWord m_NoFrame m_NoReading m_TooMany m_NoKeys m_NoRow (eY suS ic_NoBed ty_NoBed suS_NoBed) (tZ _) (eY suS ic_NoText ty_NoText suS_NoText) (eY suS ic_NoBook ty_NoBook suS_NoBook) (eY suS ic_NoWord ty_NoWord suS_NoWord) (eY suS ic_NoFrame ty_NoFrame suS_NoFrame) (eY suS ic_NoReading ty_NoReading suS_NoReading) (eY suS ic_TooMany ty_TooMany suS_TooMany) (eY suS ic_NoKeys ty_NoKeys suS_NoKeys) (eY suS ic_NoRow ty_NoRow suS_NoRow) (yS svS) z_isinstance z_ValueError,b__law_kind,k__law_kind,PySem.W.mg_of X G a__law_kind⟩
 have oR:=uh (P:=l.prog) (w:=w) (mg:=mg) (base:=base) F_NoBed___init___ YR m_BedError rdB fcB spB pR_layer pR_key
 have oS:=ym (P:=l.prog) (w:=w) (mg:=mg) (base:=base) F_NoChord___init___ YS m_BedError rdB fcB spB pS_place
 have c_check_numbers:L4.pG l.prog w K mg base 3 "check_numbers" ["bed"] 1 cX:=⟨f_check_numbers,_,lB F_check_numbers_ YR l_NoBed___init__ i_NoBed___init__ oR b_NoBed___init__ aC_NoBed m_NoBed z_len m_MOST_KEYS m_MOST_LAYERS m_MOST_CHORDS m_MOST_WAIT,b_check_numbers,k_check_numbers,PySem.W.mg_of X G a_check_numbers⟩
 have c_check_layer:L4.pG l.prog w K mg base 3 "check_layer" ["bed","layer"] 2 c7:=⟨f_check_layer,_,nB F_check_layer_ YR l_NoBed___init__ i_NoBed___init__ oR b_NoBed___init__ aC_NoBed m_NoBed c_may_mean z_len z_enumerate,b_check_layer,k_check_layer,PySem.W.mg_of X G a_check_layer⟩
 have c_check_chord:L4.pG l.prog w K mg base 3 "check_chord" ["bed","place"] 2 ez:=⟨f_check_chord,_,nt F_check_chord_ YS l_NoChord___init__ i_NoChord___init__ oS b_NoChord___init__ aC_NoChord m_NoChord c_is_letter c_is_chord_set,b_check_chord,k_check_chord,PySem.W.mg_of X G a_check_chord⟩
 have c_checked:L4.pG l.prog w K mg base 4 "checked" ["bed"] 1 dg:=⟨f_checked,_,tN F_checked_ c_check_numbers c_check_layer c_check_chord z_range z_len,b_checked,k_checked,PySem.W.mg_of X G a_checked⟩
 have c__law_told:L3.cW l.prog w K mg base 6 "_law_told" ["_law_bed_here"] 1 bM:=⟨f__law_told,_,BT F__law_told_ c_kindR c_kindS c_checked m_BedError XB beB XR (by rw[List.contains_cons,List.contains_cons,beq_self_eq_true,Bool.true_or,Bool.or_true]) aC_NoBed LR hdR pR_layer pR_key XS (by rw[List.contains_cons,List.contains_cons,beq_self_eq_true,Bool.true_or,Bool.or_true]) aC_NoChord LS hdS pS_place,b__law_told,k__law_told,PySem.W.mg_of X G a__law_told⟩
 exact Dw F_law_ c__law_bed c__law_cell c__law_wide c__law_changed c__law_due c__law_told c__law_whole z_range z_all
end K22
noncomputable def PySem.W.Fast.tw10113516494039447058:Unit:=()
noncomputable def PySem.W.Fast.tw17478584656667322258:Unit:=()
noncomputable def PySem.W.Fast.tw14869492366349487911:Unit:=()
noncomputable def PySem.W.Fast.tw1597987002918927569:Unit:=()
noncomputable def PySem.W.Fast.tw2629202289765369860:Unit:=()
noncomputable def PySem.W.Fast.tw17003251442804354525:Unit:=()
noncomputable def PySem.W.Fast.tw14326289152692547387:Unit:=()
noncomputable def PySem.W.Fast.tw15007523264147057643:Unit:=()
noncomputable def PySem.W.Fast.tw16749327674861260472:Unit:=()
noncomputable def PySem.W.Fast.tw15265980216508530186:Unit:=()
noncomputable def PySem.W.Fast.tw16654486379544025177:Unit:=()
noncomputable def PySem.W.Fast.tw10977755008215555679:Unit:=()
open PySem PySem.W PyProof.Rows
set_option maxRecDepth 100000 in
set_option maxHeartbeats 0 in
theorem PySem.Challenge.cw_chordbed_k22_whole_the_first_refusal_holds : PySem.Challenge.rw_chordbed_k22_whole_the_first_refusal.Holds := by
 w_on;o_law;k_head;(case hw=>w_witness2)
 k_fill
 refine L3.Gm (l:=PySem.Challenge.rw_chordbed_k22_whole_the_first_refusal) (n:=63) (k:=7) (x:= "_law_script") (F:=K22.F_lawH) rfl (by decide) rfl ⟨rfl,by decide,by decide⟩ (fun w h Y=>PySem.W.kIn_of Y) ?F K22.main
 case F=>
  intro w mg fa h KX G hmg
  refine' K22.all_mk KX G hmg ?a__law_cell ?l__law_cell ?c__law_cell_ ?k__law_cell ?a__law_stirred ?l__law_stirred ?c__law_stirred_ ?k__law_stirred ?a__law_stream ?l__law_stream ?c__law_stream_ ?k__law_stream ?a__law_letter ?l__law_letter ?c__law_letter_ ?k__law_letter ?a__law_meaning_of ?l__law_meaning_of ?c__law_meaning_of_ ?k__law_meaning_of ?a__law_read_bed ?l__law_read_bed ?c__law_read_bed_ ?k__law_read_bed ?a__law_wide ?l__law_wide ?c__law_wide_ ?k__law_wide ?a__law_meaning ?l__law_meaning ?c__law_meaning_ ?k__law_meaning ?a__law_bed ?l__law_bed ?c__law_bed_ ?k__law_bed ?a__law_put ?l__law_put ?c__law_put_ ?k__law_put ?a__law_chords_changed ?l__law_chords_changed ?c__law_chords_changed_ ?k__law_chords_changed ?a__law_bad_meaning ?l__law_bad_meaning ?c__law_bad_meaning_ ?k__law_bad_meaning ?a__law_changed ?l__law_changed ?c__law_changed_ ?k__law_changed ?a__law_is_letter ?l__law_is_letter ?c__law_is_letter_ ?k__law_is_letter ?a__law_means ?l__law_means ?c__law_means_ ?k__law_means ?a__law_chord_good ?l__law_chord_good ?c__law_chord_good_ ?k__law_chord_good ?a__law_due ?l__law_due ?c__law_due_ ?k__law_due ?a_check_numbers ?l_check_numbers ?c_check_numbers_ ?k_check_numbers ?a_is_letter ?l_is_letter ?c_is_letter_ ?k_is_letter ?a_may_mean ?l_may_mean ?c_may_mean_ ?k_may_mean ?a_check_layer ?l_check_layer ?c_check_layer_ ?k_check_layer ?a_rises ?l_rises ?c_rises_ ?k_rises ?a_is_chord_set ?l_is_chord_set ?c_is_chord_set_ ?k_is_chord_set ?a_check_chord ?l_check_chord ?c_check_chord_ ?k_check_chord ?a_checked ?l_checked ?c_checked_ ?k_checked ?a__law_whole ?l__law_whole ?c__law_whole_ ?k__law_whole ?a__law_kind ?l__law_kind ?c__law_kind_ ?k__law_kind ?a__law_told ?l__law_told ?c__law_told_ ?k__law_told ?a_law ?l_law ?c_law_ ?k_law ?aN_MOST_KEYS ?aN_MOST_LAYERS ?aN_MOST_CHORDS ?aN_MOST_WAIT ?y_len ?y_range ?y_enumerate ?y_tuple ?y_isinstance ?y_ValueError ?y_max ?y_int ?y_sorted ?y_list ?y_set ?y_all ?y_zip ?y_bool ?aC_NoBed ?aC_NoFrame ?aC_NoChord ?aC_NoReading ?aC_NoKeys ?aC_NoRow ?aC_NoText ?aC_NoWord ?aC_TooMany ?aC_NoBook ?aC_BedError ?xR ?xS ?xB ?eI ?beB ?gaR ?gtR ?csR ?obR ?suR ?svR ?suR_NoChord ?suR_NoText ?suR_NoBook ?suR_NoWord ?suR_NoFrame ?suR_NoReading ?suR_TooMany ?suR_NoKeys ?suR_NoRow ?lR ?okR ?inR ?saR ?hdR ?pR_layer ?pR_key ?gaS ?gtS ?csS ?obS ?suS ?svS ?suS_NoBed ?suS_NoText ?suS_NoBook ?suS_NoWord ?suS_NoFrame ?suS_NoReading ?suS_TooMany ?suS_NoKeys ?suS_NoRow ?lS ?okS ?inS ?saS ?hdS ?pS_place ?ic_NoBed ?ty_NoBed ?ic_NoChord ?ty_NoChord ?ic_NoText ?ty_NoText ?ic_NoBook ?ty_NoBook ?ic_NoWord ?ty_NoWord ?ic_NoFrame ?ty_NoFrame ?ic_NoReading ?ty_NoReading ?ic_TooMany ?ty_TooMany ?ic_NoKeys ?ty_NoKeys ?ic_NoRow ?ty_NoRow ?rdB ?fcB ?spB ?a_NoBed___init__ ?i_NoBed___init__ ?l_NoBed___init__ ?c_NoBed___init___ ?k_NoBed___init__ ?a_NoChord___init__ ?i_NoChord___init__ ?l_NoChord___init__ ?c_NoChord___init___ ?k_NoChord___init__
  (case a__law_cell=>k_is)
  (case l__law_cell=>k_is)
  (case c__law_cell_=>k_is)
  (case k__law_cell=>k_is)
  (case a__law_stirred=>k_is)
  (case l__law_stirred=>k_is)
  (case c__law_stirred_=>k_is)
  (case k__law_stirred=>k_is)
  (case a__law_stream=>k_is)
  (case l__law_stream=>k_is)
  (case c__law_stream_=>k_is)
  (case k__law_stream=>k_is)
  (case a__law_letter=>k_is)
  (case l__law_letter=>k_is)
  (case c__law_letter_=>k_is)
  (case k__law_letter=>k_is)
  (case a__law_meaning_of=>k_is)
  (case l__law_meaning_of=>k_is)
  (case c__law_meaning_of_=>k_is)
  (case k__law_meaning_of=>k_is)
  (case a__law_read_bed=>k_is)
  (case l__law_read_bed=>k_is)
  (case c__law_read_bed_=>k_is)
  (case k__law_read_bed=>k_is)
  (case a__law_wide=>k_is)
  (case l__law_wide=>k_is)
  (case c__law_wide_=>k_is)
  (case k__law_wide=>k_is)
  (case a__law_meaning=>k_is)
  (case l__law_meaning=>k_is)
  (case c__law_meaning_=>k_is)
  (case k__law_meaning=>k_is)
  (case a__law_bed=>k_is)
  (case l__law_bed=>k_is)
  (case c__law_bed_=>k_is)
  (case k__law_bed=>k_is)
  (case a__law_put=>k_is)
  (case l__law_put=>k_is)
  (case c__law_put_=>k_is)
  (case k__law_put=>k_is)
  (case a__law_chords_changed=>k_is)
  (case l__law_chords_changed=>k_is)
  (case c__law_chords_changed_=>k_is)
  (case k__law_chords_changed=>k_is)
  (case a__law_bad_meaning=>k_is)
  (case l__law_bad_meaning=>k_is)
  (case c__law_bad_meaning_=>k_is)
  (case k__law_bad_meaning=>k_is)
  (case a__law_changed=>k_is)
  (case l__law_changed=>k_is)
  (case c__law_changed_=>k_is)
  (case k__law_changed=>k_is)
  (case a__law_is_letter=>k_is)
  (case l__law_is_letter=>k_is)
  (case c__law_is_letter_=>k_is)
  (case k__law_is_letter=>k_is)
  (case a__law_means=>k_is)
  (case l__law_means=>k_is)
  (case c__law_means_=>k_is)
  (case k__law_means=>k_is)
  (case a__law_chord_good=>k_is)
  (case l__law_chord_good=>k_is)
  (case c__law_chord_good_=>k_is)
  (case k__law_chord_good=>k_is)
  (case a__law_due=>k_is)
  (case l__law_due=>k_is)
  (case c__law_due_=>k_is)
  (case k__law_due=>k_is)
  (case a_check_numbers=>k_is)
  (case l_check_numbers=>k_is)
  (case c_check_numbers_=>k_is)
  (case k_check_numbers=>k_is)
  (case a_is_letter=>k_is)
  (case l_is_letter=>k_is)
  (case c_is_letter_=>k_is)
  (case k_is_letter=>k_is)
  (case a_may_mean=>k_is)
  (case l_may_mean=>k_is)
  (case c_may_mean_=>k_is)
  (case k_may_mean=>k_is)
  (case a_check_layer=>k_is)
  (case l_check_layer=>k_is)
  (case c_check_layer_=>k_is)
  (case k_check_layer=>k_is)
  (case a_rises=>k_is)
  (case l_rises=>k_is)
  (case c_rises_=>k_is)
  (case k_rises=>k_is)
  (case a_is_chord_set=>k_is)
  (case l_is_chord_set=>k_is)
  (case c_is_chord_set_=>k_is)
  (case k_is_chord_set=>k_is)
  (case a_check_chord=>k_is)
  (case l_check_chord=>k_is)
  (case c_check_chord_=>k_is)
  (case k_check_chord=>k_is)
  (case a_checked=>k_is)
  (case l_checked=>k_is)
  (case c_checked_=>k_is)
  (case k_checked=>k_is)
  (case a__law_whole=>k_is)
  (case l__law_whole=>k_is)
  (case c__law_whole_=>k_is)
  (case k__law_whole=>k_is)
  (case a__law_kind=>k_is)
  (case l__law_kind=>k_is)
  (case c__law_kind_=>k_is)
  (case k__law_kind=>k_is)
  (case a__law_told=>k_is)
  (case l__law_told=>k_is)
  (case c__law_told_=>k_is)
  (case k__law_told=>k_is)
  (case a_law=>k_is)
  (case l_law=>k_is)
  (case c_law_=>k_is)
  (case k_law=>k_is)
  (case aN_MOST_KEYS=>k_is)
  (case aN_MOST_LAYERS=>k_is)
  (case aN_MOST_CHORDS=>k_is)
  (case aN_MOST_WAIT=>k_is)
  (case y_len=>k_is)
  (case y_range=>k_is)
  (case y_enumerate=>k_is)
  (case y_tuple=>k_is)
  (case y_isinstance=>k_is)
  (case y_ValueError=>k_is)
  (case y_max=>k_is)
  (case y_int=>k_is)
  (case y_sorted=>k_is)
  (case y_list=>k_is)
  (case y_set=>k_is)
  (case y_all=>k_is)
  (case y_zip=>k_is)
  (case y_bool=>k_is)
  (case aC_NoBed=>k_is)
  (case aC_NoFrame=>k_is)
  (case aC_NoChord=>k_is)
  (case aC_NoReading=>k_is)
  (case aC_NoKeys=>k_is)
  (case aC_NoRow=>k_is)
  (case aC_NoText=>k_is)
  (case aC_NoWord=>k_is)
  (case aC_TooMany=>k_is)
  (case aC_NoBook=>k_is)
  (case aC_BedError=>k_is)
  (case xR=>k_is)
  (case xS=>k_is)
  (case xB=>k_is)
  (case eI=>k_exc)
  (case beB=>first|rfl|decide+kernel)
  (case gaR=>k_is)
  (case gtR=>k_is)
  (case csR=>k_is)
  (case obR=>k_is)
  (case suR=>k_is)
  (case svR=>k_is)
  (case suR_NoChord=>k_is)
  (case suR_NoText=>k_is)
  (case suR_NoBook=>k_is)
  (case suR_NoWord=>k_is)
  (case suR_NoFrame=>k_is)
  (case suR_NoReading=>k_is)
  (case suR_TooMany=>k_is)
  (case suR_NoKeys=>k_is)
  (case suR_NoRow=>k_is)
  (case lR=>k_is)
  (case okR=>(rw[←Array.all_toList];rfl))
  (case inR=>k_is)
  (case saR=>k_is)
  (case hdR=>k_is)
  (case pR_layer=>k_is)
  (case pR_key=>k_is)
  (case gaS=>k_is)
  (case gtS=>k_is)
  (case csS=>k_is)
  (case obS=>k_is)
  (case suS=>k_is)
  (case svS=>k_is)
  (case suS_NoBed=>k_is)
  (case suS_NoText=>k_is)
  (case suS_NoBook=>k_is)
  (case suS_NoWord=>k_is)
  (case suS_NoFrame=>k_is)
  (case suS_NoReading=>k_is)
  (case suS_TooMany=>k_is)
  (case suS_NoKeys=>k_is)
  (case suS_NoRow=>k_is)
  (case lS=>k_is)
  (case okS=>(rw[←Array.all_toList];rfl))
  (case inS=>k_is)
  (case saS=>k_is)
  (case hdS=>k_is)
  (case pS_place=>k_is)
  (case ic_NoBed=>k_is)
  (case ty_NoBed=>k_is)
  (case ic_NoChord=>k_is)
  (case ty_NoChord=>k_is)
  (case ic_NoText=>k_is)
  (case ty_NoText=>k_is)
  (case ic_NoBook=>k_is)
  (case ty_NoBook=>k_is)
  (case ic_NoWord=>k_is)
  (case ty_NoWord=>k_is)
  (case ic_NoFrame=>k_is)
  (case ty_NoFrame=>k_is)
  (case ic_NoReading=>k_is)
  (case ty_NoReading=>k_is)
  (case ic_TooMany=>k_is)
  (case ty_TooMany=>k_is)
  (case ic_NoKeys=>k_is)
  (case ty_NoKeys=>k_is)
  (case ic_NoRow=>k_is)
  (case ty_NoRow=>k_is)
  (case rdB=>k_is)
  (case fcB=>k_is)
  (case spB=>k_is)
  (case a_NoBed___init__=>k_is)
  (case i_NoBed___init__=>k_is)
  (case l_NoBed___init__=>k_is)
  (case c_NoBed___init___=>k_is)
  (case k_NoBed___init__=>k_is)
  (case a_NoChord___init__=>k_is)
  (case i_NoChord___init__=>k_is)
  (case l_NoChord___init__=>k_is)
  (case c_NoChord___init___=>k_is)
  (case k_NoChord___init__=>k_is)
